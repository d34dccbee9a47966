/- The sanity check of the statements about chapter 1 answers true. -/
import Derived.Test.YtkopibaoolaelaaDoorRepair
import Derived.Test.YtkopibaoolaelaaDoorNumber
namespace Go.Proofs.YtkopibaoolaelaaDoor
open Go.RowKit

theorem ex_repB : repB [97, 200, 98] = [97, 63, 98] := by decide +kernel
theorem ex_repN : repN [97, 200, 98] = 1 := by decide +kernel
theorem ex_numV : numV [45, 48, 48, 55] = -7 := by decide +kernel
theorem ex_numB : numB [45, 48, 48, 55] = true := by decide +kernel

theorem bstep {w a b : World} (h : Below w.heap.size w a) (k : Below a.heap.size a b) : Below w.heap.size w b := h.trans (k.mono h.size)

theorem bytes_new (w : World) (l : List UInt8) (W : World) (hW : W.heap[w.heap.size]? = some (.cells (Lib.byteCells l).toArray 5 (0, 0))) : BytesAt W w.heap.size 0 l := fun j hj => by
  rw [Nat.zero_add, cell_of_row _ _ _ _ _ _ hW]
  simp [Lib.byteCells, byteAt, hj]

set_option maxRecDepth 100000 in
set_option maxHeartbeats 1000000 in
theorem awake_any (w : World) (hT : Tabs w) :
    Calls Tryd.prog 9 #[] w fun e w' => e = .returned (.bool true) ∧ Below w.heap.size w w' := by
  have hrep : ∀ W : World, Below w.heap.size w W → W.heap[w.heap.size]? = some (.cells (Lib.byteCells [97, 200, 98]).toArray 5 (0, 0)) →
      Calls Tryd.prog 18 #[.slice (some ⟨w.heap.size, 0, none⟩) 3 3] W fun e w' => e = .returned (.tuple #[.string ⟨#[97, 63, 98]⟩, .int .i64 1]) ∧ Below w.heap.size w w' := fun W hb hc => by
    refine (repair_any _ [97, 200, 98] (by decide) W (Utf8Tabs_below hT hb) (.inr ⟨w.heap.size, 0, 3, rfl, by decide, (Array.getElem?_eq_some_iff.1 hc).1, bytes_new w _ W hc⟩)).mono ?_
    rintro e w' ⟨rfl, hb'⟩
    rw [ex_repB, ex_repN]
    exact ⟨rfl, hb.trans (hb'.mono hb.size)⟩
  have HREP := Lib.hid hrep
  clear hrep
  go_enter Tryd.func9, Tryd.ntmps9
  have hnum : ∀ W : World, Calls Tryd.prog 29 #[.string ⟨#[45, 48, 48, 55]⟩] W fun e w' => e = .returned (.tuple #[.int .i64 (-7), .bool true]) ∧ Below W.heap.size W w' := fun W => by
    have h := number_any [45, 48, 48, 55] W
    rw [ex_numV, ex_numB] at h
    exact h
  have HNUM := Lib.hid hnum
  clear hnum
  go_wp2_with (go_at_call 18; refine (HREP.out _ ((Below.refl _ w).alloc (Nat.le_refl _) _) (heap_alloc_new w _)).mono ?_)
  rintro e w1 ⟨rfl, hb1⟩
  go_wp2_with (go_at_call 29; refine (HNUM.out _).mono ?_)
  rintro e w2 ⟨rfl, hb2⟩
  go_wp2
  go_ret
  exact ⟨rfl, hb1.trans (hb2.mono hb1.size)⟩
end Go.Proofs.YtkopibaoolaelaaDoor
