/- slices.Sorted of slices.Values of at most one int. -/
import Derived.Test.YtfihnmfbgdjkpaaHdV
namespace Go.Proofs.Ytfihnmfbgdjkpaa
open Go.RowKit Go.Shelf Go.Sort

theorem below_grow (w : World) (n : Nat) (os : Array Obj) : Below w.heap.size w (grow (Sort.ahead w n) os) :=
  ⟨rfl, rfl, rfl, by simp [grow, Sort.ahead], fun k hk => by simp [grow, Sort.ahead, Array.getElem?_append_left hk]⟩
theorem sort_one (g cap : Nat) (x : Int) (w : World) (B : Nat) (h : w.ownsRow B 3 1 (.slice (some ⟨g, 0, none⟩) 1 cap) 1 [iEnc x]) :
    Calls Try.prog 86 #[.slice (some ⟨g, 0, none⟩) 1 cap] w fun e w' => e = .returned (.tuple #[]) ∧ Below w.heap.size w w' := by
  have hH : ∀ n, Holds (Value.int .i64) (Sort.ahead w n) g 0 #[x] := fun n j hj => by
    have hj2 : j < 1 := hj
    obtain rfl : j = 0 := (by omega)
    exact ⟨(World.ownsRow.cellAt h 0 (by omega)), World.ownsRow.frozenAt h 0⟩
  have hlt : g < w.heap.size := by
    have := World.ownsRow.lt h g rfl
    exact this.2
  refine (Try.slices_Sort_int g 0 cap [x] w (hH 0) hlt (by show 1 < 4611686018427387904; decide)).mono fun e w' ⟨he, n, os, hw⟩ => ⟨he, ?_⟩
  rw [hw, List.mergeSort_singleton, putRow_self _ _ _ _ _ (hH n)]
  exact below_grow w n os
theorem sorted_any (Bs : Nat) (sv : Value) (zs : List Int) (hlen : zs.length ≤ 1) (w : World) (hBs : Bs < w.heap.size) (hc : w.cell? ⟨Bs, 0, none⟩ = some sv) (hI : IntsB w.heap.size w sv zs) :
    Calls Try.prog 44 #[.func (.func 87) #[] #[.pointer (some ⟨Bs, 0, none⟩)]] w fun e w' =>
      ∃ v, e = .returned v ∧ w'.ownsRow w.heap.size 3 1 v zs.length (zs.map iEnc) ∧ Below w.heap.size w w' := by
  have H := Lib.hid (collectI_any Bs sv zs (by omega) w hBs hc hI)
  clear hc hI
  match zs, hlen with
  | [], _ =>
    go_enter Try.func44, Try.ntmps44
    go_wp2_with fail
    refine H.out.mono ?_
    rintro e w1 ⟨v, rfl, hr, hb⟩
    obtain ⟨a, c, rfl⟩ : ∃ a c, v = .slice a 0 c := by
      rcases row_form hr with ⟨h1, -⟩ | ⟨g, c, h1, -⟩
      · exact ⟨_, _, h1⟩
      · exact ⟨_, _, h1⟩
    have HR := Lib.hid (And.intro hr hb)
    clear hr hb
    go_wp2_with fail
    refine (Try.slices_Sort_int_none _ _ _).mono ?_
    rintro e w2 ⟨rfl, rfl⟩
    go_wp2
    go_ret
    exact ⟨_, rfl, HR.out.1, HR.out.2⟩
  | [x], _ =>
    go_enter Try.func44, Try.ntmps44
    go_wp2_with fail
    refine H.out.mono ?_
    rintro e w1 ⟨v, rfl, hr, hb⟩
    obtain ⟨g, cap, rfl⟩ : ∃ g cap, v = .slice (some ⟨g, 0, none⟩) 1 cap := by
      rcases row_form hr with ⟨-, h2⟩ | ⟨g, c, h1, -⟩
      · cases h2
      · exact ⟨g, c, h1⟩
    have HR := Lib.hid (And.intro hr hb)
    clear hr hb
    go_wp2_with fail
    refine (sort_one g cap x w1 _ HR.out.1).mono ?_
    rintro e w2 ⟨rfl, hb2⟩
    have HB := Lib.hid hb2
    clear hb2
    go_wp2
    go_ret
    exact ⟨_, rfl, row_below HR.out.1 HB.out, bl_trans' HR.out.2 HB.out⟩
end Go.Proofs.Ytfihnmfbgdjkpaa
