/- Choices of strings, logtidemake's Text of six parts and Line: some string of bounded size. -/
import Derived.Test.YtdjkemodlbbmaaaDoorMkA
namespace Go.Proofs.YtdjkemodlbbmaaaDoor
open Go.RowKit

/-- A list of strings of at most B bytes each. -/
def strsB (B : Nat) : List Value → Bool
  | [] => true
  | .string s :: r => decide (s.size ≤ B) && strsB B r
  | _ :: _ => false
theorem strsB_get {B : Nat} : ∀ {l : List Value} (_ : strsB B l = true) (i : Nat) (_ : i < l.length), ∃ s : ByteArray, l[i]? = some (.string s) ∧ s.size ≤ B
  | [], _, i, h => by simp at h
  | .string s :: r, h, 0, _ => by
    simp only [strsB, Bool.and_eq_true, decide_eq_true_iff] at h
    exact ⟨s, rfl, h.1⟩
  | .string s :: r, h, i + 1, hi => by
    simp only [strsB, Bool.and_eq_true] at h
    simp only [List.length_cons] at hi
    obtain ⟨t, e, ht⟩ := strsB_get h.2 i (by omega)
    exact ⟨t, by simpa using e, ht⟩

set_option maxRecDepth 100000 in
set_option maxHeartbeats 4000000 in
theorem pickB (C : Nat) (cs : Array Value) (T : TypeId) (w : World) (N B : Nat) (h : MkAt C w) (hN : cs.toList.length = N) (h0 : 0 < N) (h1 : N ≤ 1000) (hs : strsB B cs.toList = true) :
    Calls Tryd.prog 10 #[.pointer (some ⟨C, 0, none⟩), .slice (some ⟨w.heap.size, 0, none⟩) N N] (w.alloc (.cells cs T)) fun e w' => (∃ s : ByteArray, e = .returned (.string s) ∧ s.size ≤ B) ∧ MkAt C w' ∧ GFr C w w' := by
  have hlt := h.lt
  have hn := next_any C N _ (h.alloc (.cells cs T)) (by omega) (by omega)
  have hr : (w.alloc (.cells cs T)).heap[w.heap.size]? = some (.cells cs T (0, 0)) := heap_alloc_new _ _
  have hrs : w.heap.size < (w.alloc (.cells cs T)).heap.size := by simp
  have H := Lib.hid (And.intro hn (And.intro hr (And.intro (strsB_get hs) (And.intro hN hrs))))
  clear hn hr hs hN hrs
  go_enter Tryd.func10, Tryd.ntmps10
  go_wp2_with fail
  refine (H.out.1).mono ?_
  rintro e w1 ⟨⟨z, rfl, hz0, hz1⟩, hm1, hf1⟩
  obtain ⟨i, rfl⟩ : ∃ i : Nat, z = (i : Int) := ⟨z.toNat, by omega⟩
  have hi : i < N := by omega
  obtain ⟨x, hx, hxB⟩ := H.out.2.2.1 i (by rw [H.out.2.2.2.1]; exact hi)
  have hcl : w1.cell? ⟨w.heap.size, i, none⟩ = some (.string x) := by
    have hb := (World.grownBy.block hf1 w.heap.size H.out.2.2.2.2 (by simp; omega)).trans H.out.2.1
    rw [Lib.cell_of_heap hb, ← hx]
    simp
  have K := Lib.hid (And.intro hm1 (And.intro (((GFr.refl C w).alloc _).trans hf1) hxB))
  clear hm1 hf1 hxB hx
  go_wp2
  go_ret
  exact ⟨⟨x, rfl, K.out.2.2⟩, K.out.1, K.out.2.1⟩

set_option maxRecDepth 100000 in
set_option linter.unusedSimpArgs false in
set_option maxHeartbeats 8000000 in
theorem gtext6_any (C : Nat) (w : World) (h : MkAt C w) :
    Calls Tryd.prog 11 #[.pointer (some ⟨C, 0, none⟩), .int .i64 6] w fun e w' => (∃ s : ByteArray, e = .returned (.string s) ∧ s.size ≤ 24) ∧ MkAt C w' ∧ GFr C w w' := by
  have hn := next_any C 7 w h (by omega) (by omega)
  have H := Lib.hid hn
  clear hn h
  go_enter Tryd.func11, Tryd.ntmps11
  go_wp2_with fail
  refine (H.out).mono ?_
  rintro e w1 ⟨⟨z, rfl, hz0, hz1⟩, hm1, hf1⟩
  obtain ⟨k0, rfl⟩ : ∃ i : Nat, z = (i : Int) := ⟨z.toNat, by omega⟩
  have hk0 : k0 ≤ 6 := by omega
  have K := Lib.hid (And.intro hm1 hf1)
  clear hm1 hf1 hz0 hz1
  go_wp2_with fail
  go_loopw [5, 6] (fun sv nv wr => ∃ (x : ByteArray) (k : Nat), sv = .string x ∧ nv = .int .i64 k ∧ x.size + 4 * k ≤ 24 ∧ MkAt C wr ∧ GFr C w wr) (fun _ nv _ => (intOf nv).toNat)
  case atStart => exact ⟨⟨#[]⟩, k0, rfl, rfl, by have : (ByteArray.mk #[]).size = 0 := rfl; omega, K.out.1, K.out.2⟩
  case round =>
    obtain ⟨x, k, rfl, rfl, hx, hm, hf⟩ := hrel
    by_cases hk : 0 < k
    · have d1 : decide ((0 : Int) < (k : Int)) = true := by rw [decide_eq_true_iff]; omega
      have d2 : decide (0 < k) = true := by rw [decide_eq_true_iff]; omega
      have HI := Lib.hid (And.intro hm hf)
      clear hm hf
      go_wp2_with fail
      refine (pickB C _ _ _ 18 4 HI.out.1 rfl (by omega) (by omega) (by rfl)).mono ?_
      rintro e w2 ⟨⟨y, rfl, hy⟩, hm2, hf2⟩
      have HJ := Lib.hid (And.intro hm2 (HI.out.2.trans hf2))
      clear hm2 hf2
      have hcat : (x ++ y).size = x.size + y.size := ByteArray.size_append
      have HC := Lib.hid hcat
      clear hcat
      go_wp2
      go_roundw
      case rel => exact ⟨x ++ y, k - 1, rfl, by congr 1; omega, by have := HC.out; omega, HJ.out.1, HJ.out.2⟩
      case measure => simp [intOf]; omega
    · obtain rfl : k = 0 := by omega
      have HI := Lib.hid (And.intro hm hf)
      clear hm hf
      go_wp2
      go_ret
      exact ⟨⟨x, rfl, by omega⟩, HI.out.1, HI.out.2⟩

end Go.Proofs.YtdjkemodlbbmaaaDoor
