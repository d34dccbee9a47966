/- The contracts of logtidemake's Int and Pick. -/
import Derived.Test.YtfmoidhpafpgnaaMake
import Derived.Test.YtfmoidhpafpgnaaPatNode
namespace Go.Proofs.Ytfmoidhpafpgnaa
open Go.RowKit

set_option maxRecDepth 100000 in
set_option maxHeartbeats 4000000 in
theorem pick_any (C b c : Nat) (L : List ByteArray) (w : World) (h : MkAt C w) (hb : C < b) (hc : ∀ i (hi : i < L.length), w.cell? ⟨b, i, none⟩ = some (.string L[i])) (h0 : 0 < L.length) (h1 : L.length ≤ 1000) :
    Calls Try.prog 16 #[.pointer (some ⟨C, 0, none⟩), .slice (some ⟨b, 0, none⟩) L.length c] w fun e w' => (∃ s : ByteArray, e = .returned (.string s) ∧ s ∈ L) ∧ MkAt C w' ∧ Fr C w w' := by
  have hn := next_any C L.length w h (by omega) (by omega)
  have H := Lib.hid (And.intro hn hc)
  clear hn hc h
  go_enter Try.func16, Try.ntmps16
  go_wp2_with fail
  refine (H.out.1).mono ?_
  rintro e w1 ⟨⟨z, rfl, hz0, hz1⟩, hm1, hf1⟩
  obtain ⟨i, rfl⟩ : ∃ i : Nat, z = (i : Int) := ⟨z.toNat, by omega⟩
  have hi : i < L.length := by omega
  have hcl : w1.cell? ⟨b, i, none⟩ = some (.string L[i]) := by
    have := H.out.2 i hi
    exact hf1.keeps (lo := b) hb b i _ (Nat.le_refl _) this
  have hmem : L[i] ∈ L := List.getElem_mem hi
  obtain ⟨x, hx⟩ : ∃ x, L[i] = x := ⟨_, rfl⟩
  rw [hx] at hcl hmem
  have K := Lib.hid (And.intro hm1 (And.intro hf1 hmem))
  clear hm1 hf1 hmem hx
  go_wp2
  go_ret
  exact ⟨⟨x, rfl, K.out.2.2⟩, K.out.1, K.out.2.1⟩

set_option maxRecDepth 100000 in
set_option maxHeartbeats 4000000 in
theorem int_any (C : Nat) (w : World) (h : MkAt C w) :
    Calls Try.prog 15 #[.pointer (some ⟨C, 0, none⟩)] w fun e w' => (∃ z : Int, e = .returned (.int .i64 z) ∧ i64In z) ∧ MkAt C w' ∧ Fr C w w' := by
  have hCl := h.lt
  have hm0 := h.alloc (.cells #[.int .i64 9223372036854775807, .int .i64 (-9223372036854775808), .int .i64 4294967296, .int .i64 (-1), .int .i64 (-2), .int .i64 65536, .int .i64 999, .int .i64 1000, .int .i64 253402300799999, .int .i64 253402300800000, .int .i64 0, .int .i64 41] 3)
  have hb0 := heap_alloc_new w (.cells #[.int .i64 9223372036854775807, .int .i64 (-9223372036854775808), .int .i64 4294967296, .int .i64 (-1), .int .i64 (-2), .int .i64 65536, .int .i64 999, .int .i64 1000, .int .i64 253402300799999, .int .i64 253402300800000, .int .i64 0, .int .i64 41] 3)
  have hf0 := (Fr.refl C w).alloc (.cells #[.int .i64 9223372036854775807, .int .i64 (-9223372036854775808), .int .i64 4294967296, .int .i64 (-1), .int .i64 (-2), .int .i64 65536, .int .i64 999, .int .i64 1000, .int .i64 253402300799999, .int .i64 253402300800000, .int .i64 0, .int .i64 41] 3)
  have hn0 := next_any C 4 _ hm0 (by omega) (by omega)
  have hz0 : (w.alloc (.cells #[.int .i64 9223372036854775807, .int .i64 (-9223372036854775808), .int .i64 4294967296, .int .i64 (-1), .int .i64 (-2), .int .i64 65536, .int .i64 999, .int .i64 1000, .int .i64 253402300799999, .int .i64 253402300800000, .int .i64 0, .int .i64 41] 3)).heap.size = w.heap.size + 1 := by simp
  have H := Lib.hid (And.intro hn0 (And.intro hb0 (And.intro hf0 hz0)))
  clear hn0 hb0 hf0 hm0 h hz0
  go_enter Try.func15, Try.ntmps15
  go_wp2_with fail
  refine (H.out.1).mono ?_
  rintro e w1 ⟨⟨z, rfl, hz0, hz1⟩, hm1, hf1⟩
  have hs1 := hf1.size
  rw [H.out.2.2.2] at hs1
  have hb1 := (World.grownBy.block hf1 w.heap.size (by rw [H.out.2.2.2]; omega) (by simp; omega)).trans H.out.2.1
  have hT := H.out.2.2.1.trans hf1
  by_cases h3 : z = 3
  · subst h3
    have hn := next_any C 12 w1 hm1 (by omega) (by omega)
    have K := Lib.hid (And.intro hn (And.intro hb1 hT))
    clear hn hb1 hT hm1 hf1
    go_wp2_with fail
    refine (K.out.1).mono ?_
    rintro e w2 ⟨⟨y, rfl, hy0, hy1⟩, hm2, hf2⟩
    have hb2 := (World.grownBy.block hf2 w.heap.size (by omega) (by simp; omega)).trans K.out.2.1
    obtain ⟨i, rfl⟩ : ∃ i : Nat, y = (i : Int) := ⟨y.toNat, by omega⟩
    obtain ⟨q, hq, hcq⟩ : ∃ q : Int, i64In q ∧ w2.cell? ⟨w.heap.size, i, none⟩ = some (.int .i64 q) := by
      have hi : i = 0 ∨ i = 1 ∨ i = 2 ∨ i = 3 ∨ i = 4 ∨ i = 5 ∨ i = 6 ∨ i = 7 ∨ i = 8 ∨ i = 9 ∨ i = 10 ∨ i = 11 := by omega
      rcases hi with rfl | rfl | rfl | rfl | rfl | rfl | rfl | rfl | rfl | rfl | rfl | rfl
      all_goals (rw [Lib.cell_of_heap hb2]; exact ⟨_, by unfold i64In; decide, rfl⟩)
    have K2 := Lib.hid (And.intro hm2 (And.intro (K.out.2.2.trans hf2) hq))
    clear hm2 hf2 hb2 hq
    go_wp2
    go_ret
    exact ⟨⟨q, rfl, K2.out.2.2⟩, K2.out.1, K2.out.2.1⟩
  · have e3 : (z == 3) = false := by rw [beq_eq_false_iff_ne]; exact h3
    have hn := next_any C 60 w1 hm1 (by omega) (by omega)
    have K := Lib.hid (And.intro hn hT)
    clear hn hb1 hT hm1 hf1
    go_wp2_with fail
    refine (K.out.1).mono ?_
    rintro e w2 ⟨⟨y, rfl, hy0, hy1⟩, hm2, hf2⟩
    have K2 := Lib.hid (And.intro hm2 (K.out.2.trans hf2))
    clear hm2 hf2
    have hw : IntKind.i64.wrap (y - 3) = y - 3 := IntWalk.i64_in _ (by omega)
    go_wp2
    go_ret
    exact ⟨⟨y - 3, rfl, by unfold i64In; omega⟩, K2.out.1, K2.out.2⟩
end Go.Proofs.Ytfmoidhpafpgnaa
