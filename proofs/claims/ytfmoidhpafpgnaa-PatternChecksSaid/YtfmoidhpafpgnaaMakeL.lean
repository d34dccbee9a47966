/- The contract of logtidemake's Leaf: it returns some node. -/
import Derived.Test.YtfmoidhpafpgnaaMake
namespace Go.Proofs.Ytfmoidhpafpgnaa
open Go.RowKit

/-- No node of the tree has more than k ranges or kids. -/
inductive Slim (k : Nat) : Nd → Prop
  | mk {op : Int} {rs : List (Nat × Nat)} {nm : ByteArray} {kids : List Nd} {mn mx : Int} (h1 : rs.length ≤ k) (h2 : kids.length ≤ k) (h3 : ∀ x ∈ kids, Slim k x) : Slim k (.mk op rs nm kids mn mx)
theorem slim_leaf (op : Int) : Slim 3 (ndLeaf op) := .mk (by simp) (by simp) (by simp)
theorem slim_class (rs : List (Nat × Nat)) (h : rs.length ≤ 3) : Slim 3 (ndClass rs) := .mk h (by simp) (by simp)
theorem slim_snoc {k : Nat} {l : List Nd} {t : Nd} (h : ∀ x ∈ l, Slim k x) (ht : Slim k t) : ∀ x ∈ l ++ [t], Slim k x := by
  intro x hx
  rcases List.mem_append.1 hx with h1 | h1
  · exact h x h1
  · rw [List.mem_singleton.1 h1]; exact ht
def MkOut (C lo : Nat) (w : World) (e : Ending) (w' : World) : Prop := ∃ (t : Nd) (v : Value), e = .returned v ∧ NodeIn lo w' t v ∧ MkAt C w' ∧ Fr C w w' ∧ Slim 3 t
theorem mk_put6 {C R : Nat} {w : World} (h : MkAt C w) (hR : C < R) (v0 v1 v2 v3 v4 v5 : Value) : MkAt C (put6 w R v0 v1 v2 v3 v4 v5) := by
  refine h.grown (row := some R) ?_ fun b hb => by cases hb; exact hR
  unfold put6
  have st : ∀ (W : World) (o : Nat) (v : Value), W.grownBy (W.setCell ⟨R, o, none⟩ v) (some R) := fun W o v => (Fr.refl R W).setCell o v
  exact Fr.trans (Fr.trans (Fr.trans (Fr.trans (Fr.trans (st _ _ _) (st _ _ _)) (st _ _ _)) (st _ _ _)) (st _ _ _)) (st _ _ _)

set_option maxRecDepth 100000 in
set_option maxHeartbeats 8000000 in
theorem leaf_any (C lo : Nat) (w : World) (h : MkAt C w) (_hC : C < lo) (hlo : lo ≤ w.heap.size) :
    Calls Try.prog 14 #[.pointer (some ⟨C, 0, none⟩)] w (MkOut C lo w) := by
  have hCl := h.lt
  have hn0 := next_any C 10 _ (h.alloc (.cells #[.int .i64 0, .slice none 0 0, .string ⟨#[]⟩, .slice none 0 0, .int .i64 0, .int .i64 0] 25)) (by omega) (by omega)
  have hR := SixAt.new w (.int .i64 0) (.slice none 0 0) (.string ⟨#[]⟩) (.slice none 0 0) (.int .i64 0) (.int .i64 0) 25
  have hf0 := (Fr.refl C w).alloc (.cells #[.int .i64 0, .slice none 0 0, .string ⟨#[]⟩, .slice none 0 0, .int .i64 0, .int .i64 0] 25)
  have H := Lib.hid (And.intro hn0 (And.intro hR hf0))
  clear hn0 hR hf0 h
  go_enter Try.func14, Try.ntmps14
  go_wp2_with fail
  refine (H.out.1).mono ?_
  rintro e w1 ⟨⟨z, rfl, hz0, hz1⟩, hm1, hf1⟩
  have hR1 := H.out.2.1.fr hf1 (by omega)
  have hz := hf1.size
  rw [Go.Deep.nblk_alloc] at hz
  have hT := H.out.2.2.trans hf1
  have hz6 : z = 0 ∨ z = 1 ∨ z = 2 ∨ z = 3 ∨ z = 4 ∨ z = 5 ∨ 6 ≤ z := by omega
  rcases hz6 with rfl | rfl | rfl | rfl | rfl | rfl | hz6
  · obtain ⟨r0, r1, r2, r3, r4, r5⟩ := hR1.cells
    obtain ⟨q0, q1, q2, q3, q4, q5⟩ := hR1.free
    have K := Lib.hid (And.intro hm1 hT)
    clear hm1 hT hR1 hf1
    go_wp2
    refine bodyPost_ret (v := .agg #[.int .i64 0, .slice none 0 0, .string ⟨#[]⟩, .slice none 0 0, .int .i64 0, .int .i64 0]) (by simp [results, Try.results14, go_sem, r0, r1, r2, r3, r4, r5]) rfl ?_
    exact ⟨_, _, rfl, leaf_node _ _ _ (by omega), mk_put6 K.out.1 hCl _ _ _ _ _ _, put6_fr K.out.2 (Nat.le_refl _) _ _ _ _ _ _, by first | exact slim_leaf _ | exact slim_class _ (by simp)⟩
  · obtain ⟨r0, r1, r2, r3, r4, r5⟩ := hR1.cells
    obtain ⟨q0, q1, q2, q3, q4, q5⟩ := hR1.free
    have K := Lib.hid (And.intro hm1 hT)
    clear hm1 hT hR1 hf1
    go_wp2
    refine bodyPost_ret (v := .agg #[.int .i64 6, .slice none 0 0, .string ⟨#[]⟩, .slice none 0 0, .int .i64 0, .int .i64 0]) (by simp [results, Try.results14, go_sem, r0, r1, r2, r3, r4, r5]) rfl ?_
    exact ⟨_, _, rfl, leaf_node _ _ _ (by omega), mk_put6 K.out.1 hCl _ _ _ _ _ _, put6_fr K.out.2 (Nat.le_refl _) _ _ _ _ _ _, by first | exact slim_leaf _ | exact slim_class _ (by simp)⟩
  · obtain ⟨r0, r1, r2, r3, r4, r5⟩ := hR1.cells
    obtain ⟨q0, q1, q2, q3, q4, q5⟩ := hR1.free
    have K := Lib.hid (And.intro hm1 hT)
    clear hm1 hT hR1 hf1
    go_wp2
    refine bodyPost_ret (v := .agg #[.int .i64 7, .slice none 0 0, .string ⟨#[]⟩, .slice none 0 0, .int .i64 0, .int .i64 0]) (by simp [results, Try.results14, go_sem, r0, r1, r2, r3, r4, r5]) rfl ?_
    exact ⟨_, _, rfl, leaf_node _ _ _ (by omega), mk_put6 K.out.1 hCl _ _ _ _ _ _, put6_fr K.out.2 (Nat.le_refl _) _ _ _ _ _ _, by first | exact slim_leaf _ | exact slim_class _ (by simp)⟩
  · have hR2 := hR1.fr ((Fr.refl C w1).alloc (.cells #[.int .u8 48, .int .u8 57] 46)) (by omega)
    obtain ⟨r0, r1, r2, r3, r4, r5⟩ := hR2.cells
    obtain ⟨q0, q1, q2, q3, q4, q5⟩ := hR2.free
    have hv := some_ranges lo w1 [(48, 57)] 46 1 rfl (by decide) (by decide) (by omega)
    have K := Lib.hid (And.intro hm1 (And.intro hT hv))
    clear hm1 hT hR1 hf1 hv hR2
    go_wp2
    refine bodyPost_ret (v := .agg #[.int .i64 1, .slice (some ⟨w1.heap.size, 0, none⟩) 1 1, .string ⟨#[]⟩, .slice none 0 0, .int .i64 0, .int .i64 0]) (by simp [results, Try.results14, go_sem, r0, r1, r2, r3, r4, r5]) rfl ?_
    exact ⟨_, _, rfl, NodeIn.lower (lo := w.heap.size + 1) (by omega) _ _ (class_node _ _ _ _ ((some_ranges (w.heap.size + 1) w1 [(48, 57)] 46 1 rfl (by decide) (by decide) (by omega)).keeps (put6_keeps (keeps_refl _ _) (by omega) _ _ _ _ _ _))), mk_put6 (K.out.1.alloc _) hCl _ _ _ _ _ _, put6_fr (K.out.2.1.alloc _) (Nat.le_refl _) _ _ _ _ _ _, by first | exact slim_leaf _ | exact slim_class _ (by simp)⟩
  · have hR2 := hR1.fr ((Fr.refl C w1).alloc (.cells #[.int .u8 0, .int .u8 9, .int .u8 11, .int .u8 255] 46)) (by omega)
    obtain ⟨r0, r1, r2, r3, r4, r5⟩ := hR2.cells
    obtain ⟨q0, q1, q2, q3, q4, q5⟩ := hR2.free
    have hv := some_ranges lo w1 [(0, 9), (11, 255)] 46 2 rfl (by decide) (by decide) (by omega)
    have K := Lib.hid (And.intro hm1 (And.intro hT hv))
    clear hm1 hT hR1 hf1 hv hR2
    go_wp2
    refine bodyPost_ret (v := .agg #[.int .i64 1, .slice (some ⟨w1.heap.size, 0, none⟩) 2 2, .string ⟨#[]⟩, .slice none 0 0, .int .i64 0, .int .i64 0]) (by simp [results, Try.results14, go_sem, r0, r1, r2, r3, r4, r5]) rfl ?_
    exact ⟨_, _, rfl, NodeIn.lower (lo := w.heap.size + 1) (by omega) _ _ (class_node _ _ _ _ ((some_ranges (w.heap.size + 1) w1 [(0, 9), (11, 255)] 46 2 rfl (by decide) (by decide) (by omega)).keeps (put6_keeps (keeps_refl _ _) (by omega) _ _ _ _ _ _))), mk_put6 (K.out.1.alloc _) hCl _ _ _ _ _ _, put6_fr (K.out.2.1.alloc _) (Nat.le_refl _) _ _ _ _ _ _, by first | exact slim_leaf _ | exact slim_class _ (by simp)⟩
  · have hR2 := hR1.fr ((Fr.refl C w1).alloc (.cells #[.int .u8 97, .int .u8 99, .int .u8 120, .int .u8 122] 46)) (by omega)
    obtain ⟨r0, r1, r2, r3, r4, r5⟩ := hR2.cells
    obtain ⟨q0, q1, q2, q3, q4, q5⟩ := hR2.free
    have hv := some_ranges lo w1 [(97, 99), (120, 122)] 46 2 rfl (by decide) (by decide) (by omega)
    have K := Lib.hid (And.intro hm1 (And.intro hT hv))
    clear hm1 hT hR1 hf1 hv hR2
    go_wp2
    refine bodyPost_ret (v := .agg #[.int .i64 1, .slice (some ⟨w1.heap.size, 0, none⟩) 2 2, .string ⟨#[]⟩, .slice none 0 0, .int .i64 0, .int .i64 0]) (by simp [results, Try.results14, go_sem, r0, r1, r2, r3, r4, r5]) rfl ?_
    exact ⟨_, _, rfl, NodeIn.lower (lo := w.heap.size + 1) (by omega) _ _ (class_node _ _ _ _ ((some_ranges (w.heap.size + 1) w1 [(97, 99), (120, 122)] 46 2 rfl (by decide) (by decide) (by omega)).keeps (put6_keeps (keeps_refl _ _) (by omega) _ _ _ _ _ _))), mk_put6 (K.out.1.alloc _) hCl _ _ _ _ _ _, put6_fr (K.out.2.1.alloc _) (Nat.le_refl _) _ _ _ _ _ _, by first | exact slim_leaf _ | exact slim_class _ (by simp)⟩
  · have e0 : (z == 0) = false := by rw [beq_eq_false_iff_ne]; omega
    have e1 : (z == 1) = false := by rw [beq_eq_false_iff_ne]; omega
    have e2 : (z == 2) = false := by rw [beq_eq_false_iff_ne]; omega
    have e3 : (z == 3) = false := by rw [beq_eq_false_iff_ne]; omega
    have e4 : (z == 4) = false := by rw [beq_eq_false_iff_ne]; omega
    have e5 : (z == 5) = false := by rw [beq_eq_false_iff_ne]; omega
    have hn2 := next_any C 8 _ (hm1.alloc (.cells #[.int .i64 97, .int .i64 98, .int .i64 32, .int .i64 49, .int .i64 120, .int .i64 46, .int .i64 45, .int .i64 61] 3)) (by omega) (by omega)
    have hi2 := heap_alloc_new w1 (.cells #[.int .i64 97, .int .i64 98, .int .i64 32, .int .i64 49, .int .i64 120, .int .i64 46, .int .i64 45, .int .i64 61] 3)
    have hR2 := hR1.fr ((Fr.refl C w1).alloc (.cells #[.int .i64 97, .int .i64 98, .int .i64 32, .int .i64 49, .int .i64 120, .int .i64 46, .int .i64 45, .int .i64 61] 3)) (by omega)
    have hT2 := hT.alloc (.cells #[.int .i64 97, .int .i64 98, .int .i64 32, .int .i64 49, .int .i64 120, .int .i64 46, .int .i64 45, .int .i64 61] 3)
    have K := Lib.hid (And.intro hn2 (And.intro hi2 (And.intro hR2 hT2)))
    clear hn2 hi2 hR2 hT2 hm1 hT hR1 hf1
    go_wp2_with fail
    refine (K.out.1).mono ?_
    rintro e w2 ⟨⟨j, rfl, hj0, hj1⟩, hm2, hf2⟩
    have hzz := hf2.size
    rw [Go.Deep.nblk_alloc] at hzz
    have hi3 := (World.grownBy.block hf2 w1.heap.size (by rw [Go.Deep.nblk_alloc]; omega) (by simp; omega)).trans K.out.2.1
    obtain ⟨i, rfl⟩ : ∃ i : Nat, j = (i : Int) := ⟨j.toNat, by omega⟩
    obtain ⟨y, hy, hcy⟩ : ∃ y : Nat, y < 256 ∧ w2.cell? ⟨w1.heap.size, i, none⟩ = some (.int .i64 (y : Int)) := by
      have hi8 : i = 0 ∨ i = 1 ∨ i = 2 ∨ i = 3 ∨ i = 4 ∨ i = 5 ∨ i = 6 ∨ i = 7 := by omega
      rcases hi8 with rfl | rfl | rfl | rfl | rfl | rfl | rfl | rfl
      all_goals (rw [Lib.cell_of_heap hi3]; exact ⟨_, by decide, rfl⟩)
    have hR3 := (K.out.2.2.1.fr hf2 (by omega)).fr ((Fr.refl C w2).alloc (.cells #[.int .u8 (y : Int), .int .u8 (y : Int)] 46)) (by omega)
    obtain ⟨r0, r1, r2, r3, r4, r5⟩ := hR3.cells
    obtain ⟨q0, q1, q2, q3, q4, q5⟩ := hR3.free
    have K2 := Lib.hid (And.intro hm2 (K.out.2.2.2.trans hf2))
    clear hm2 hf2 hi3 hR3
    go_wp2
    refine bodyPost_ret (v := .agg #[.int .i64 1, .slice (some ⟨w2.heap.size, 0, none⟩) 1 1, .string ⟨#[]⟩, .slice none 0 0, .int .i64 0, .int .i64 0]) (by simp [results, Try.results14, go_sem, r0, r1, r2, r3, r4, r5]) rfl ?_
    exact ⟨_, _, rfl, NodeIn.lower (lo := w.heap.size + 1) (by omega) _ _ (class_node _ _ _ _ ((some_ranges (w.heap.size + 1) w2 [(y, y)] 46 1 rfl (by simp; omega) (by simp) (by omega)).keeps (put6_keeps (keeps_refl _ _) (by omega) _ _ _ _ _ _))), mk_put6 (K2.out.1.alloc _) hCl _ _ _ _ _ _, put6_fr (K2.out.2.alloc _) (Nat.le_refl _) _ _ _ _ _ _, by first | exact slim_leaf _ | exact slim_class _ (by simp)⟩
end Go.Proofs.Ytfmoidhpafpgnaa
