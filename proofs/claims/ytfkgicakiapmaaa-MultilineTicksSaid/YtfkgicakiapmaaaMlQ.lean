/- logtidemake's Leaf: some pattern without kids, whose ranges lie in memory. -/
import Derived.Test.YtfkgicakiapmaaaMlP
import Derived.Test.YtfkgicakiapmaaaMnK
import Derived.Test.YtfkgicakiapmaaaFsU
namespace Go.Proofs.Ytfkgicakiapmaaa
open Go Go.RowKit

/-- A pattern without kids. -/
def LfV (op : Int) (rs : List (Nat × Nat)) : Prop := (op = 0 ∧ rs = []) ∨ ((op = 1 ∨ op = 6 ∨ op = 7) ∧ chkN (lfN op rs) = 0 ∧ ∀ x ∈ rs, x.1 < 256 ∧ x.2 < 256)
def LfOut (C : Nat) (w : World) (e : Ending) (w' : World) : Prop := ∃ op rs ra rc, e = .returned (.agg (ndA op ra rs.length rc)) ∧ NdAt rs ra rc w' ∧ LfV op rs ∧ MkAt C w' ∧ GFr C w w'
theorem nmE0 : nmE ⟨#[]⟩ = true := by
  unfold nmE ByteArray.toList
  rw [ByteArray.toList.loop]
  rfl
theorem chk_lf (op : Int) (rs : List (Nat × Nat)) (hw : wellB op rs.length (sepN rs) true 0 0 0 = true) (ho : op = 1 ∨ op = 6 ∨ op = 7) : chkN (lfN op rs) = 0 := by
  have hn : nodeErr op rs ⟨#[]⟩ ([] : List Nd).length 0 0 = 0 := by
    unfold nodeErr
    rw [nmE0, show ([] : List Nd).length = 0 from rfl, hw, if_neg (by simp), if_neg (by omega), if_neg (by omega)]
  have hv : visN (lfN op rs) 0 (0, []) = (0, (1, [])) := by
    unfold lfN visN
    rw [if_neg (by omega), if_neg (by omega), hn, if_neg (by simp), if_neg (by omega)]
    simp [visAll]
  unfold chkN
  rw [hv]
  simp [namesErr]
theorem sep_one (y : Nat) : sepN [(y, y)] = true := by simp [sepN, sepFrom]
theorem lfv0 : LfV 0 [] := .inl ⟨rfl, rfl⟩
theorem lfv6 : LfV 6 [] := .inr ⟨.inr (.inl rfl), chk_lf 6 [] (by decide) (by omega), fun x hx => absurd hx (by simp)⟩
theorem lfv7 : LfV 7 [] := .inr ⟨.inr (.inr rfl), chk_lf 7 [] (by decide) (by omega), fun x hx => absurd hx (by simp)⟩
theorem lfv1 (rs : List (Nat × Nat)) (h : sepN rs = true) (h256 : ∀ x ∈ rs, x.1 < 256 ∧ x.2 < 256) : LfV 1 rs := .inr ⟨.inl rfl, chk_lf 1 rs (by unfold wellB; rw [h]; simp) (by omega), h256⟩
theorem sizeNd : (Try.prog.info? 27).map (·.size) = some 6 := by kernel_rfl
def set6 (W : World) (R : Nat) (v0 v1 v2 v3 v4 v5 : Value) : World := (((((W.setCell ⟨R, 0, none⟩ v0).setCell ⟨R, 1, none⟩ v1).setCell ⟨R, 2, none⟩ v2).setCell ⟨R, 3, none⟩ v3).setCell ⟨R, 4, none⟩ v4).setCell ⟨R, 5, none⟩ v5
theorem set6_bk {W : World} {R : Nat} {T : TypeId} {a0 a1 a2 a3 a4 a5 : Value} (h : BkAt R T #[a0, a1, a2, a3, a4, a5] W) (v0 v1 v2 v3 v4 v5 : Value) : BkAt R T #[v0, v1, v2, v3, v4, v5] (set6 W R v0 v1 v2 v3 v4 v5) := (((((h.set 0 v0).set 1 v1).set 2 v2).set 3 v3).set 4 v4).set 5 v5
theorem set6_ch {W : World} (R : Nat) (v0 v1 v2 v3 v4 v5 : Value) : ChP (fun k => k = R) W (set6 W R v0 v1 v2 v3 v4 v5) := ((((((ChP.refl (fun k => k = R) W).set R 0 _ rfl).set R 1 _ rfl).set R 2 _ rfl).set R 3 _ rfl).set R 4 _ rfl).set R 5 _ rfl
theorem MkAt.ch {C R : Nat} {w w' : World} (h : MkAt C w) (k : ChP (fun k => k = R) w w') (hR : C < R) : MkAt C w' :=
  h.grown (row := some R) ⟨k.os, k.tape, k.output, k.size, fun i hi hn => k.block i hi (fun e => hn (by rw [e]))⟩ (fun b hb => by cases hb; exact hR)
theorem GFr.ch {C R : Nat} {w w1 w2 : World} (h : GFr C w w1) (k : ChP (fun k => k = R) w1 w2) (hR : w.heap.size ≤ R) : GFr C w w2 :=
  ⟨k.os.trans h.os, k.tape.trans h.tape, k.output.trans h.output, Nat.le_trans h.size k.size, fun i hi hn => (k.block i (Nat.lt_of_lt_of_le hi h.size) (by omega)).trans (h.block i hi hn)⟩
theorem NdAt.ch6 {rs : List (Nat × Nat)} {ra : Option Addr} {rc R : Nat} {cs : Array Value} {w w' : World} (h : NdAt rs ra rc w) (hb : BkAt R 27 cs w) (k : ChP (fun k => k = R) w w') : NdAt rs ra rc w' := row_ch h k (fun g hg e => row_ne h hb (by decide) hg e)
/-- A row of ranges that has just been made. -/
theorem nd_new (rs : List (Nat × Nat)) (cs : Array Value) (hc : cs.toList = (rs.map fun r => [Value.int .u8 (r.1 : Int), Value.int .u8 (r.2 : Int)]).flatten) (hl : rs.length ≤ 100) (w : World) : NdAt rs (some ⟨w.heap.size, 0, none⟩) rs.length (w.alloc (.cells cs 59)) := by
  have hlen : ∀ l : List (Nat × Nat), ((l.map fun r => [Value.int .u8 (r.1 : Int), Value.int .u8 (r.2 : Int)]).flatten).length = l.length * 2 := by
    intro l
    induction l with
    | nil => rfl
    | cons x t ih => simp [Nat.add_mul] at ih ⊢; omega
  refine ⟨hlen rs, .inr ⟨w.heap.size, rs.length, cs, rfl, Nat.zero_le _, heap_alloc_new _ _, Nat.le_refl _, by unfold maxLen; omega, ?_, ?_⟩⟩
  · rw [← Array.length_toList, hc, hlen]
  · rw [hc, ← hlen rs, List.take_length]

theorem set6_size (W : World) (R : Nat) (v0 v1 v2 v3 v4 v5 : Value) : (set6 W R v0 v1 v2 v3 v4 v5).heap.size = W.heap.size := by
  simp [set6]
/-- Where Leaf's class cases end. -/
theorem fin_cls {C R : Nat} {w w1 : World} (hR : BkAt R 27 #[.int .i64 0, .slice none 0 0, .string ⟨#[]⟩, .slice none 0 0, .int .i64 0, .int .i64 0] w1) (hm : MkAt C w1) (hf : GFr C w w1) (hC : C < R) (hw : w.heap.size ≤ R) (rs : List (Nat × Nat)) (cs : Array Value) (hc : cs.toList = (rs.map fun r => [Value.int .u8 (r.1 : Int), Value.int .u8 (r.2 : Int)]).flatten) (hl : rs.length ≤ 100) (v0 v1 v2 v3 v4 v5 : Value) :
    BkAt R 27 #[v0, v1, v2, v3, v4, v5] ((set6 w1 R v0 v1 v2 v3 v4 v5).alloc (.cells cs 59)) ∧ NdAt rs (some ⟨w1.heap.size, 0, none⟩) rs.length ((set6 w1 R v0 v1 v2 v3 v4 v5).alloc (.cells cs 59)) ∧ MkAt C ((set6 w1 R v0 v1 v2 v3 v4 v5).alloc (.cells cs 59)) ∧ GFr C w ((set6 w1 R v0 v1 v2 v3 v4 v5).alloc (.cells cs 59)) := by
  have h6 := set6_bk hR v0 v1 v2 v3 v4 v5
  have c6 := set6_ch (W := w1) R v0 v1 v2 v3 v4 v5
  have hn := nd_new rs cs hc hl (set6 w1 R v0 v1 v2 v3 v4 v5)
  rw [set6_size] at hn
  exact ⟨h6.below (below_new _ _), hn, (hm.ch c6 hC).alloc _, (hf.ch c6 hw).alloc _⟩

set_option maxRecDepth 100000 in
set_option maxHeartbeats 4000000 in
theorem leaf_any (C : Nat) (w : World) (h : MkAt C w) : Calls Try.prog 14 #[.pointer (some ⟨C, 0, none⟩)] w (LfOut C w) := by
  obtain ⟨R, hRe⟩ : ∃ R, w.heap.size = R := ⟨_, rfl⟩
  have hCl := h.lt
  obtain ⟨W, hW⟩ : ∃ y, w.alloc (.cells #[.int .i64 0, .slice none 0 0, .string ⟨#[]⟩, .slice none 0 0, .int .i64 0, .int .i64 0] 27) = y := ⟨_, rfl⟩
  have hR0 : BkAt R 27 #[.int .i64 0, .slice none 0 0, .string ⟨#[]⟩, .slice none 0 0, .int .i64 0, .int .i64 0] W := by rw [← hW, ← hRe]; exact BkAt.new _ _ _
  have hm0 : MkAt C W := by rw [← hW]; exact h.alloc _
  have hf0 : GFr C w W := by rw [← hW]; exact (GFr.refl C w).alloc _
  have hn0 := next_any C 10 W hm0 (by omega) (by omega)
  have HW := Lib.hid (And.intro hW hRe)
  have H := Lib.hid (And.intro hn0 (And.intro hR0 hf0))
  clear hn0 hR0 hf0 hm0 h hW hRe
  have hCR : C < R := by have := HW.out.2; omega
  have hwR : w.heap.size ≤ R := by have := HW.out.2; omega
  go_enter Try.func14, Try.ntmps14
  go_wp2_with fail
  rw [HW.out.1, HW.out.2]
  refine (H.out.1).mono ?_
  rintro e w1 ⟨⟨z, rfl, hz0, hz1⟩, hm1, hf1⟩
  have hR1 : BkAt R 27 #[.int .i64 0, .slice none 0 0, .string ⟨#[]⟩, .slice none 0 0, .int .i64 0, .int .i64 0] w1 := (World.grownBy.block hf1 R H.out.2.1.lt (by simp; omega)).trans H.out.2.1
  have hT := H.out.2.2.trans hf1
  have hzs := hf1.size
  have hz6 : z = 0 ∨ z = 1 ∨ z = 2 ∨ z = 3 ∨ z = 4 ∨ z = 5 ∨ 6 ≤ z := by omega
  rcases hz6 with rfl | rfl | rfl | rfl | rfl | rfl | hz6
  · obtain ⟨r0, r1, r2, r3, r4, r5⟩ : w1.cell? ⟨R, 0, none⟩ = some (.int .i64 0) ∧ w1.cell? ⟨R, 1, none⟩ = some (.slice none 0 0) ∧ w1.cell? ⟨R, 2, none⟩ = some (.string ⟨#[]⟩) ∧ w1.cell? ⟨R, 3, none⟩ = some (.slice none 0 0) ∧ w1.cell? ⟨R, 4, none⟩ = some (.int .i64 0) ∧ w1.cell? ⟨R, 5, none⟩ = some (.int .i64 0) := ⟨hR1.cell 0, hR1.cell 1, hR1.cell 2, hR1.cell 3, hR1.cell 4, hR1.cell 5⟩
    obtain ⟨q0, q1, q2, q3, q4, q5⟩ : w1.frozen? ⟨R, 0, none⟩ = false ∧ w1.frozen? ⟨R, 1, none⟩ = false ∧ w1.frozen? ⟨R, 2, none⟩ = false ∧ w1.frozen? ⟨R, 3, none⟩ = false ∧ w1.frozen? ⟨R, 4, none⟩ = false ∧ w1.frozen? ⟨R, 5, none⟩ = false := ⟨hR1.free 0, hR1.free 1, hR1.free 2, hR1.free 3, hR1.free 4, hR1.free 5⟩
    have hE := set6_bk hR1 (.int .i64 0) (.slice none 0 0) (.string ⟨#[]⟩) (.slice none 0 0) (.int .i64 0) (.int .i64 0)
    have hC := set6_ch (W := w1) R (.int .i64 0) (.slice none 0 0) (.string ⟨#[]⟩) (.slice none 0 0) (.int .i64 0) (.int .i64 0)
    have K := Lib.hid (And.intro hE (And.intro (hm1.ch hC hCR) (hT.ch hC hwR)))
    clear hm1 hT hR1 hf1 hE hC
    go_wp2_with fail
    refine bodyPost_ret (results_cell_row rfl _ _ R 27 (ndA 0 none 0 0) (0, 0) _ rfl K.out.1 Try.underlying27 rfl sizeNd) rfl ?_
    exact ⟨0, [], none, 0, rfl, World.ownsRow_nil _ _ _ _, lfv0, K.out.2.1, K.out.2.2⟩
  · obtain ⟨r0, r1, r2, r3, r4, r5⟩ : w1.cell? ⟨R, 0, none⟩ = some (.int .i64 0) ∧ w1.cell? ⟨R, 1, none⟩ = some (.slice none 0 0) ∧ w1.cell? ⟨R, 2, none⟩ = some (.string ⟨#[]⟩) ∧ w1.cell? ⟨R, 3, none⟩ = some (.slice none 0 0) ∧ w1.cell? ⟨R, 4, none⟩ = some (.int .i64 0) ∧ w1.cell? ⟨R, 5, none⟩ = some (.int .i64 0) := ⟨hR1.cell 0, hR1.cell 1, hR1.cell 2, hR1.cell 3, hR1.cell 4, hR1.cell 5⟩
    obtain ⟨q0, q1, q2, q3, q4, q5⟩ : w1.frozen? ⟨R, 0, none⟩ = false ∧ w1.frozen? ⟨R, 1, none⟩ = false ∧ w1.frozen? ⟨R, 2, none⟩ = false ∧ w1.frozen? ⟨R, 3, none⟩ = false ∧ w1.frozen? ⟨R, 4, none⟩ = false ∧ w1.frozen? ⟨R, 5, none⟩ = false := ⟨hR1.free 0, hR1.free 1, hR1.free 2, hR1.free 3, hR1.free 4, hR1.free 5⟩
    have hE := set6_bk hR1 (.int .i64 6) (.slice none 0 0) (.string ⟨#[]⟩) (.slice none 0 0) (.int .i64 0) (.int .i64 0)
    have hC := set6_ch (W := w1) R (.int .i64 6) (.slice none 0 0) (.string ⟨#[]⟩) (.slice none 0 0) (.int .i64 0) (.int .i64 0)
    have K := Lib.hid (And.intro hE (And.intro (hm1.ch hC hCR) (hT.ch hC hwR)))
    clear hm1 hT hR1 hf1 hE hC
    go_wp2_with fail
    refine bodyPost_ret (results_cell_row rfl _ _ R 27 (ndA 6 none 0 0) (0, 0) _ rfl K.out.1 Try.underlying27 rfl sizeNd) rfl ?_
    exact ⟨6, [], none, 0, rfl, World.ownsRow_nil _ _ _ _, lfv6, K.out.2.1, K.out.2.2⟩
  · obtain ⟨r0, r1, r2, r3, r4, r5⟩ : w1.cell? ⟨R, 0, none⟩ = some (.int .i64 0) ∧ w1.cell? ⟨R, 1, none⟩ = some (.slice none 0 0) ∧ w1.cell? ⟨R, 2, none⟩ = some (.string ⟨#[]⟩) ∧ w1.cell? ⟨R, 3, none⟩ = some (.slice none 0 0) ∧ w1.cell? ⟨R, 4, none⟩ = some (.int .i64 0) ∧ w1.cell? ⟨R, 5, none⟩ = some (.int .i64 0) := ⟨hR1.cell 0, hR1.cell 1, hR1.cell 2, hR1.cell 3, hR1.cell 4, hR1.cell 5⟩
    obtain ⟨q0, q1, q2, q3, q4, q5⟩ : w1.frozen? ⟨R, 0, none⟩ = false ∧ w1.frozen? ⟨R, 1, none⟩ = false ∧ w1.frozen? ⟨R, 2, none⟩ = false ∧ w1.frozen? ⟨R, 3, none⟩ = false ∧ w1.frozen? ⟨R, 4, none⟩ = false ∧ w1.frozen? ⟨R, 5, none⟩ = false := ⟨hR1.free 0, hR1.free 1, hR1.free 2, hR1.free 3, hR1.free 4, hR1.free 5⟩
    have hE := set6_bk hR1 (.int .i64 7) (.slice none 0 0) (.string ⟨#[]⟩) (.slice none 0 0) (.int .i64 0) (.int .i64 0)
    have hC := set6_ch (W := w1) R (.int .i64 7) (.slice none 0 0) (.string ⟨#[]⟩) (.slice none 0 0) (.int .i64 0) (.int .i64 0)
    have K := Lib.hid (And.intro hE (And.intro (hm1.ch hC hCR) (hT.ch hC hwR)))
    clear hm1 hT hR1 hf1 hE hC
    go_wp2_with fail
    refine bodyPost_ret (results_cell_row rfl _ _ R 27 (ndA 7 none 0 0) (0, 0) _ rfl K.out.1 Try.underlying27 rfl sizeNd) rfl ?_
    exact ⟨7, [], none, 0, rfl, World.ownsRow_nil _ _ _ _, lfv7, K.out.2.1, K.out.2.2⟩
  · have hF := fin_cls hR1 hm1 hT hCR hwR [(48, 57)] #[.int .u8 48, .int .u8 57] rfl (by simp) (.int .i64 1) (.slice (some ⟨w1.heap.size, 0, none⟩) 1 1) (.string ⟨#[]⟩) (.slice none 0 0) (.int .i64 0) (.int .i64 0)
    have hRl := hR1.lt
    obtain ⟨r0, r1, r2, r3, r4, r5⟩ : w1.cell? ⟨R, 0, none⟩ = some (.int .i64 0) ∧ w1.cell? ⟨R, 1, none⟩ = some (.slice none 0 0) ∧ w1.cell? ⟨R, 2, none⟩ = some (.string ⟨#[]⟩) ∧ w1.cell? ⟨R, 3, none⟩ = some (.slice none 0 0) ∧ w1.cell? ⟨R, 4, none⟩ = some (.int .i64 0) ∧ w1.cell? ⟨R, 5, none⟩ = some (.int .i64 0) := ⟨hR1.cell 0, hR1.cell 1, hR1.cell 2, hR1.cell 3, hR1.cell 4, hR1.cell 5⟩
    obtain ⟨q0, q1, q2, q3, q4, q5⟩ : w1.frozen? ⟨R, 0, none⟩ = false ∧ w1.frozen? ⟨R, 1, none⟩ = false ∧ w1.frozen? ⟨R, 2, none⟩ = false ∧ w1.frozen? ⟨R, 3, none⟩ = false ∧ w1.frozen? ⟨R, 4, none⟩ = false ∧ w1.frozen? ⟨R, 5, none⟩ = false := ⟨hR1.free 0, hR1.free 1, hR1.free 2, hR1.free 3, hR1.free 4, hR1.free 5⟩
    have K := Lib.hid hF
    clear hm1 hT hR1 hf1 hF
    go_wp2_with fail
    refine bodyPost_ret (results_cell_row rfl _ _ R 27 (ndA 1 (some ⟨w1.heap.size, 0, none⟩) 1 1) (0, 0) _ rfl K.out.1 Try.underlying27 rfl sizeNd) rfl ?_
    exact ⟨1, [(48, 57)], _, _, rfl, K.out.2.1, lfv1 _ (by decide) (by decide), K.out.2.2.1, K.out.2.2.2⟩
  · have hF := fin_cls hR1 hm1 hT hCR hwR [(0, 9), (11, 255)] #[.int .u8 0, .int .u8 9, .int .u8 11, .int .u8 255] rfl (by simp) (.int .i64 1) (.slice (some ⟨w1.heap.size, 0, none⟩) 2 2) (.string ⟨#[]⟩) (.slice none 0 0) (.int .i64 0) (.int .i64 0)
    have hRl := hR1.lt
    obtain ⟨r0, r1, r2, r3, r4, r5⟩ : w1.cell? ⟨R, 0, none⟩ = some (.int .i64 0) ∧ w1.cell? ⟨R, 1, none⟩ = some (.slice none 0 0) ∧ w1.cell? ⟨R, 2, none⟩ = some (.string ⟨#[]⟩) ∧ w1.cell? ⟨R, 3, none⟩ = some (.slice none 0 0) ∧ w1.cell? ⟨R, 4, none⟩ = some (.int .i64 0) ∧ w1.cell? ⟨R, 5, none⟩ = some (.int .i64 0) := ⟨hR1.cell 0, hR1.cell 1, hR1.cell 2, hR1.cell 3, hR1.cell 4, hR1.cell 5⟩
    obtain ⟨q0, q1, q2, q3, q4, q5⟩ : w1.frozen? ⟨R, 0, none⟩ = false ∧ w1.frozen? ⟨R, 1, none⟩ = false ∧ w1.frozen? ⟨R, 2, none⟩ = false ∧ w1.frozen? ⟨R, 3, none⟩ = false ∧ w1.frozen? ⟨R, 4, none⟩ = false ∧ w1.frozen? ⟨R, 5, none⟩ = false := ⟨hR1.free 0, hR1.free 1, hR1.free 2, hR1.free 3, hR1.free 4, hR1.free 5⟩
    have K := Lib.hid hF
    clear hm1 hT hR1 hf1 hF
    go_wp2_with fail
    refine bodyPost_ret (results_cell_row rfl _ _ R 27 (ndA 1 (some ⟨w1.heap.size, 0, none⟩) 2 2) (0, 0) _ rfl K.out.1 Try.underlying27 rfl sizeNd) rfl ?_
    exact ⟨1, [(0, 9), (11, 255)], _, _, rfl, K.out.2.1, lfv1 _ (by decide) (by decide), K.out.2.2.1, K.out.2.2.2⟩
  · have hF := fin_cls hR1 hm1 hT hCR hwR [(97, 99), (120, 122)] #[.int .u8 97, .int .u8 99, .int .u8 120, .int .u8 122] rfl (by simp) (.int .i64 1) (.slice (some ⟨w1.heap.size, 0, none⟩) 2 2) (.string ⟨#[]⟩) (.slice none 0 0) (.int .i64 0) (.int .i64 0)
    have hRl := hR1.lt
    obtain ⟨r0, r1, r2, r3, r4, r5⟩ : w1.cell? ⟨R, 0, none⟩ = some (.int .i64 0) ∧ w1.cell? ⟨R, 1, none⟩ = some (.slice none 0 0) ∧ w1.cell? ⟨R, 2, none⟩ = some (.string ⟨#[]⟩) ∧ w1.cell? ⟨R, 3, none⟩ = some (.slice none 0 0) ∧ w1.cell? ⟨R, 4, none⟩ = some (.int .i64 0) ∧ w1.cell? ⟨R, 5, none⟩ = some (.int .i64 0) := ⟨hR1.cell 0, hR1.cell 1, hR1.cell 2, hR1.cell 3, hR1.cell 4, hR1.cell 5⟩
    obtain ⟨q0, q1, q2, q3, q4, q5⟩ : w1.frozen? ⟨R, 0, none⟩ = false ∧ w1.frozen? ⟨R, 1, none⟩ = false ∧ w1.frozen? ⟨R, 2, none⟩ = false ∧ w1.frozen? ⟨R, 3, none⟩ = false ∧ w1.frozen? ⟨R, 4, none⟩ = false ∧ w1.frozen? ⟨R, 5, none⟩ = false := ⟨hR1.free 0, hR1.free 1, hR1.free 2, hR1.free 3, hR1.free 4, hR1.free 5⟩
    have K := Lib.hid hF
    clear hm1 hT hR1 hf1 hF
    go_wp2_with fail
    refine bodyPost_ret (results_cell_row rfl _ _ R 27 (ndA 1 (some ⟨w1.heap.size, 0, none⟩) 2 2) (0, 0) _ rfl K.out.1 Try.underlying27 rfl sizeNd) rfl ?_
    exact ⟨1, [(97, 99), (120, 122)], _, _, rfl, K.out.2.1, lfv1 _ (by decide) (by decide), K.out.2.2.1, K.out.2.2.2⟩
  · have e0 : (z == 0) = false := by rw [beq_eq_false_iff_ne]; omega
    have e1 : (z == 1) = false := by rw [beq_eq_false_iff_ne]; omega
    have e2 : (z == 2) = false := by rw [beq_eq_false_iff_ne]; omega
    have e3 : (z == 3) = false := by rw [beq_eq_false_iff_ne]; omega
    have e4 : (z == 4) = false := by rw [beq_eq_false_iff_ne]; omega
    have e5 : (z == 5) = false := by rw [beq_eq_false_iff_ne]; omega
    have hn2 := next_any C 8 _ (hm1.alloc (.cells #[.int .i64 97, .int .i64 98, .int .i64 32, .int .i64 49, .int .i64 120, .int .i64 46, .int .i64 45, .int .i64 61] 3)) (by omega) (by omega)
    have hi2 := heap_alloc_new w1 (.cells #[.int .i64 97, .int .i64 98, .int .i64 32, .int .i64 49, .int .i64 120, .int .i64 46, .int .i64 45, .int .i64 61] 3)
    have hR2 := hR1.below (below_new w1 (.cells #[.int .i64 97, .int .i64 98, .int .i64 32, .int .i64 49, .int .i64 120, .int .i64 46, .int .i64 45, .int .i64 61] 3))
    have hT2 := hT.alloc (.cells #[.int .i64 97, .int .i64 98, .int .i64 32, .int .i64 49, .int .i64 120, .int .i64 46, .int .i64 45, .int .i64 61] 3)
    have hRl := hR1.lt
    have K := Lib.hid (And.intro hn2 (And.intro hi2 (And.intro hR2 hT2)))
    clear hn2 hi2 hR2 hT2 hm1 hT hR1 hf1
    go_wp2_with fail
    refine (K.out.1).mono ?_
    rintro e w2 ⟨⟨j, rfl, hj0, hj1⟩, hm2, hf2⟩
    have hzz := hf2.size
    rw [Go.Deep.nblk_alloc] at hzz
    have hi3 := (World.grownBy.block hf2 w1.heap.size (by rw [Go.Deep.nblk_alloc]; omega) (by simp; omega)).trans K.out.2.1
    have hR1 : BkAt R 27 #[.int .i64 0, .slice none 0 0, .string ⟨#[]⟩, .slice none 0 0, .int .i64 0, .int .i64 0] w2 := (World.grownBy.block hf2 R (by rw [Go.Deep.nblk_alloc]; omega) (by simp; omega)).trans K.out.2.2.1
    obtain ⟨i, rfl⟩ : ∃ i : Nat, j = (i : Int) := ⟨j.toNat, by omega⟩
    obtain ⟨y, hy, hcy⟩ : ∃ y : Nat, y < 256 ∧ w2.cell? ⟨w1.heap.size, i, none⟩ = some (.int .i64 (y : Int)) := by
      have hi8 : i = 0 ∨ i = 1 ∨ i = 2 ∨ i = 3 ∨ i = 4 ∨ i = 5 ∨ i = 6 ∨ i = 7 := by omega
      rcases hi8 with rfl | rfl | rfl | rfl | rfl | rfl | rfl | rfl
      all_goals (rw [Lib.cell_of_heap hi3]; exact ⟨_, by decide, rfl⟩)
    have hF := fin_cls hR1 hm2 (K.out.2.2.2.trans hf2) hCR hwR [(y, y)] #[.int .u8 (y : Int), .int .u8 (y : Int)] rfl (by simp) (.int .i64 1) (.slice (some ⟨w2.heap.size, 0, none⟩) 1 1) (.string ⟨#[]⟩) (.slice none 0 0) (.int .i64 0) (.int .i64 0)
    have hRl2 := hR1.lt
    obtain ⟨r0, r1, r2, r3, r4, r5⟩ : w2.cell? ⟨R, 0, none⟩ = some (.int .i64 0) ∧ w2.cell? ⟨R, 1, none⟩ = some (.slice none 0 0) ∧ w2.cell? ⟨R, 2, none⟩ = some (.string ⟨#[]⟩) ∧ w2.cell? ⟨R, 3, none⟩ = some (.slice none 0 0) ∧ w2.cell? ⟨R, 4, none⟩ = some (.int .i64 0) ∧ w2.cell? ⟨R, 5, none⟩ = some (.int .i64 0) := ⟨hR1.cell 0, hR1.cell 1, hR1.cell 2, hR1.cell 3, hR1.cell 4, hR1.cell 5⟩
    obtain ⟨q0, q1, q2, q3, q4, q5⟩ : w2.frozen? ⟨R, 0, none⟩ = false ∧ w2.frozen? ⟨R, 1, none⟩ = false ∧ w2.frozen? ⟨R, 2, none⟩ = false ∧ w2.frozen? ⟨R, 3, none⟩ = false ∧ w2.frozen? ⟨R, 4, none⟩ = false ∧ w2.frozen? ⟨R, 5, none⟩ = false := ⟨hR1.free 0, hR1.free 1, hR1.free 2, hR1.free 3, hR1.free 4, hR1.free 5⟩
    have K2 := Lib.hid hF
    clear hm2 hf2 hi3 hR1 hF
    go_wp2_with fail
    refine bodyPost_ret (results_cell_row rfl _ _ R 27 (ndA 1 (some ⟨w2.heap.size, 0, none⟩) 1 1) (0, 0) _ rfl K2.out.1 Try.underlying27 rfl sizeNd) rfl ?_
    exact ⟨1, [(y, y)], _, _, rfl, K2.out.2.1, lfv1 _ (sep_one y) (by simp; omega), K2.out.2.2.1, K2.out.2.2.2⟩
end Go.Proofs.Ytfkgicakiapmaaa
