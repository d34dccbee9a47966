/- The contracts of Lookup and Read. -/
import Derived.Test.YtbpboghjgbgjfaaFsO
namespace Go.Proofs.Ytbpboghjgbgjfaa
open Go.RowKit

variable {names : List NameV} {files : List FileV} {opn : List Int} {nv fv ov : Value} {w w' : World}
set_option maxRecDepth 100000 in
set_option linter.unusedSimpArgs false in
set_option maxHeartbeats 4000000 in
theorem read_whole (ino : Int) (j : Nat) (h : FsAt names files opn nv fv ov w) (hf : Firsts (fun x => x.ino == ino) files j) (hj : j < files.length) (hw : (files[j]).cp = false ∨ (files[j]).wh = true) (hdv : ∃ a m c, (files[j]).dv = .slice a m c) :
    Calls Try.prog 17 #[.agg #[nv, fv, ov], .int .i64 ino] w fun e w' => e = .returned (.tuple #[.agg #[.int .i64 (files[j]).ino, (files[j]).dv, .bool (files[j]).cp, .bool (files[j]).wh, .int .i64 (files[j]).lf], .bool true]) ∧ Below w.heap.size w w' := by
  obtain ⟨a, c, rfl, -, halt, hcap, hcm⟩ := row_some h.f (by omega)
  obtain ⟨na, nm, nc, rfl⟩ := row_slice h.n
  obtain ⟨oa, om, oc, rfl⟩ := row_slice h.o
  have hbn := below_new w (.cells #[.slice na nm nc, .slice (some ⟨a, 0, none⟩) files.length c, .slice oa om oc] 33)
  have hbx := BkAt.new 33 #[.slice na nm nc, .slice (some ⟨a, 0, none⟩) files.length c, .slice oa om oc] w
  have hz1 : (w.alloc (.cells #[.slice na nm nc, .slice (some ⟨a, 0, none⟩) files.length c, .slice oa om oc] 33)).heap.size = w.heap.size + 1 := by simp
  have hbr : BkAt (w.heap.size + 1) 58 #[.int .i64 0, .slice none 0 0, .bool false, .bool false, .int .i64 0] ((w.alloc (.cells #[.slice na nm nc, .slice (some ⟨a, 0, none⟩) files.length c, .slice oa om oc] 33)).alloc (.cells #[.int .i64 0, .slice none 0 0, .bool false, .bool false, .int .i64 0] 58)) := hz1 ▸ BkAt.new _ _ _
  have hb2 := below_new (w.alloc (.cells #[.slice na nm nc, .slice (some ⟨a, 0, none⟩) files.length c, .slice oa om oc] 33)) (.cells #[.int .i64 0, .slice none 0 0, .bool false, .bool false, .int .i64 0] 58)
  have hb3 := bl_trans' hbn hb2
  have hff := findFile_any files ino j 0 _ _ (h.below hb3).f (by have := h.fl; omega) hf
  have e0 : placeZ files.length j = (j : Int) := by unfold placeZ; rw [if_pos hj]
  rw [e0] at hff
  have hc := fun W (hW : Below w.heap.size w W) => FlR.cells (h.below hW).f hj
  obtain ⟨⟨i, dv, cp, wh, lf⟩, hx⟩ : ∃ x, files[j] = x := ⟨_, rfl⟩
  rw [hx] at hc hw hdv ⊢
  simp only at hc hw hdv ⊢
  obtain ⟨da, dm, dc, rfl⟩ := hdv
  obtain ⟨n, hn⟩ : ∃ n, files.length = n := ⟨_, rfl⟩
  have hbx3 := hbx.below hb2
  rw [hn] at hff hb3 hbx3 hbr hcap hj
  rw [hn]
  have hnl := h.fl
  rw [hn] at hnl
  unfold maxLen at hcm
  have H := Lib.hid (And.intro hff (And.intro hc (And.intro hb3 (And.intro hbx3 hbr))))
  clear hff hc hbn hbx h hf hn hx hb2 hb3 hbx3 hbr hz1 e0
  have hj0 : decide ((j : Int) < 0) = false := by rw [decide_eq_false_iff_not]; omega
  go_enter Try.func17, Try.ntmps17
  go_wp2_with fail
  refine H.out.1.mono ?_
  rintro e w1 ⟨rfl, hb1⟩
  have c1 := (H.out.2.2.2.1.below hb1).cell 1
  simp only [List.getElem?_toArray, List.getElem?_cons_zero, List.getElem?_cons_succ] at c1
  obtain ⟨q0, q1, q2, q3, q4⟩ := H.out.2.1 w1 (bl_trans' H.out.2.2.1 hb1)
  have hbr1 := H.out.2.2.2.2.below hb1
  have hlt := hbr1.lt
  have HB := Lib.hid (bl_trans' H.out.2.2.1 hb1)
  clear hb1
  cases cp with
  | false =>
    clear hw
    go_upto_region 7 with (fail)
    have hx : BkAt w1.heap.size 58 #[.int .i64 i, .slice da dm dc, .bool false, .bool wh, .int .i64 lf] (w1.alloc (.cells #[.int .i64 i, .slice da dm dc, .bool false, .bool wh, .int .i64 lf] 58)) := BkAt.new _ _ _
    have hr := hbr1.below (below_new w1 (.cells #[.int .i64 i, .slice da dm dc, .bool false, .bool wh, .int .i64 lf] 58))
    have hbw := bl_trans' HB.out (below_new w1 (.cells #[.int .i64 i, .slice da dm dc, .bool false, .bool wh, .int .i64 lf] 58))
    obtain ⟨W, hW⟩ : ∃ W, (w1.alloc (.cells #[.int .i64 i, .slice da dm dc, .bool false, .bool wh, .int .i64 lf] 58)) = W := ⟨_, rfl⟩
    rw [hW] at hx hr hbw ⊢
    obtain ⟨bx, hbx⟩ : ∃ b, w1.heap.size = b := ⟨_, rfl⟩
    rw [hbx] at hx hlt ⊢
    obtain ⟨br, hbr⟩ : ∃ b, w.heap.size + 1 = b := ⟨_, rfl⟩
    rw [hbr] at hr hlt ⊢
    obtain ⟨x0, x1, x2, x3, x4⟩ : W.cell? ⟨bx, 0, none⟩ = some (.int .i64 i) ∧ W.cell? ⟨bx, 1, none⟩ = some (.slice da dm dc) ∧ W.cell? ⟨bx, 2, none⟩ = some (.bool false) ∧ W.cell? ⟨bx, 3, none⟩ = some (.bool wh) ∧ W.cell? ⟨bx, 4, none⟩ = some (.int .i64 lf) := ⟨hx.cell 0, hx.cell 1, hx.cell 2, hx.cell 3, hx.cell 4⟩
    obtain ⟨r0, r1, r2, r3, r4⟩ : W.cell? ⟨br, 0, none⟩ = some (.int .i64 0) ∧ W.cell? ⟨br, 1, none⟩ = some (.slice none 0 0) ∧ W.cell? ⟨br, 2, none⟩ = some (.bool false) ∧ W.cell? ⟨br, 3, none⟩ = some (.bool false) ∧ W.cell? ⟨br, 4, none⟩ = some (.int .i64 0) := ⟨hr.cell 0, hr.cell 1, hr.cell 2, hr.cell 3, hr.cell 4⟩
    obtain ⟨s0, s1, s2, s3, s4⟩ : W.frozen? ⟨br, 0, none⟩ = false ∧ W.frozen? ⟨br, 1, none⟩ = false ∧ W.frozen? ⟨br, 2, none⟩ = false ∧ W.frozen? ⟨br, 3, none⟩ = false ∧ W.frozen? ⟨br, 4, none⟩ = false := ⟨hr.free 0, hr.free 1, hr.free 2, hr.free 3, hr.free 4⟩
    have hge : w.heap.size ≤ br := by omega
    have hfin := ((((hbw.setCell (p := ⟨br, 0, none⟩) hge (.int .i64 i)).setCell (p := ⟨br, 1, none⟩) hge (.slice da dm dc)).setCell (p := ⟨br, 2, none⟩) hge (.bool false)).setCell (p := ⟨br, 3, none⟩) hge (.bool wh)).setCell (p := ⟨br, 4, none⟩) hge (.int .i64 lf)
    have HF := Lib.hid hfin
    clear hx hr hbw hW hbx hbr hge hfin q0 q1 q2 q3 q4 c1 hbr1 hlt
    go_wp2
    exact bodyPost_ret (v := .tuple #[.agg #[.int .i64 i, .slice da dm dc, .bool false, .bool wh, .int .i64 lf], .bool true]) (by simp [results, Try.results17, go_sem, r0, r1, r2, r3, r4]) rfl ⟨rfl, HF.out⟩
  | true =>
    obtain rfl : wh = true := by rcases hw with q | q; cases q; exact q
    clear hw
    go_upto_region 7 with (fail)
    have hx : BkAt w1.heap.size 58 #[.int .i64 i, .slice da dm dc, .bool true, .bool true, .int .i64 lf] (w1.alloc (.cells #[.int .i64 i, .slice da dm dc, .bool true, .bool true, .int .i64 lf] 58)) := BkAt.new _ _ _
    have hr := hbr1.below (below_new w1 (.cells #[.int .i64 i, .slice da dm dc, .bool true, .bool true, .int .i64 lf] 58))
    have hbw := bl_trans' HB.out (below_new w1 (.cells #[.int .i64 i, .slice da dm dc, .bool true, .bool true, .int .i64 lf] 58))
    obtain ⟨W, hW⟩ : ∃ W, (w1.alloc (.cells #[.int .i64 i, .slice da dm dc, .bool true, .bool true, .int .i64 lf] 58)) = W := ⟨_, rfl⟩
    rw [hW] at hx hr hbw ⊢
    obtain ⟨bx, hbx⟩ : ∃ b, w1.heap.size = b := ⟨_, rfl⟩
    rw [hbx] at hx hlt ⊢
    obtain ⟨br, hbr⟩ : ∃ b, w.heap.size + 1 = b := ⟨_, rfl⟩
    rw [hbr] at hr hlt ⊢
    obtain ⟨x0, x1, x2, x3, x4⟩ : W.cell? ⟨bx, 0, none⟩ = some (.int .i64 i) ∧ W.cell? ⟨bx, 1, none⟩ = some (.slice da dm dc) ∧ W.cell? ⟨bx, 2, none⟩ = some (.bool true) ∧ W.cell? ⟨bx, 3, none⟩ = some (.bool true) ∧ W.cell? ⟨bx, 4, none⟩ = some (.int .i64 lf) := ⟨hx.cell 0, hx.cell 1, hx.cell 2, hx.cell 3, hx.cell 4⟩
    obtain ⟨r0, r1, r2, r3, r4⟩ : W.cell? ⟨br, 0, none⟩ = some (.int .i64 0) ∧ W.cell? ⟨br, 1, none⟩ = some (.slice none 0 0) ∧ W.cell? ⟨br, 2, none⟩ = some (.bool false) ∧ W.cell? ⟨br, 3, none⟩ = some (.bool false) ∧ W.cell? ⟨br, 4, none⟩ = some (.int .i64 0) := ⟨hr.cell 0, hr.cell 1, hr.cell 2, hr.cell 3, hr.cell 4⟩
    obtain ⟨s0, s1, s2, s3, s4⟩ : W.frozen? ⟨br, 0, none⟩ = false ∧ W.frozen? ⟨br, 1, none⟩ = false ∧ W.frozen? ⟨br, 2, none⟩ = false ∧ W.frozen? ⟨br, 3, none⟩ = false ∧ W.frozen? ⟨br, 4, none⟩ = false := ⟨hr.free 0, hr.free 1, hr.free 2, hr.free 3, hr.free 4⟩
    have hge : w.heap.size ≤ br := by omega
    have hfin := ((((hbw.setCell (p := ⟨br, 0, none⟩) hge (.int .i64 i)).setCell (p := ⟨br, 1, none⟩) hge (.slice da dm dc)).setCell (p := ⟨br, 2, none⟩) hge (.bool true)).setCell (p := ⟨br, 3, none⟩) hge (.bool true)).setCell (p := ⟨br, 4, none⟩) hge (.int .i64 lf)
    have HF := Lib.hid hfin
    clear hx hr hbw hW hbx hbr hge hfin q0 q1 q2 q3 q4 c1 hbr1 hlt
    go_wp2
    exact bodyPost_ret (v := .tuple #[.agg #[.int .i64 i, .slice da dm dc, .bool true, .bool true, .int .i64 lf], .bool true]) (by simp [results, Try.results17, go_sem, r0, r1, r2, r3, r4]) rfl ⟨rfl, HF.out⟩
end Go.Proofs.Ytbpboghjgbgjfaa
