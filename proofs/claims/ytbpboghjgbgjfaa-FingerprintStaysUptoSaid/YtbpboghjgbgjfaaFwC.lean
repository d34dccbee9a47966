/- A file's data, as bytes that are read alone. Read of a copy that is not whole. -/
import Derived.Test.YtbpboghjgbgjfaaFsS
import Derived.Test.YtbpboghjgbgjfaaBys
import Derived.Test.YtbpboghjgbgjfaaFsR
namespace Go.Proofs.Ytbpboghjgbgjfaa
open Go.RowKit

theorem DtR.by' {w : World} {v : Value} {l : List UInt8} (h : DtR w v l) : BySl w v l := by
  rcases row_form h with ⟨h1, h2⟩ | ⟨g, c, h1, -, h3, h4, -⟩
  · obtain rfl := List.eq_nil_of_length_eq_zero h2
    rw [h1]; exact byS_nil w
  · refine ⟨_, c, h1, h4, fun i hi => ⟨g, 0, rfl, h3, ?_⟩⟩
    rw [Nat.zero_add]
    have hh := h
    unfold DtR at hh
    rw [h1] at hh
    rw [World.ownsRow.cellAt hh i (by omega)]
    simp [byC, hi]
def zL : List UInt8 := [122, 10]
end Go.Proofs.Ytbpboghjgbgjfaa

namespace Go.Proofs.Ytbpboghjgbgjfaa
open Go.RowKit

variable {names : List NameV} {files : List FileV} {opn : List Int} {nv fv ov : Value} {w w' : World}
set_option maxRecDepth 100000 in
set_option maxHeartbeats 2000000 in
theorem copied_any (i : Int) (b n c l : Nat) (w : World) (hn : n ≤ c) (hc : c ≤ 9223372036854775807) (hl : l ≤ n) :
    Calls Try.prog 28 #[.agg #[.int .i64 i, .slice (some ⟨b, 0, none⟩) n c, .bool true, .bool false, .int .i64 (l : Int)]] w fun e w' => e = .returned (.slice (some ⟨b, 0, none⟩) (n - l) (n - l)) ∧ Below w.heap.size w w' := by
  obtain ⟨m, rfl⟩ : ∃ m, n = m + l := ⟨n - l, by omega⟩
  rw [Nat.add_sub_cancel]
  have d1 : decide ((l : Int) < 0) = false := by rw [decide_eq_false_iff_not]; omega
  have e1 : max (l : Int) 0 = (l : Int) := by omega
  have e2 : min (l : Int) ((m + l : Nat) : Int) = (l : Int) := by omega
  have e3 : ((m + l : Nat) : Int) - (l : Int) = (m : Int) := by omega
  go_enter Try.func28, Try.ntmps28
  have e4 : ((m : Int) + (l : Int) - min (l : Int) ((m : Int) + (l : Int))).toNat = m := by omega
  go_wp2
  go_ret
  exact ⟨rfl, below_new _ _⟩
set_option maxRecDepth 100000 in
set_option linter.unusedSimpArgs false in
set_option maxHeartbeats 4000000 in
theorem read_part (ino : Int) (j : Nat) (h : FsAt names files opn nv fv ov w) (hf : Firsts (fun x => x.ino == ino) files j) (hj : j < files.length) (hw : (files[j]).cp = true ∧ (files[j]).wh = false) (b l : Nat) (hdv : ∃ m c, (files[j]).dv = .slice (some ⟨b, 0, none⟩) m c ∧ m ≤ c ∧ c ≤ 9223372036854775807 ∧ l ≤ m) (hlf : (files[j]).lf = (l : Int)) (sz : Nat) (hsz : ∃ c, (files[j]).dv = .slice (some ⟨b, 0, none⟩) sz c) :
    Calls Try.prog 17 #[.agg #[nv, fv, ov], .int .i64 ino] w fun e w' => e = .returned (.tuple #[.agg #[.int .i64 (files[j]).ino, .slice (some ⟨b, 0, none⟩) (sz - l) (sz - l), .bool true, .bool false, .int .i64 0], .bool true]) ∧ Below w.heap.size w w' := by
  obtain ⟨a, c, rfl, -, halt, hcap, hcm⟩ := row_some h.f (by omega)
  obtain ⟨na, nm, nc, rfl⟩ := row_slice h.n
  obtain ⟨oa, om, oc, rfl⟩ := row_slice h.o
  have hbn := below_new w (.cells #[.slice na nm nc, .slice (some ⟨a, 0, none⟩) files.length c, .slice oa om oc] 33)
  have hbx := BkAt.new 33 #[.slice na nm nc, .slice (some ⟨a, 0, none⟩) files.length c, .slice oa om oc] w
  have hz1 : (w.alloc (.cells #[.slice na nm nc, .slice (some ⟨a, 0, none⟩) files.length c, .slice oa om oc] 33)).heap.size = w.heap.size + 1 := by simp
  have hbr : BkAt (w.heap.size + 1) 58 #[.int .i64 0, .slice none 0 0, .bool false, .bool false, .int .i64 0] ((w.alloc (.cells #[.slice na nm nc, .slice (some ⟨a, 0, none⟩) files.length c, .slice oa om oc] 33)).alloc (.cells #[.int .i64 0, .slice none 0 0, .bool false, .bool false, .int .i64 0] 58)) := hz1 ▸ BkAt.new _ _ _
  have hb2 := below_new (w.alloc (.cells #[.slice na nm nc, .slice (some ⟨a, 0, none⟩) files.length c, .slice oa om oc] 33)) (.cells #[.int .i64 0, .slice none 0 0, .bool false, .bool false, .int .i64 0] 58)
  have hb3 := bl_trans' hbn hb2
  have hff := findFile_any files ino j 0 _ _ (h.below hb3).f (by have := h.fl; omega) hf
  have e0 : placeZ files.length j = (j : Int) := by unfold placeZ; rw [if_pos hj]
  rw [e0] at hff
  have hc := fun W (hW : Below w.heap.size w W) => FlR.cells (h.below hW).f hj
  obtain ⟨⟨i, dv, cp, wh, lf⟩, hx⟩ : ∃ x, files[j] = x := ⟨_, rfl⟩
  rw [hx] at hc hw hdv hlf hsz ⊢
  simp only at hc hw hdv hlf hsz ⊢
  obtain ⟨rfl, rfl⟩ := hw
  obtain ⟨dm, dc, rfl, hmc, hcm2, hlm⟩ := hdv
  subst hlf
  obtain ⟨c9, hc9⟩ := hsz
  injection hc9 with _ hc9 hc10
  subst hc9
  subst hc10
  obtain ⟨n, hn⟩ : ∃ n, files.length = n := ⟨_, rfl⟩
  have hbx3 := hbx.below hb2
  rw [hn] at hff hb3 hbx3 hbr hcap hj
  rw [hn]
  have hnl := h.fl
  rw [hn] at hnl
  unfold maxLen at hcm
  have H := Lib.hid (And.intro hff (And.intro hc (And.intro hb3 (And.intro hbx3 hbr))))
  clear hff hc hbn hbx h hf hn hx hb2 hb3 hbx3 hbr hz1 e0
  have hj0 : decide ((j : Int) < 0) = false := by rw [decide_eq_false_iff_not]; omega
  go_enter Try.func17, Try.ntmps17
  go_wp2_with fail
  refine H.out.1.mono ?_
  rintro e w1 ⟨rfl, hb1⟩
  have c1 := (H.out.2.2.2.1.below hb1).cell 1
  simp only [List.getElem?_toArray, List.getElem?_cons_zero, List.getElem?_cons_succ] at c1
  obtain ⟨q0, q1, q2, q3, q4⟩ := H.out.2.1 w1 (bl_trans' H.out.2.2.1 hb1)
  have hbr1 := H.out.2.2.2.2.below hb1
  have hlt := hbr1.lt
  have HB := Lib.hid (bl_trans' H.out.2.2.1 hb1)
  clear hb1
  go_upto_region 6 with (fail)
  have hx : BkAt w1.heap.size 58 #[.int .i64 i, .slice (some ⟨b, 0, none⟩) dm dc, .bool true, .bool false, .int .i64 (l : Int)] (w1.alloc (.cells #[.int .i64 i, .slice (some ⟨b, 0, none⟩) dm dc, .bool true, .bool false, .int .i64 (l : Int)] 58)) := BkAt.new _ _ _
  have hr := hbr1.below (below_new w1 (.cells #[.int .i64 i, .slice (some ⟨b, 0, none⟩) dm dc, .bool true, .bool false, .int .i64 (l : Int)] 58))
  have hbw := bl_trans' HB.out (below_new w1 (.cells #[.int .i64 i, .slice (some ⟨b, 0, none⟩) dm dc, .bool true, .bool false, .int .i64 (l : Int)] 58))
  obtain ⟨W, hW⟩ : ∃ W, (w1.alloc (.cells #[.int .i64 i, .slice (some ⟨b, 0, none⟩) dm dc, .bool true, .bool false, .int .i64 (l : Int)] 58)) = W := ⟨_, rfl⟩
  rw [hW] at hx hr hbw ⊢
  have hw1s : w.heap.size ≤ w1.heap.size := HB.out.size
  obtain ⟨bx, hbx⟩ : ∃ b, w1.heap.size = b := ⟨_, rfl⟩
  rw [hbx] at hx hlt hw1s ⊢
  obtain ⟨br, hbr⟩ : ∃ b, w.heap.size + 1 = b := ⟨_, rfl⟩
  rw [hbr] at hr hlt ⊢
  obtain ⟨x0, x1, x2, x3, x4⟩ : W.cell? ⟨bx, 0, none⟩ = some (.int .i64 i) ∧ W.cell? ⟨bx, 1, none⟩ = some (.slice (some ⟨b, 0, none⟩) dm dc) ∧ W.cell? ⟨bx, 2, none⟩ = some (.bool true) ∧ W.cell? ⟨bx, 3, none⟩ = some (.bool false) ∧ W.cell? ⟨bx, 4, none⟩ = some (.int .i64 (l : Int)) := ⟨hx.cell 0, hx.cell 1, hx.cell 2, hx.cell 3, hx.cell 4⟩
  have HX := Lib.hid (And.intro hx (And.intro hr hbw))
  have hge : w.heap.size ≤ br := by omega
  clear hx hr hbw hW hbx q0 q1 q2 q3 q4 c1 hbr1 hbr
  go_wp2_with fail
  refine (copied_any i b dm dc l W hmc hcm2 hlm).mono ?_
  rintro e w2 ⟨rfl, hb2⟩
  obtain ⟨hx, hr, hbw⟩ := HX.out
  have hx2 := hx.below hb2
  have hr2 := hr.below hb2
  obtain ⟨y0, y1, y2, y3, y4⟩ : w2.cell? ⟨bx, 0, none⟩ = some (.int .i64 i) ∧ w2.cell? ⟨bx, 1, none⟩ = some (.slice (some ⟨b, 0, none⟩) dm dc) ∧ w2.cell? ⟨bx, 2, none⟩ = some (.bool true) ∧ w2.cell? ⟨bx, 3, none⟩ = some (.bool false) ∧ w2.cell? ⟨bx, 4, none⟩ = some (.int .i64 (l : Int)) := ⟨hx2.cell 0, hx2.cell 1, hx2.cell 2, hx2.cell 3, hx2.cell 4⟩
  obtain ⟨z1, z4⟩ : w2.frozen? ⟨bx, 1, none⟩ = false ∧ w2.frozen? ⟨bx, 4, none⟩ = false := ⟨hx2.free 1, hx2.free 4⟩
  have HY := Lib.hid (And.intro hx2 (And.intro hr2 (bl_trans' hbw hb2)))
  clear hx hr hbw hx2 hr2 hb2 x0 x1 x2 x3 x4
  go_upto_region 7 with (fail)
  obtain ⟨hx2, hr2, hbw2⟩ := HY.out
  have hx := (hx2.set 1 (.slice (some ⟨b, 0, none⟩) (dm - l) (dm - l))).set 4 (.int .i64 0)
  have hr := (hr2.other 1 (.slice (some ⟨b, 0, none⟩) (dm - l) (dm - l)) (c := bx) (by omega)).other 4 (.int .i64 0) (c := bx) (by omega)
  have hbw := (hbw2.setCell (p := ⟨bx, 1, none⟩) (by show w.heap.size ≤ bx; omega) (.slice (some ⟨b, 0, none⟩) (dm - l) (dm - l))).setCell (p := ⟨bx, 4, none⟩) (by show w.heap.size ≤ bx; omega) (.int .i64 0)
  obtain ⟨V, hV⟩ : ∃ V, ((w2.setCell ⟨bx, 1, none⟩ (.slice (some ⟨b, 0, none⟩) (dm - l) (dm - l))).setCell ⟨bx, 4, none⟩ (.int .i64 0)) = V := ⟨_, rfl⟩
  rw [hV] at hx hr hbw ⊢
  obtain ⟨x0, x1, x2, x3, x4⟩ : V.cell? ⟨bx, 0, none⟩ = some (.int .i64 i) ∧ V.cell? ⟨bx, 1, none⟩ = some (.slice (some ⟨b, 0, none⟩) (dm - l) (dm - l)) ∧ V.cell? ⟨bx, 2, none⟩ = some (.bool true) ∧ V.cell? ⟨bx, 3, none⟩ = some (.bool false) ∧ V.cell? ⟨bx, 4, none⟩ = some (.int .i64 0) := ⟨hx.cell 0, hx.cell 1, hx.cell 2, hx.cell 3, hx.cell 4⟩
  obtain ⟨r0, r1, r2, r3, r4⟩ : V.cell? ⟨br, 0, none⟩ = some (.int .i64 0) ∧ V.cell? ⟨br, 1, none⟩ = some (.slice none 0 0) ∧ V.cell? ⟨br, 2, none⟩ = some (.bool false) ∧ V.cell? ⟨br, 3, none⟩ = some (.bool false) ∧ V.cell? ⟨br, 4, none⟩ = some (.int .i64 0) := ⟨hr.cell 0, hr.cell 1, hr.cell 2, hr.cell 3, hr.cell 4⟩
  obtain ⟨s0, s1, s2, s3, s4⟩ : V.frozen? ⟨br, 0, none⟩ = false ∧ V.frozen? ⟨br, 1, none⟩ = false ∧ V.frozen? ⟨br, 2, none⟩ = false ∧ V.frozen? ⟨br, 3, none⟩ = false ∧ V.frozen? ⟨br, 4, none⟩ = false := ⟨hr.free 0, hr.free 1, hr.free 2, hr.free 3, hr.free 4⟩
  have hfin := ((((hbw.setCell (p := ⟨br, 0, none⟩) hge (.int .i64 i)).setCell (p := ⟨br, 1, none⟩) hge (.slice (some ⟨b, 0, none⟩) (dm - l) (dm - l))).setCell (p := ⟨br, 2, none⟩) hge (.bool true)).setCell (p := ⟨br, 3, none⟩) hge (.bool false)).setCell (p := ⟨br, 4, none⟩) hge (.int .i64 0)
  have HF := Lib.hid hfin
  clear hx hr hbw hV hge hfin hx2 hr2 hbw2 y0 y1 y2 y3 y4 z1 z4 HY HX
  obtain ⟨sz, hsz⟩ : ∃ s, dm - l = s := ⟨_, rfl⟩
  rw [hsz] at HF x1 ⊢
  have HSZ := Lib.hid hsz
  clear hsz
  go_wp2
  exact bodyPost_ret (v := .tuple #[.agg #[.int .i64 i, .slice (some ⟨b, 0, none⟩) sz sz, .bool true, .bool false, .int .i64 0], .bool true]) (by simp [results, Try.results17, go_sem, r0, r1, r2, r3, r4]) rfl ⟨by rw [HSZ.out], HF.out⟩
end Go.Proofs.Ytbpboghjgbgjfaa
