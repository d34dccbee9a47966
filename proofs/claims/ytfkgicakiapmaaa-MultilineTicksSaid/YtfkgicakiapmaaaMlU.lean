/- MultilineCovers: the law. -/
import Derived.Test.YtfkgicakiapmaaaMlT
import Derived.Deep.RegionHeld3
import Derived.Deep.DeepCutAuto
namespace Go.Proofs.Ytfkgicakiapmaaa
open Go Go.RowKit

/-- The ticks, as the law reads them. -/
def TkAt (n : Nat) (tv : Value) (lt : List UInt8) (w : World) : Prop := ∃ a c, tv = .slice a lt.length c ∧ ∀ i (hi : i < lt.length), ∃ b o, a = some ⟨b, o, none⟩ ∧ b < n ∧ w.cell? ⟨b, o + i, none⟩ = some (.int .u8 (lt[i].toNat : Int))
theorem TkAt.ofArg {w : World} {sv : Value} {l : List UInt8} (h : ArgB w w.heap.size sv l) : TkAt w.heap.size sv l w := by
  rcases h with ⟨rfl, rfl⟩ | ⟨ad, cap, rfl, -, hc, hb⟩
  · exact ⟨none, 0, rfl, fun i hi => absurd hi (by simp)⟩
  · refine ⟨_, _, rfl, fun i hi => ?_⟩
    obtain ⟨bk, off, rfl, hbk⟩ := hb (by omega)
    have := hc i (.int .u8 (l[i].toNat : Int)) (by simp [Lib.byteCells, hi])
    refine ⟨bk, off, rfl, hbk, ?_⟩
    rw [← this]
    unfold Addr.add
    split
    · rename_i hz; rw [hz]; rfl
    · rfl
theorem TkAt.below {n : Nat} {tv : Value} {lt : List UInt8} {w w' : World} (h : TkAt n tv lt w) (k : Below n w w') : TkAt n tv lt w' := by
  obtain ⟨a, c, h1, h2⟩ := h
  refine ⟨a, c, h1, fun i hi => ?_⟩
  obtain ⟨b, o, h3, h4, h5⟩ := h2 i hi
  exact ⟨b, o, h3, h4, by rw [← h5]; unfold World.cell?; rw [k.block b h4]⟩

/-- What the law's first loop keeps. -/
structure CvI (op : Int) (rs : List (Nat × Nat)) (ra : Option Addr) (rc : Nat) (fv : Value) (ls : List FrV) (tv : Value) (lt : List UInt8) (n N5 A : Nat) (w : World) (ov : Value) (xs : List BkV) (v : Value) (s : Int) (opn : List LnV) (wr : World) : Prop where
  nd : NdAt rs ra rc wr
  nb : BkAt N5 27 (ndA op ra rs.length rc) wr
  fr : FrsAt fv ls wr
  tk : TkAt n tv lt wr
  bl : Below n w wr
  row : wr.ownsRow n 44 4 ov xs.length (bksC xs)
  el : ∀ b ∈ xs, ElB b wr
  bx : BkAt A 35 #[v, .int .i64 s] wr
  ln : LnsAt v opn wr
  nil : opn = [] → v = .slice none 0 0
  hA : n ≤ A
  hn : n ≤ wr.heap.size
section
variable {op : Int} {rs : List (Nat × Nat)} {ra : Option Addr} {rc : Nat} {fv : Value} {ls : List FrV} {tv : Value} {lt : List UInt8} {n N5 A : Nat} {w : World} {ov : Value} {xs : List BkV} {v : Value} {s : Int} {opn : List LnV} {wr : World}
theorem CvI.below (h : CvI op rs ra rc fv ls tv lt n N5 A w ov xs v s opn wr) {w' : World} (k : Below wr.heap.size wr w') : CvI op rs ra rc fv ls tv lt n N5 A w ov xs v s opn w' :=
  ⟨h.nd.below k, h.nb.below k, row_below h.fr k, h.tk.below (k.mono h.hn), h.bl.trans (k.mono h.hn), row_below h.row k, fun b hb => LnsAt.below (h.el b hb) k, h.bx.below k, LnsAt.below h.ln k, h.nil, h.hA, Nat.le_trans h.hn k.size⟩
theorem CvI.set (h : CvI op rs ra rc fv ls tv lt n N5 A w ov xs v s opn wr) {v' : Value} {s' : Int} {opn' : List LnV} (hl : LnsAt v' opn' wr) (hn : opn' = [] → v' = .slice none 0 0) : CvI op rs ra rc fv ls tv lt n N5 A w ov xs v' s' opn' ((wr.setCell ⟨A, 0, none⟩ v').setCell ⟨A, 1, none⟩ (.int .i64 s')) := by
  have hc : ChP (fun k => k = A) wr ((wr.setCell ⟨A, 0, none⟩ v').setCell ⟨A, 1, none⟩ (.int .i64 s')) := ((ChP.refl (fun k => k = A) wr).set A 0 _ rfl).set A 1 _ rfl
  have hbl : Below n wr ((wr.setCell ⟨A, 0, none⟩ v').setCell ⟨A, 1, none⟩ (.int .i64 s')) := hc.toBelow h.hn (fun i hi => by rw [hi]; exact h.hA)
  have hNA : N5 ≠ A := fun e => by
    have h1 := h.nb
    have h2 := h.bx
    rw [e] at h1
    unfold BkAt at h1 h2
    rw [h1] at h2
    exact absurd h2 (by intro q; injection q with q; injection q with _ q2 _; exact absurd q2 (by decide))
  exact ⟨row_ch h.nd hc (fun g hg e => row_ne h.nd h.bx (by decide) hg e), h.nb.ch hc hNA, row_ch h.fr hc (fun g hg e => row_ne h.fr h.bx (by decide) hg e), h.tk.below hbl, h.bl.trans hbl, row_ch h.row hc (fun g hg e => row_ne h.row h.bx (by decide) hg e), fun b hb => row_ch (h.el b hb) hc (fun g hg e => row_ne (h.el b hb) h.bx (by decide) hg e), (h.bx.set 0 _).set 1 _, row_ch hl hc (fun g hg e => row_ne hl h.bx (by decide) hg e), hn, h.hA, Nat.le_trans h.hn hbl.size⟩
theorem CvI.app (h : CvI op rs ra rc fv ls tv lt n N5 A w ov xs v s opn wr) {w' : World} {ov' : Value} {ys : List BkV} (hr : w'.ownsRow n 44 4 ov' (xs ++ ys).length (bksC (xs ++ ys))) (hg : wr.grownBy w' ov.ownBlock) (hy : ∀ b ∈ ys, ElB b wr) : CvI op rs ra rc fv ls tv lt n N5 A w ov' (xs ++ ys) v s opn w' := by
  have k : KpB n wr w' := KpB.grown h.row hg
  have hbl : Below n wr w' := ⟨World.grownBy.os hg, World.grownBy.tape hg, World.grownBy.output hg, World.grownBy.size hg, fun i hi => World.grownBy.block hg i (Nat.lt_of_lt_of_le hi h.hn) (fun e => by have := (World.ownsRow.lt h.row i e.symm).1; omega)⟩
  refine ⟨k.nd h.nd, k.bk h.nb (by decide) (by decide), k.row h.fr (by decide) (by decide), h.tk.below hbl, h.bl.trans hbl, hr, fun b hb => ?_, k.bk h.bx (by decide) (by decide), k.lns h.ln, h.nil, h.hA, Nat.le_trans h.hn hbl.size⟩
  rcases List.mem_append.1 hb with hb | hb
  · exact k.lns (h.el b hb)
  · exact k.lns (hy b hb)
end
/-- The pattern's answers. -/
theorem lf_mt {op : Int} {rs : List (Nat × Nat)} (h : LfV op rs) (ra : Option Addr) (rc : Nat) : op ≠ 0 → MtC op rs ra rc (lfM op rs) := fun ho => by
  rcases h with ⟨h, -⟩ | ⟨h1, h2, h3⟩
  · exact absurd h ho
  · exact match_leaf op h1 rs h3 h2 ra rc

/-- Of one block, what the law checks. -/
theorem cov_block {zs : List BkV} {ls : List FrV} (h : CovS (zs.map (·.p)) [] ls) {j : Nat} (hj : j < zs.length) : ∃ z : BkV, zs[j] = z ∧ GdB z.p ∧ cnt (zs.map (·.p)) (j + 1) = cnt (zs.map (·.p)) j + z.p.ls.length ∧
    ∀ i (hi : i < z.p.ls.length), ∃ hk : cnt (zs.map (·.p)) j + i < ls.length, ls[cnt (zs.map (·.p)) j + i].ln = z.p.ls[i] ∧ ls[cnt (zs.map (·.p)) j + i].tl = decide (z.p.rule ≠ ⟨#[]⟩) := by
  have hjm : j < (zs.map (·.p)).length := by simpa using hj
  refine ⟨zs[j], rfl, h.g _ (List.mem_map.2 ⟨zs[j], List.getElem_mem hj, rfl⟩), by simpa using cnt_succ hjm, fun i hi => ?_⟩
  obtain ⟨hk, h1, h2⟩ := cov_get h hjm (i := i) (by simpa using hi)
  exact ⟨hk, by simpa using h1, by simpa using h2⟩
theorem cnt_last {zs : List BkV} {ls : List FrV} (h : CovS (zs.map (·.p)) [] ls) : cnt (zs.map (·.p)) zs.length = ls.length := by
  have := cnt_all h
  rwa [List.length_map] at this
theorem cnt_le {zs : List BkV} {ls : List FrV} (h : CovS (zs.map (·.p)) [] ls) (j : Nat) : cnt (zs.map (·.p)) j ≤ ls.length := by
  have h1 := congrArg List.length h.l
  have h2 : (linL ls).length = ls.length := by simp [linL]
  have h3 : covL (zs.map (·.p)) = covL ((zs.map (·.p)).take j) ++ covL ((zs.map (·.p)).drop j) := by rw [← covL_app, List.take_append_drop]
  rw [h3, h2] at h1
  simp only [List.length_append] at h1
  unfold cnt
  omega

set_option maxRecDepth 100000 in
set_option linter.unusedSimpArgs false in
set_option maxHeartbeats 16000000 in
theorem law_covers (cv tv : Value) (lc lt : List UInt8) (w : World) (hc : ArgB w w.heap.size cv lc) (ht : ArgB w w.heap.size tv lt) :
    Calls Try.prog 3 #[cv, tv] w fun e w' => e = .returned (.bool true) ∧ Below w.heap.size w w' := by
  have haw := awake_any w
  obtain ⟨ta, tc, rfl, -⟩ := TkAt.ofArg ht
  have H := Lib.hid (And.intro hc (And.intro (TkAt.ofArg ht) haw))
  clear hc ht haw
  go_enter Try.func3, Try.ntmps3
  go_wp2_with fail
  refine (H.out.2.2).mono ?_
  rintro e w1 ⟨rfl, hb1⟩
  have HA := Lib.hid hb1
  clear hb1
  go_wp2_with fail
  refine (new_any _ lc 240 w1 (H.out.1.below HA.out) (by omega)).mono ?_
  rintro e w2 ⟨rfl, hm, hb2⟩
  obtain ⟨C, hC⟩ : ∃ C, w1.heap.size = C := ⟨_, rfl⟩
  rw [hC] at hm
  have HC := Lib.hid (And.intro hm (And.intro hb2 hC))
  clear hm hb2
  simp only [hC]
  clear hC
  go_wp2_with fail
  refine (draw_any C 14 (by omega) w2 HC.out.1).mono ?_
  rintro e w3 ⟨op, rs, ra, rc, fv, ls, rfl, hnd, hlf, hfr, hln, hok, hm3, hf3⟩
  obtain ⟨fa, fc, rfl, hfc, hfcell⟩ := frs_form hfr
  have HD := Lib.hid (And.intro hnd (And.intro hlf (And.intro hfr (And.intro hok (And.intro hm3 hf3)))))
  clear hnd hlf hfr hok hm3 hf3 hfcell
  unfold ndA
  go_wp2_with fail
  have hb3 : Below w.heap.size w w3 := (bl_trans' HA.out HC.out.2.1).trans ((GFr.toBelow HD.out.2.2.2.2.2 (Nat.le_of_lt HC.out.1.lt)).mono (by have := HA.out.size; have := HC.out.2.2; omega))
  obtain ⟨W5, hW5⟩ : ∃ y, ((w3.alloc (.cells #[.int .i64 op, .slice ra rs.length rc, .string ⟨#[]⟩, .slice none 0 0, .int .i64 0, .int .i64 0] 27)).alloc (.cells #[.slice none 0 0, .int .i64 0] 35)) = y := ⟨_, rfl⟩
  obtain ⟨N5, hN5⟩ : ∃ y, w3.heap.size = y := ⟨_, rfl⟩
  have hI0 : CvI op rs ra rc (.slice fa ls.length fc) ls (.slice ta lt.length tc) lt w.heap.size N5 (N5 + 1) w (.slice none 0 0) [] (.slice none 0 0) 0 [] W5 := by
    have k : Below w3.heap.size w3 W5 := by rw [← hW5]; exact bl_trans' (below_new _ _) (below_new _ _)
    refine ⟨HD.out.1.below k, ?_, row_below HD.out.2.2.1 k, H.out.2.1.below (hb3.trans (k.mono hb3.size)), hb3.trans (k.mono hb3.size), World.ownsRow_nil _ _ _ _, fun b hb => absurd hb (by simp), ?_, lns_empty _, fun _ => rfl, by have := hb3.size; omega, by have h1 := hb3.size; have h2 := k.size; omega⟩
    · rw [← hW5, ← hN5]
      exact (BkAt.new _ _ _).below (below_new _ _)
    · have q := BkAt.new 35 #[.slice none 0 0, .int .i64 0] (w3.alloc (.cells #[.int .i64 op, .slice ra rs.length rc, .string ⟨#[]⟩, .slice none 0 0, .int .i64 0, .int .i64 0] 27))
      rw [World.size_alloc, hN5] at q
      rw [← hW5]
      exact q
  have HI := Lib.hid (And.intro hI0 (And.intro HD.out.2.1 HD.out.2.2.2.1))
  rw [hW5]
  simp only [hN5]
  clear hW5 hN5 hI0 HD HC HA hb3
  obtain ⟨A, hA⟩ : ∃ A, N5 + 1 = A := ⟨_, rfl⟩
  rw [hA] at HI
  simp only [hA]
  clear hA
  obtain ⟨emp, hemp⟩ : ∃ b, decide (op = 0) = b := ⟨_, rfl⟩
  obtain ⟨m, hm⟩ : ∃ m, lfM op rs = m := ⟨_, rfl⟩
  go_loopw [8, 29] (fun ov iv wr => ∃ (i : Nat) (xs : List BkV) (v : Value) (s : Int) (opn : List LnV), iv = .int .i64 (i : Int) ∧ i ≤ ls.length ∧ CvI op rs ra rc (.slice fa ls.length fc) ls (.slice ta lt.length tc) lt w.heap.size N5 A w ov xs v s opn wr ∧ OkS opn ∧ (emp = true → opn = []) ∧ CovS (xs.map (·.p)) opn (ls.take i) ∧ xs.length ≤ 3 * i) (fun _ iv _ => ls.length - (intOf iv).toNat)
  case atStart => exact ⟨0, [], .slice none 0 0, 0, [], rfl, Nat.zero_le _, HI.out.1, ⟨by simp, fun y hy => absurd hy (by simp)⟩, fun _ => rfl, by rw [List.take_zero]; exact CovS.init, by simp⟩
  case round =>
    obtain ⟨i, xs, v, s, opn, rfl, hil, hI, hks, hem, hcv, hxl⟩ := hrel
    obtain ⟨va, vn, vc, rfl⟩ := row_slice hI.ln
    obtain ⟨oa, on, oc, rfl⟩ := row_slice hI.row
    by_cases hi : i < ls.length
    · have d1 : decide ((i : Int) < (ls.length : Int)) = true := by rw [decide_eq_true_iff]; omega
      have d2 : decide (i < ls.length) = true := decide_eq_true hi
      obtain ⟨fa', fc', hfe, hfc', hfcell⟩ := frs_form hI.fr
      obtain ⟨g, hge, hgl, hcell⟩ := hfcell i hi
      obtain ⟨⟨⟨off, len, txt⟩, dmg, tl⟩, hx⟩ : ∃ x, ls[i] = x := ⟨_, rfl⟩
      have hxk : LnOk ⟨⟨off, len, txt⟩, dmg, tl⟩ := by rw [← hx]; exact HI.out.2.2 _ (List.getElem_mem hi)
      have htk : ls.take (i + 1) = ls.take i ++ [⟨⟨off, len, txt⟩, dmg, tl⟩] := by rw [List.take_add_one, List.getElem?_eq_getElem hi, hx]; rfl
      rw [hx] at hcell
      obtain ⟨c0, c1, c2, c3, c4⟩ : wr.cell? ⟨g, i * 5, none⟩ = some (.int .i64 off) ∧ wr.cell? ⟨g, i * 5 + 1, none⟩ = some (.int .i64 len) ∧ wr.cell? ⟨g, i * 5 + 2, none⟩ = some (.string txt) ∧ wr.cell? ⟨g, i * 5 + 3, none⟩ = some (.int .i64 dmg) ∧ wr.cell? ⟨g, i * 5 + 4, none⟩ = some (.bool tl) := ⟨hcell 0 (by omega), hcell 1 (by omega), hcell 2 (by omega), hcell 3 (by omega), hcell 4 (by omega)⟩
      obtain rfl : fa = some ⟨g, 0, none⟩ := by injection hfe with e1 _ _; exact e1.trans hge
      have hI1 := hI.below (below_new wr (.cells #[.int .i64 off, .int .i64 len, .string txt, .int .i64 dmg, .bool tl] 38))
      have hX := BkAt.new 38 #[.int .i64 off, .int .i64 len, .string txt, .int .i64 dmg, .bool tl] wr
      have ha := add_any (x := ⟨off, len, txt⟩) (dmg := dmg) (tl := tl) (s := s) (now := (i : Int)) (op := op) (rs := rs) (ra := ra) (rc := rc) (m := m) (by rw [← hm]; exact lf_mt HI.out.2.1 ra rc) hI1.ln hI.nil hks hxk.1 (by have h1 : txt.size ≤ 200 := hxk.2.1; show txt.size ≤ 20000; omega) hI1.nd
      rw [hemp] at ha
      have HR := Lib.hid (And.intro hI1 (And.intro ha (And.intro hX (And.intro hks (And.intro hem (And.intro hcv (And.intro hxl (And.intro hxk htk))))))))
      have hbx := hI.bx
      have hnb := hI.nb
      have hal := hbx.lt
      have hnl := hnb.lt
      clear hI hI1 ha hX hks hem hcv hxl hxk htk hcell hfcell hfe hge hx
      unfold ndA at hnb
      have a0 := hbx.cell 0
      have a1 := hbx.cell 1
      have n0 := hnb.cell 0
      have n1 := hnb.cell 1
      have n2 := hnb.cell 2
      have n3 := hnb.cell 3
      have n4 := hnb.cell 4
      have n5 := hnb.cell 5
      clear hbx hnb
      go_wp2_with fail
      refine HR.out.2.1.mono ?_
      rintro e w6 ⟨v', sl, ys, rfl, hlo, hno, hry, hyp, hey, hb6⟩
      obtain ⟨opn', hopn'⟩ : ∃ y, addO m emp opn ⟨off, len, txt⟩ tl = y := ⟨_, rfl⟩
      obtain ⟨s', hs'⟩ : ∃ y, addT emp s (i : Int) tl = y := ⟨_, rfl⟩
      rw [hopn'] at hlo hno
      rw [hs']
      obtain ⟨pa, pn, pc, rfl⟩ := row_slice hlo
      obtain ⟨sa, sn, sc, rfl⟩ := row_slice hry
      have hI6 := HR.out.1.below hb6
      have hbx := hI6.bx
      have a0' := hbx.cell 0
      have a1' := hbx.cell 1
      have f0 := hbx.free 0
      have f1 := hbx.free 1
      have hc : ChP (fun k => k = A) w6 ((w6.setCell ⟨A, 0, none⟩ (.slice pa pn pc)).setCell ⟨A, 1, none⟩ (.int .i64 s')) := ((ChP.refl (fun k => k = A) w6).set A 0 _ rfl).set A 1 _ rfl
      have hI7 := hI6.set (s' := s') hlo hno
      have hry7 := row_ch hry hc (fun g hg e => row_ne hry hbx (by decide) hg e)
      have hey7 : ∀ b ∈ ys, ElB b ((w6.setCell ⟨A, 0, none⟩ (.slice pa pn pc)).setCell ⟨A, 1, none⟩ (.int .i64 s')) := fun b hb => row_ch (hey b hb) hc (fun g hg e => row_ne (hey b hb) hbx (by decide) hg e)
      have hyl : ys.length ≤ 2 := by have h1 := congrArg List.length hyp; rw [List.length_map] at h1; rw [h1]; exact addB_len _ _ _ _ _
      have hcv' : CovS ((xs ++ ys).map (·.p)) opn' (ls.take (i + 1)) := by
        rw [HR.out.2.2.2.2.2.2.2.2, List.map_append, hyp, ← hopn']
        exact HR.out.2.2.2.2.2.1.add m emp ⟨⟨off, len, txt⟩, dmg, tl⟩ HR.out.2.2.2.2.1 HR.out.2.2.2.2.2.2.2.1.2.2
      have hks' : OkS opn' := by rw [← hopn']; exact addO_ok HR.out.2.2.2.1 HR.out.2.2.2.2.2.2.2.1.1
      have hem' : emp = true → opn' = [] := fun he => by rw [← hopn']; exact addO_emp HR.out.2.2.2.2.1 he
      have hxl' := HR.out.2.2.2.2.2.2.1
      have hln' : (xs ++ ys).length ≤ 3 * i + 2 := by rw [List.length_append]; omega
      have HS := Lib.hid (And.intro hI7 (And.intro hry7 (And.intro hey7 (And.intro hcv' (And.intro hks' (And.intro hem' hln'))))))
      clear hI6 hI7 hry7 hey7 hcv' hks' hem' hln' hlo hno hry hyp hey hb6 hbx hc hopn' hs' a0 a1 n0 n1 n2 n3 n4 n5 c0 c1 c2 c3 c4
      go_wp2_with (at_builtin; refine wpList_append_bks rfl (.tmp 42) (.tmp 43) rfl w.heap.size _ xs rfl HS.out.1.row _ _ ys rfl HS.out.2.1 HS.out.2.2.1 ?c1 HS.out.1.hn ?_)
      case c1 => omega
      intro ov' w8 hr8 hg8
      have hI8 := HS.out.1.app (by rw [List.length_append]; exact hr8) hg8 HS.out.2.2.1
      obtain ⟨oa', on', oc', rfl⟩ := row_slice hI8.row
      have HT := Lib.hid hI8
      clear hr8 hg8 hI8
      have e2 : IntKind.i64.wrap ((i : Int) + 1) = ((i + 1 : Nat) : Int) := by rw [IntWalk.i64_in _ (by omega)]; omega
      by_cases hti : i < lt.length
      · have d3 : decide ((i : Int) < (lt.length : Int)) = true := by rw [decide_eq_true_iff]; omega
        have d4 : decide (i < lt.length) = true := decide_eq_true hti
        obtain ⟨ta', tc', hte, htc⟩ := HT.out.tk
        obtain ⟨tb, tq, htae, htb, htcell⟩ := htc i hti
        obtain rfl : ta = some ⟨tb, tq, none⟩ := by injection hte with e1 _ _; exact e1.trans htae
        obtain ⟨tx, htx⟩ : ∃ x : Nat, lt[i].toNat = x ∧ x < 256 := ⟨_, rfl, UInt8.toNat_lt _⟩
        rw [htx.1] at htcell
        have htx2 := htx.2
        have hHS : ∀ W, Below w.heap.size w W → W.cell? ⟨tb, tq + i, none⟩ = some (.int .u8 (tx : Int)) := fun W hW => by
          obtain ⟨x1, x2, x3, x4⟩ := H.out.2.1.below hW
          obtain ⟨x5, x6, x7, x8, x9⟩ := x4 i hti
          rw [htx.1] at x9
          injection x3 with x3 _ _
          rw [← x3] at x7
          cases x7
          exact x9
        have hak := fun (W : World) (hW : Below w8.heap.size w8 W) wait now => tick_any (s := s') wait now (HT.out.below hW).ln HT.out.nil HS.out.2.2.2.2.1
        have HU := Lib.hid hak
        have HV := Lib.hid hHS
        have hb0 := Lib.hid (show Below w8.heap.size w8 w8.drew from (Below.refl _ _).drew)
        have hc0 := Lib.hid (show Below w.heap.size w w8.drew from HT.out.bl.drew)
        have hAn := HT.out.hA
        have y0 : w8.drew.cell? ⟨A, 0, none⟩ = some (.slice pa pn pc) := HT.out.bx.cell 0
        have y1 : w8.drew.cell? ⟨A, 1, none⟩ = some (.int .i64 s') := HT.out.bx.cell 1
        clear hak hHS hte htc htae htx htcell
        have r1 : IntKind.i64.wrap (tx : Int) = tx := IntWalk.i64_in _ (by omega)
        go_upto_region 13 with (fail)
        refine wp_region_held_drew (S := fun V => V.cell? ⟨tb, tq + i, none⟩ = some (.int .u8 (tx : Int))) (by kernel_rfl) (HV.out _ hc0.out) (fun hHeld => ?_)
        refine wpAnyH_take (i := 1) (v := ?v1) rfl (by kernel_rfl) (by kernel_rfl) (by kernel_rfl) (fun _ _ _ h => h) (Or.inl ⟨by rfl, fun w' hSw => ?y1⟩) (by assumption) ?r1
        case y1 =>
          go_simp
          try with_reducible rfl
        try simp only [Act.put, List.setIfInBounds_toArray, List.set_cons_zero, List.set_cons_succ]
        refine wpAnyH_take (i := 2) (v := ?v2) rfl (by kernel_rfl) (by kernel_rfl) (by kernel_rfl) (fun _ _ _ h => h) (Or.inl ⟨by rfl, fun w' hSw => ?y2⟩) (by assumption) ?r2
        case y2 =>
          go_simp
          try with_reducible rfl
        try simp only [Act.put, List.setIfInBounds_toArray, List.set_cons_zero, List.set_cons_succ]
        refine wpAnyH_take (i := 3) (v := ?v3) rfl (by kernel_rfl) (by kernel_rfl) (by kernel_rfl) (fun _ _ _ h => h) (Or.inl ⟨by rfl, fun w' hSw => ?y3⟩) (by assumption) ?r3
        case y3 =>
          go_simp
          try with_reducible rfl
        try simp only [Act.put, List.setIfInBounds_toArray, List.set_cons_zero, List.set_cons_succ]
        refine wpAnyH_take (i := 4) (v := ?v4) rfl (by kernel_rfl) (by kernel_rfl) (by kernel_rfl) (fun _ _ _ h => h) (Or.inl ⟨by rfl, fun w' hSw => ?y4⟩) (by assumption) ?r4
        case y4 =>
          go_simp
          try with_reducible rfl
        try simp only [Act.put, List.setIfInBounds_toArray, List.set_cons_zero, List.set_cons_succ]
        refine wpAnyH_take (i := 5) (v := ?v5) rfl (by kernel_rfl) (by kernel_rfl) (by kernel_rfl) (fun _ _ _ h => h) (Or.inl ⟨by rfl, fun w' hSw => ?y5⟩) (by assumption) ?r5
        case y5 =>
          go_simp
          try with_reducible rfl
        try simp only [Act.put, List.setIfInBounds_toArray, List.set_cons_zero, List.set_cons_succ]
        refine wpAnyH_take (i := 6) (v := ?v6) rfl (by kernel_rfl) (by kernel_rfl) (by kernel_rfl) (fun _ _ _ h => h) (Or.inl ⟨by rfl, fun w' hSw => ?y6⟩) (by assumption) ?r6
        case y6 =>
          go_simp
          try with_reducible rfl
        try simp only [Act.put, List.setIfInBounds_toArray, List.set_cons_zero, List.set_cons_succ]
        refine wpAnyH_take (i := 7) (v := ?v7) rfl (by kernel_rfl) (by kernel_rfl) (by kernel_rfl) (fun _ _ _ h => h) (Or.inl ⟨by rfl, fun w' hSw => ?y7⟩) (by assumption) ?r7
        case y7 =>
          go_simp
          try with_reducible rfl
        try simp only [Act.put, List.setIfInBounds_toArray, List.set_cons_zero, List.set_cons_succ]
        refine wpAnyH_take (i := 8) (v := ?v8) rfl (by kernel_rfl) (by kernel_rfl) (by kernel_rfl) (fun _ _ _ h => h) (Or.inl ⟨by rfl, fun w' hSw => ?y8⟩) (by assumption) ?r8
        case y8 =>
          go_simp
          try with_reducible rfl
        try simp only [Act.put, List.setIfInBounds_toArray, List.set_cons_zero, List.set_cons_succ]
        refine wpAnyH_take (i := 9) (v := ?v9) rfl (by kernel_rfl) (by kernel_rfl) (by kernel_rfl) (fun _ _ _ h => h) (Or.inl ⟨by rfl, fun w' hSw => ?y9⟩) (by assumption) ?r9
        case y9 =>
          go_simp
          try with_reducible rfl
        try simp only [Act.put, List.setIfInBounds_toArray, List.set_cons_zero, List.set_cons_succ]
        refine wpAnyH_take (i := 10) (v := ?v10) rfl (by kernel_rfl) (by kernel_rfl) (by kernel_rfl) (fun _ _ _ h => h) (Or.inl ⟨by rfl, fun w' hSw => ?y10⟩) (by assumption) ?r10
        case y10 =>
          go_simp
          try with_reducible rfl
        try simp only [Act.put, List.setIfInBounds_toArray, List.set_cons_zero, List.set_cons_succ]
        refine wpAnyH_take (i := 11) (v := ?v11) rfl (by kernel_rfl) (by kernel_rfl) (by kernel_rfl) (fun _ _ _ h => h) (Or.inl ⟨by rfl, fun w' hSw => ?y11⟩) (by assumption) ?r11
        case y11 =>
          go_simp
          try with_reducible rfl
        try simp only [Act.put, List.setIfInBounds_toArray, List.set_cons_zero, List.set_cons_succ]
        refine wpAnyH_take (i := 12) (v := ?v12) rfl (by kernel_rfl) (by kernel_rfl) (by kernel_rfl) (fun _ _ _ h => h) (Or.inl ⟨by rfl, fun w' hSw => ?y12⟩) (by assumption) ?r12
        case y12 =>
          go_simp
          try with_reducible rfl
        try simp only [Act.put, List.setIfInBounds_toArray, List.set_cons_zero, List.set_cons_succ]
        refine wpAnyH_take (i := 13) (v := ?v13) rfl (by kernel_rfl) (by kernel_rfl) (by kernel_rfl) (fun _ _ _ h => h) (Or.inl ⟨by rfl, fun w' hSw => ?y13⟩) (by assumption) ?r13
        case y13 =>
          go_simp
          try with_reducible rfl
        try simp only [Act.put, List.setIfInBounds_toArray, List.set_cons_zero, List.set_cons_succ]
        refine wpAnyH_take (i := 14) (v := ?v14) rfl (by kernel_rfl) (by kernel_rfl) (by kernel_rfl) (fun _ _ _ h => h) (Or.inl ⟨by rfl, fun w' hSw => ?y14⟩) (by assumption) ?r14
        case y14 =>
          go_simp
          try with_reducible rfl
        try simp only [Act.put, List.setIfInBounds_toArray, List.set_cons_zero, List.set_cons_succ]
        refine wpAnyH_ready (rs := [0]) (by kernel_rfl) (by simp) (AllReadyH.cons rfl (fun K hK => ?_) AllReadyH.nil)
        go_simp
        refine hK.out _ _ (HV.out _ hc0.out) (fun hHeld0 => ?_)
        clear hK K
        try simp only [Act.put, List.setIfInBounds_toArray, List.set_cons_zero, List.set_cons_succ]
        refine wpAnyH_ready (rs := [15]) (by kernel_rfl) (by simp) (AllReadyH.cons rfl (fun K hK => ?_) AllReadyH.nil)
        go_simp
        go_wp2_with (go_at_call 10; refine (HU.out _ hb0.out _ _).mono ?_; rintro e w9 ⟨v9, opn9, sl9, ys9, rfl, hlo9, hno9, hry9, hcs9, hey9, hb9⟩)
        have hc3 := Lib.hid (bl_trans' hc0.out hb9)
        obtain ⟨qa, qn, qc, rfl⟩ := row_slice hlo9
        obtain ⟨ua, un, uc, rfl⟩ := row_slice hry9
        have hbx9 := (HT.out.below (bl_trans' hb0.out hb9)).bx
        have z0 := hbx9.free 0
        have z1 := hbx9.free 1
        have z2 := hbx9.cell 0
        have z3 := hbx9.cell 1
        refine hK.out _ _ (HV.out _ hc3.out) (fun hHeld15 => ?_)
        clear hK K
        try simp only [Act.put, List.setIfInBounds_toArray, List.set_cons_zero, List.set_cons_succ]
        refine wpAnyH_take (i := 16) (v := ?v16) rfl (by kernel_rfl) (by kernel_rfl) (by kernel_rfl) (fun _ _ _ h => h) (Or.inl ⟨by rfl, fun w' hSw => ?y16⟩) (by assumption) ?r16
        case y16 =>
          go_simp
          try with_reducible rfl
        try simp only [Act.put, List.setIfInBounds_toArray, List.set_cons_zero, List.set_cons_succ]
        refine wpAnyH_take (i := 17) (v := ?v17) rfl (by kernel_rfl) (by kernel_rfl) (by kernel_rfl) (fun _ _ _ h => h) (Or.inl ⟨by rfl, fun w' hSw => ?y17⟩) (by assumption) ?r17
        case y17 =>
          go_simp
          try with_reducible rfl
        try simp only [Act.put, List.setIfInBounds_toArray, List.set_cons_zero, List.set_cons_succ]
        refine wpAnyH_take (i := 18) (v := ?v18) rfl (by kernel_rfl) (by kernel_rfl) (by kernel_rfl) (fun _ _ _ h => h) (Or.inl ⟨by rfl, fun w' hSw => ?y18⟩) (by assumption) ?r18
        case y18 =>
          go_simp
          try with_reducible rfl
        try simp only [Act.put, List.setIfInBounds_toArray, List.set_cons_zero, List.set_cons_succ]
        refine wpAnyH_ready (rs := [19]) (by kernel_rfl) (by simp) (AllReadyH.cons rfl (fun K hK => ?_) AllReadyH.nil)
        go_simp
        refine hK.out _ _ (HV.out _ ((hc3.out.setCell (p := ⟨A, 0, none⟩) hAn _).setCell (p := ⟨A, 1, none⟩) hAn _)) (fun hHeld19 => ?_)
        clear hK K
        try simp only [Act.put, List.setIfInBounds_toArray, List.set_cons_zero, List.set_cons_succ]
        refine wpAnyH_ready (rs := [20]) (by kernel_rfl) (by simp) (AllReadyH.cons rfl (fun K hK => ?_) AllReadyH.nil)
        go_simp
        refine hK.out _ _ (HV.out _ ((hc3.out.setCell (p := ⟨A, 0, none⟩) hAn _).setCell (p := ⟨A, 1, none⟩) hAn _)) (fun hHeld20 => ?_)
        clear hK K
        try simp only [Act.put, List.setIfInBounds_toArray, List.set_cons_zero, List.set_cons_succ]
        refine wpAnyH_done (by kernel_rfl) ?_ _
        have hI9 := (HT.out.below (bl_trans' hb0.out hb9)).set (s' := s') hlo9 hno9
        have hc9 : ChP (fun k => k = A) w9 ((w9.setCell ⟨A, 0, none⟩ (.slice qa qn qc)).setCell ⟨A, 1, none⟩ (.int .i64 s')) := ((ChP.refl (fun k => k = A) w9).set A 0 _ rfl).set A 1 _ rfl
        have hry10 := row_ch hry9 hc9 (fun g hg e => row_ne hry9 hbx9 (by decide) hg e)
        have hey10 : ∀ b ∈ ys9, ElB b ((w9.setCell ⟨A, 0, none⟩ (.slice qa qn qc)).setCell ⟨A, 1, none⟩ (.int .i64 s')) := fun b hb => row_ch (hey9 b hb) hc9 (fun g hg e => row_ne (hey9 b hb) hbx9 (by decide) hg e)
        obtain ⟨hcv9, hks9, hem9, hyl9⟩ : CovS ((xs ++ ys ++ ys9).map (·.p)) opn9 (ls.take (i + 1)) ∧ OkS opn9 ∧ (emp = true → opn9 = []) ∧ ys9.length ≤ 1 := by
          rcases hcs9 with ⟨rfl, rfl, -⟩ | ⟨rfl, hfl⟩
          · rw [List.append_nil]
            exact ⟨HS.out.2.2.2.1, HS.out.2.2.2.2.1, HS.out.2.2.2.2.2.1, by simp⟩
          · refine ⟨?_, ⟨by simp, fun y hy => absurd hy (by simp)⟩, fun _ => rfl, ?_⟩
            · rw [List.map_append, hfl]
              exact HS.out.2.2.2.1.flush
            · have h1 := congrArg List.length hfl
              rw [List.length_map] at h1
              rw [h1]
              unfold flB
              split <;> simp
        have hln9 : (xs ++ ys ++ ys9).length ≤ 3 * (i + 1) := by rw [List.length_append]; have := HS.out.2.2.2.2.2.2; omega
        have hxy : (xs ++ ys).length ≤ 3 * i + 2 := HS.out.2.2.2.2.2.2
        have HW := Lib.hid (And.intro hI9 (And.intro hry10 (And.intro hey10 (And.intro hcv9 (And.intro hks9 (And.intro hem9 hln9))))))
        clear hI9 hc9 hry10 hey10 hcv9 hks9 hem9 hln9 hlo9 hno9 hry9 hcs9 hey9 hb9 hbx9 y0 y1 hHeld hHeld0 hHeld15 hHeld19 hHeld20
        go_wp2_with (at_builtin; refine wpList_append_bks rfl (.tmp 68) (.tmp 69) rfl w.heap.size _ (xs ++ ys) rfl HW.out.1.row _ _ ys9 rfl HW.out.2.1 HW.out.2.2.1 ?c2 HW.out.1.hn ?_)
        case c2 => omega
        intro ov9 w11 hr11 hg11
        have hI11 := HW.out.1.app (by simpa [Nat.add_assoc] using hr11) hg11 HW.out.2.2.1
        obtain ⟨oa9, on9, oc9, rfl⟩ := row_slice hI11.row
        have HY := Lib.hid hI11
        clear hr11 hg11 hI11
        go_wp2_with fail
        go_roundw
        case rel => exact ⟨i + 1, xs ++ ys ++ ys9, .slice qa qn qc, s', opn9, rfl, by omega, HY.out, HW.out.2.2.2.2.1, HW.out.2.2.2.2.2.1, HW.out.2.2.2.1, HW.out.2.2.2.2.2.2⟩
        case measure => simp [intOf]; omega
      · have d3 : decide ((i : Int) < (lt.length : Int)) = false := by rw [decide_eq_false_iff_not]; omega
        have d4 : decide (i < lt.length) = false := decide_eq_false hti
        go_wp2_with fail
        go_roundw
        case rel => exact ⟨i + 1, xs ++ ys, .slice pa pn pc, s', opn', rfl, by omega, HT.out, HS.out.2.2.2.2.1, HS.out.2.2.2.2.2.1, HS.out.2.2.2.1, by have := HS.out.2.2.2.2.2.2; omega⟩
        case measure => simp [intOf]; omega
    · obtain rfl : i = ls.length := by omega
      have d1 : decide ((ls.length : Int) < (ls.length : Int)) = false := by simp
      have a0 := hI.bx.cell 0
      have a1 := hI.bx.cell 1
      have hfl := flush_any (s := s) hI.ln hI.nil hks
      rw [List.take_length] at hcv
      have HR := Lib.hid (And.intro hI (And.intro hfl (And.intro hcv hxl)))
      have hnw := hI.hn
      clear hI hfl hks hem hcv hxl
      go_wp2_with fail
      refine HR.out.2.1.mono ?_
      rintro e w6 ⟨sl, ys, rfl, hry, hyp, hey, hb6⟩
      obtain ⟨sa, sn, sc, rfl⟩ := row_slice hry
      have hb7 := below_new w6 (.cells #[.slice none 0 0, .int .i64 s] 35)
      have hI6 := (HR.out.1.below hb6).below hb7
      have hcv' : CovS ((xs ++ ys).map (·.p)) [] ls := by rw [List.map_append, hyp]; exact HR.out.2.2.1.flush
      have hyl : ys.length ≤ 1 := by
        have h1 := congrArg List.length hyp
        rw [List.length_map] at h1
        rw [h1]
        unfold flB
        split <;> simp
      have hxl := HR.out.2.2.2
      have HS := Lib.hid (And.intro hI6 (And.intro (row_below hry hb7) (And.intro (fun b hb => LnsAt.below (hey b hb) hb7) hcv')))
      clear hI6 hry hyp hey hb6 hcv' a0 a1 HR hb7
      go_wp2_with (at_builtin; refine wpList_append_bks rfl (.tmp 77) (.tmp 78) rfl w.heap.size _ xs rfl HS.out.1.row _ _ ys rfl HS.out.2.1 HS.out.2.2.1 ?c3 HS.out.1.hn ?_)
      case c3 => omega
      intro ov9 wx hr11 hg11
      have hI11 := HS.out.1.app (by rw [List.length_append]; exact hr11) hg11 HS.out.2.2.1
      have hzl : (xs ++ ys).length ≤ 100 := by rw [List.length_append]; omega
      have hcz := HS.out.2.2.2
      obtain ⟨zs, hzs⟩ : ∃ zs, xs ++ ys = zs := ⟨_, rfl⟩
      rw [hzs] at hI11 hzl hcz
      obtain ⟨ga, gc, rfl, hgc, hgcell⟩ := bks_form hI11.row
      obtain ⟨fa', fc', hfe, hfc', hfcell⟩ := frs_form hI11.fr
      obtain ⟨rfl, rfl⟩ : fa = fa' ∧ fc = fc' := by injection hfe with e1 _ e3; exact ⟨e1, e3⟩
      have HY := Lib.hid (And.intro hI11.el (And.intro hI11.bl (And.intro hcz (And.intro hgcell (And.intro hfcell (And.intro hI11.hn HI.out.2.2))))))
      clear hr11 hg11 hI11 HS hcz hgcell hfcell hzs hfe hfc' HI
      go_wp2_with fail
      go_loopw [14, 82] (fun kv iv wr => ∃ j : Nat, iv = .int .i64 (j : Int) ∧ j ≤ zs.length ∧ kv = .int .i64 (cnt (zs.map (·.p)) j : Int) ∧ Below wx.heap.size wx wr) (fun _ iv _ => zs.length - (intOf iv).toNat)
      case atStart => exact ⟨0, rfl, Nat.zero_le _, rfl, Below.refl _ _⟩
      case round =>
        obtain ⟨j, rfl, hj, rfl, hbw⟩ := hrel
        have hwn := hbw.size
        by_cases hjl : j < zs.length
        · have d2 : decide ((j : Int) < (zs.length : Int)) = true := by rw [decide_eq_true_iff]; omega
          have d3 : decide (j < zs.length) = true := decide_eq_true hjl
          have e2 : IntKind.i64.wrap ((j : Int) + 1) = ((j + 1 : Nat) : Int) := by rw [IntWalk.i64_in _ (by omega)]; omega
          obtain ⟨⟨bsl, bfr, ben, brule, bls⟩, hz, hgd, hcs, hcg⟩ := cov_block HY.out.2.2.1 hjl
          obtain ⟨g, hge, hgl, hcell⟩ := HY.out.2.2.2.1 j hjl
          have hel := HY.out.1 zs[j] (List.getElem_mem hjl)
          rw [hz] at hcell hel
          dsimp only at hcg hcs
          obtain ⟨hne, hfr, hen, hru⟩ := hgd
          dsimp only at hne hfr hen hru
          obtain ⟨lg, lc', hsl, hlc, hlcell⟩ := lns_form hel hne
          dsimp only at hsl hlc hlcell
          subst hsl
          obtain rfl := hge
          have hn0 : 0 < bls.length := List.length_pos_iff.2 hne
          obtain ⟨l0, hl0⟩ : ∃ x, bls[0] = x := ⟨_, rfl⟩
          have hfr0 : bfr = l0.off := by rw [hfr, headO_at bls hn0, hl0]
          clear hfr
          subst hfr0
          have hcw : ∀ (c : Nat) (o : Nat) (v : Value), wx.cell? ⟨c, o, none⟩ = some v → wr.cell? ⟨c, o, none⟩ = some v := fun c o v hc => by rw [← hc]; unfold World.cell?; rw [hbw.block c (World.block_lt_of_cell? wx _ hc)]
          have q0 := hcw _ _ _ (hlcell 0 hn0).1
          rw [hl0, Nat.zero_mul] at q0
          have c0 : wr.cell? ⟨g, j * 4, none⟩ = some (.int .i64 l0.off) := hcw _ _ _ (hcell 0 (by omega))
          have c1 : wr.cell? ⟨g, j * 4 + 1, none⟩ = some (.int .i64 ben) := hcw _ _ _ (hcell 1 (by omega))
          have c2 : wr.cell? ⟨g, j * 4 + 2, none⟩ = some (.slice (some ⟨lg, 0, none⟩) bls.length lc') := hcw _ _ _ (hcell 2 (by omega))
          have c3 : wr.cell? ⟨g, j * 4 + 3, none⟩ = some (.string brule) := hcw _ _ _ (hcell 3 (by omega))
          have b0 : ((bls.length : Int) == 0) = false := by rw [beq_eq_false_iff_ne]; omega
          have b1 : (bls.length == 0) = false := by rw [beq_eq_false_iff_ne]; omega
          have hgl2 : g < wr.heap.size := by omega
          have hlgl : lg < wr.heap.size := World.block_lt_of_cell? wr _ q0
          obtain ⟨cj, hcj⟩ : ∃ y, cnt (zs.map (·.p)) j = y := ⟨_, rfl⟩
          rw [hcj] at hcs hcg ⊢
          have hle := cnt_le HY.out.2.2.1 (j + 1)
          have hbX := below_new wr (.cells #[.int .i64 l0.off, .int .i64 ben, .slice (some ⟨lg, 0, none⟩) bls.length lc', .string brule] 44)
          have HB := Lib.hid (And.intro hbw (And.intro hlcell (And.intro hcg (And.intro hcs (And.intro hen (And.intro hru (And.intro hle hbX)))))))
          clear hbw hlcell hcg hcs hen hru hle hel hcell hcw hl0 hz hne hcj hbX
          go_wp2_with fail
          obtain ⟨X, hX⟩ : ∃ X, wr.heap.size = X := ⟨_, rfl⟩
          obtain ⟨W16, hW16⟩ : ∃ y, wr.alloc (.cells #[.int .i64 l0.off, .int .i64 ben, .slice (some ⟨lg, 0, none⟩) bls.length lc', .string brule] 44) = y := ⟨_, rfl⟩
          have hXb : BkAt X 44 #[.int .i64 l0.off, .int .i64 ben, .slice (some ⟨lg, 0, none⟩) bls.length lc', .string brule] W16 := by rw [← hW16, ← hX]; exact BkAt.new _ _ _
          have hb16 := HB.out.2.2.2.2.2.2.2
          rw [hW16] at hb16
          have q1 : W16.cell? ⟨lg, 0, none⟩ = some (.int .i64 l0.off) := by rw [← q0]; unfold World.cell?; rw [hb16.block lg hlgl]
          obtain ⟨x0, x1, x2, x3⟩ : W16.cell? ⟨X, 0, none⟩ = some (.int .i64 l0.off) ∧ W16.cell? ⟨X, 1, none⟩ = some (.int .i64 ben) ∧ W16.cell? ⟨X, 2, none⟩ = some (.slice (some ⟨lg, 0, none⟩) bls.length lc') ∧ W16.cell? ⟨X, 3, none⟩ = some (.string brule) := ⟨hXb.cell 0, hXb.cell 1, hXb.cell 2, hXb.cell 3⟩
          rw [hW16]
          simp only [hX]
          have HE := Lib.hid (And.intro hXb (And.intro hb16 hX))
          clear c0 c1 c2 c3 q0 hW16 hXb hb16 hX
          go_quiet (fail)
          go_wp2_with fail
          go_loopw [14, 103] (fun kv iv wr => ∃ (i K : Nat), iv = .int .i64 (i : Int) ∧ i ≤ bls.length ∧ K = cj + i ∧ kv = .int .i64 (K : Int) ∧ Below W16.heap.size W16 wr) (fun _ iv _ => bls.length - (intOf iv).toNat)
          case atStart => exact ⟨0, cj, rfl, Nat.zero_le _, rfl, rfl, bl_dn (Below.refl _ _) _⟩
          case round =>
            obtain ⟨i, K, rfl, hib, hK, rfl, hbi⟩ := hrel
            by_cases hil2 : i < bls.length
            · have d4 : decide ((i : Int) < (bls.length : Int)) = true := by rw [decide_eq_true_iff]; omega
              have d5 : decide (i < bls.length) = true := decide_eq_true hil2
              obtain ⟨hk, hx1, hx2⟩ := HB.out.2.2.1 i hil2
              have hlc3 := HB.out.2.1 i hil2
              have hend := fun (h : i + 1 = bls.length) => lastEnd_at bls i hil2 h
              rw [← HB.out.2.2.2.2.1] at hend
              simp only [← hK] at hk hx1 hx2
              obtain ⟨fg, hfge, hfgl, hfc3⟩ := HY.out.2.2.2.2.1 K hk
              have hxok := HY.out.2.2.2.2.2.2 _ (List.getElem_mem hk)
              obtain ⟨⟨⟨off, len, txt⟩, dmg, tl⟩, hx⟩ : ∃ x, ls[K] = x := ⟨_, rfl⟩
              rw [hx] at hx1 hx2 hfc3 hxok
              dsimp only at hx1 hx2
              rw [← hx1] at hlc3 hend
              dsimp only at hlc3 hend
              obtain rfl := hfge
              have hcx : ∀ (c o : Nat) (v : Value), wx.cell? ⟨c, o, none⟩ = some v → wr.cell? ⟨c, o, none⟩ = some v := fun c o v hc => by
                have h0 := World.block_lt_of_cell? wx _ hc
                have h1 := HB.out.1.size
                have h2 := HE.out.2.1.size
                rw [← hc]
                unfold World.cell?
                rw [hbi.block c (by show c < _; have : c < wx.heap.size := h0; omega), HE.out.2.1.block c (by show c < _; have : c < wx.heap.size := h0; omega), HB.out.1.block c h0]
              obtain ⟨t0, t1, t2⟩ : wr.cell? ⟨lg, i * 3, none⟩ = some (.int .i64 off) ∧ wr.cell? ⟨lg, i * 3 + 1, none⟩ = some (.int .i64 len) ∧ wr.cell? ⟨lg, i * 3 + 2, none⟩ = some (.string txt) := ⟨hcx _ _ _ hlc3.1, hcx _ _ _ hlc3.2.1, hcx _ _ _ hlc3.2.2⟩
              obtain ⟨f0, f1, f2, f4⟩ : wr.cell? ⟨fg, K * 5, none⟩ = some (.int .i64 off) ∧ wr.cell? ⟨fg, K * 5 + 1, none⟩ = some (.int .i64 len) ∧ wr.cell? ⟨fg, K * 5 + 2, none⟩ = some (.string txt) ∧ wr.cell? ⟨fg, K * 5 + 4, none⟩ = some (.bool tl) := ⟨hcx _ _ _ (hfc3 0 (by omega)), hcx _ _ _ (hfc3 1 (by omega)), hcx _ _ _ (hfc3 2 (by omega)), hcx _ _ _ (hfc3 4 (by omega))⟩
              have hlgl2 : lg < wr.heap.size := World.block_lt_of_cell? wr _ t0
              have hfgl2 : fg < wr.heap.size := World.block_lt_of_cell? wr _ f0
              have hX2 := HE.out.1.below hbi
              have hXl := hX2.lt
              have hb18 := below_new wr (.cells #[.int .i64 off, .int .i64 len, .string txt] 46)
              obtain ⟨Y, hY⟩ : ∃ Y, wr.heap.size = Y := ⟨_, rfl⟩
              obtain ⟨W18, hW18⟩ : ∃ y, wr.alloc (.cells #[.int .i64 off, .int .i64 len, .string txt] 46) = y := ⟨_, rfl⟩
              have hYb : BkAt Y 46 #[.int .i64 off, .int .i64 len, .string txt] W18 := by rw [← hW18, ← hY]; exact BkAt.new _ _ _
              rw [hW18] at hb18
              obtain ⟨K1, hK1⟩ : ∃ K1, K + 1 = K1 := ⟨_, rfl⟩
              have g1 : decide ((ls.length : Int) ≤ (K : Int)) = false := by rw [decide_eq_false_iff_not]; omega
              have g2 : decide (ls.length ≤ K) = false := by rw [decide_eq_false_iff_not]; omega
              have g3 : decide ((K : Int) < (ls.length : Int)) = true := by rw [decide_eq_true_iff]; omega
              have g4 : decide (K < ls.length) = true := decide_eq_true hk
              have g5 : IntKind.i64.wrap ((K : Int) + 1) = (K1 : Int) := by rw [IntWalk.i64_in _ (by omega)]; omega
              have g6 : IntKind.i64.wrap (off + len) = off + len := IntWalk.i64_in _ (by have h1 : 0 ≤ off := hxok.1.1; have h2 : off ≤ _ := hxok.1.2.1; have h3 : 0 ≤ len := hxok.1.2.2.1; have h4 : len ≤ _ := hxok.1.2.2.2; omega)
              have g7 : IntKind.i64.wrap ((i : Int) + 1) = ((i + 1 : Nat) : Int) := by rw [IntWalk.i64_in _ (by omega)]; omega
              have HQ := Lib.hid (And.intro hX2 (And.intro hbi (And.intro hb18 (And.intro hW18 hend))))
              have HK := Lib.hid (And.intro hK hK1)
              clear hK hK1 hX2 hbi hb18 hend hcx hlc3 hfc3 hxok hx1 hx
              go_upto_region 27 with (fail)
              clear hY
              have hXq := HQ.out.1.below HQ.out.2.2.1
              obtain ⟨x0, x1, x2, x3⟩ : W18.cell? ⟨X, 0, none⟩ = some (.int .i64 l0.off) ∧ W18.cell? ⟨X, 1, none⟩ = some (.int .i64 ben) ∧ W18.cell? ⟨X, 2, none⟩ = some (.slice (some ⟨lg, 0, none⟩) bls.length lc') ∧ W18.cell? ⟨X, 3, none⟩ = some (.string brule) := ⟨hXq.cell 0, hXq.cell 1, hXq.cell 2, hXq.cell 3⟩
              obtain ⟨y0, y1, y2⟩ : W18.cell? ⟨Y, 0, none⟩ = some (.int .i64 off) ∧ W18.cell? ⟨Y, 1, none⟩ = some (.int .i64 len) ∧ W18.cell? ⟨Y, 2, none⟩ = some (.string txt) := ⟨hYb.cell 0, hYb.cell 1, hYb.cell 2⟩
              have hcy : ∀ (o : Nat) (v : Value), wr.cell? ⟨fg, o, none⟩ = some v → W18.cell? ⟨fg, o, none⟩ = some v := fun o v hc => by rw [← hc]; unfold World.cell?; rw [HQ.out.2.2.1.block fg hfgl2]
              have p0 := hcy _ _ f0
              have p1 := hcy _ _ f1
              have p2 := hcy _ _ f2
              have p4 := hcy _ _ f4
              clear hcy f0 f1 f2 f4 t0 t1 t2 hXq hYb hW18
              by_cases hbr : brule = ⟨#[]⟩
              · obtain rfl : tl = false := by rw [hx2, hbr]; simp
                clear hx2
                subst hbr
                go_quiet (fail)
                by_cases hl : K1 = ls.length
                · have h1 : ((K1 : Int) == (ls.length : Int)) = true := by rw [hl]; simp
                  have h2 : (K1 == ls.length) = true := by rw [hl]; simp
                  obtain rfl : ben = off + len := HQ.out.2.2.2.2 (by have := HB.out.2.2.2.1; have := HB.out.2.2.2.2.2.2.1; have := HK.out.1; have := HK.out.2; omega)
                  clear hl
                  go_wp2_with fail
                  go_roundw
                  case rel => exact ⟨i + 1, K1, rfl, by omega, by have := HK.out.1; have := HK.out.2; omega, rfl, bl_dn (bl_trans' HQ.out.2.1 HQ.out.2.2.1) _⟩
                  case measure => simp [intOf]; omega
                · have h1 : ((K1 : Int) == (ls.length : Int)) = false := by rw [beq_eq_false_iff_ne]; omega
                  have h2 : (K1 == ls.length) = false := by rw [beq_eq_false_iff_ne]; exact hl
                  go_wp2_with fail
                  go_roundw
                  case rel => exact ⟨i + 1, K1, rfl, by omega, by have := HK.out.1; have := HK.out.2; omega, rfl, bl_dn (bl_trans' HQ.out.2.1 HQ.out.2.2.1) _⟩
                  case measure => simp [intOf]; omega
              · obtain rfl : tl = true := by rw [hx2]; simp [hbr]
                clear hx2
                have k1 : bls.length = 1 := HB.out.2.2.2.2.2.1 hbr
                have k2 : brule.toList.isEmpty = false := by
                  rw [List.isEmpty_eq_false_iff, ByteArray.toList_eq]
                  intro h
                  exact hbr (ByteArray.ext (Array.toList_inj.mp h))
                have k3 : ((bls.length : Int) == 1) = true := by rw [k1]; rfl
                have k4 : (bls.length == 1) = true := by rw [k1]; rfl
                clear k1
                go_quiet (fail)
                by_cases hl : K1 = ls.length
                · have h1 : ((K1 : Int) == (ls.length : Int)) = true := by rw [hl]; simp
                  have h2 : (K1 == ls.length) = true := by rw [hl]; simp
                  obtain rfl : ben = off + len := HQ.out.2.2.2.2 (by have := HB.out.2.2.2.1; have := HB.out.2.2.2.2.2.2.1; have := HK.out.1; have := HK.out.2; omega)
                  clear hl
                  go_wp2_with fail
                  go_roundw
                  case rel => exact ⟨i + 1, K1, rfl, by omega, by have := HK.out.1; have := HK.out.2; omega, rfl, bl_dn (bl_trans' HQ.out.2.1 HQ.out.2.2.1) _⟩
                  case measure => simp [intOf]; omega
                · have h1 : ((K1 : Int) == (ls.length : Int)) = false := by rw [beq_eq_false_iff_ne]; omega
                  have h2 : (K1 == ls.length) = false := by rw [beq_eq_false_iff_ne]; exact hl
                  go_wp2_with fail
                  go_roundw
                  case rel => exact ⟨i + 1, K1, rfl, by omega, by have := HK.out.1; have := HK.out.2; omega, rfl, bl_dn (bl_trans' HQ.out.2.1 HQ.out.2.2.1) _⟩
                  case measure => simp [intOf]; omega
            · obtain rfl : i = bls.length := by omega
              have d4 : decide ((bls.length : Int) < (bls.length : Int)) = false := by simp
              have HK := Lib.hid (And.intro hK hbi)
              clear hK hbi
              go_wp2_with fail
              go_roundw
              case rel => exact ⟨j + 1, rfl, by omega, by rw [HB.out.2.2.2.1, ← HK.out.1], bl_trans' HB.out.1 (bl_trans' HE.out.2.1 HK.out.2)⟩
              case measure => simp [intOf]; omega
        · obtain rfl : j = zs.length := by omega
          have d4 : decide ((zs.length : Int) < (zs.length : Int)) = false := by simp
          have hcl := cnt_last HY.out.2.2.1
          have hend := HY.out.2.1.trans (hbw.mono HY.out.2.2.2.2.2.1)
          rw [hcl]
          have HZ := Lib.hid hend
          clear hend hbw
          go_wp2_with fail
          refine bodyPost_ret (v := .bool true) (by simp [results, Try.results3]) rfl ?_
          exact ⟨rfl, HZ.out⟩
end Go.Proofs.Ytfkgicakiapmaaa
