/- FilesystemCopies: the law. -/
import Derived.Test.YtfihnmfbgdjkpaaFuH
import Derived.Deep.CutBlock
namespace Go.Proofs.Ytfihnmfbgdjkpaa
open Go.RowKit

/-- Behind the loop: the copy is whole. -/
def CopE (w : World) (g : Nat) (l : List UInt8) (dV : Value) (wx : World) : Prop := ∃ nv fv ov, BkAt g 31 #[nv, fv, ov] wx ∧ CpAt l nv fv ov true 0 wx ∧ KB wx dV l ∧ Below w.heap.size w wx
structure CopR (w : World) (g N : Nat) (l : List UInt8) (dV : Value) (i lf : Nat) (nv fv ov : Value) (wx : World) : Prop where
  b : BkAt g 31 #[nv, fv, ov] wx
  c : CpAt l nv fv ov (lf == 0) lf wx
  le : lf ≤ l.length
  hi : i ≤ N + 1
  fin : N + 1 ≤ i → lf = 0
  k : KB wx dV l
  w : Below w.heap.size w wx
set_option maxRecDepth 100000 in
set_option linter.unusedSimpArgs false in
set_option maxHeartbeats 16000000 in
theorem law_copies (cv pv : Value) (lc lp : List UInt8) (q : UInt8) (w : World) (hc : ArgB w w.heap.size cv lc) (hp : ArgB w w.heap.size pv lp) (hlp : lp.length ≤ 4611686018427387904) :
    Calls Try.prog 3 #[cv, pv, .int .u8 (q.toNat : Int)] w fun e w' => e = .returned (.bool true) ∧ Below w.heap.size w w' := by
  have haw := awake7_any w
  have hpb := byS_arg hp
  have hq : (q.toNat : Int) < 256 := by have := q.toNat_lt; omega
  have H := Lib.hid (And.intro hc (And.intro haw (And.intro hp (And.intro hpb hq))))
  obtain ⟨ca, cc, rfl, -⟩ := (byS_arg hc).slice
  obtain ⟨pa, pc, rfl, -⟩ := hpb.slice
  clear hc haw hp hpb hq
  obtain ⟨z, hz⟩ : ∃ z, (q.toNat : Int) = z := ⟨_, rfl⟩
  rw [hz]
  have h0z : 0 ≤ z := by omega
  have hz2 : z < 256 := hz ▸ H.out.2.2.2.2
  have hwz : IntKind.wrap .i64 z = z := IntWalk.i64_in _ (by omega)
  have HZ0 := Lib.hid hz
  clear hz
  have kc := fun (w : World) (C : Array Value) (n c : Nat) => Lib.run_convert_bytes_const (P := Try.prog) w 22 5 C n c Try.underlying22 Try.underlying5
  go_enter Try.func3, Try.ntmps3
  go_wp2_with fail
  refine (H.out.2.1).mono ?_
  rintro e w1 ⟨rfl, hb1⟩
  have HA := Lib.hid hb1
  clear hb1
  go_wp2_with fail
  refine (new_any _ lc 100 w1 (H.out.1.below HA.out) (by omega)).mono ?_
  rintro e w2 ⟨rfl, hm, hb2⟩
  obtain ⟨C, hC⟩ : ∃ C, w1.heap.size = C := ⟨_, rfl⟩
  rw [hC] at hm
  have HC := Lib.hid (And.intro hm (And.intro hb2 hC))
  clear hm hb2
  simp only [hC]
  clear hC
  go_wp2_with fail
  refine (data_any C z 4 w2 HC.out.1 h0z (by omega) (by omega) (by omega)).mono ?_
  rintro e w4 ⟨⟨v, L, rfl, hbuf, ⟨l, rfl⟩, h15, hL⟩, hm4, hf4⟩
  rw [List.length_map] at h15 hL
  have hK := kb_buf hbuf (by omega)
  have h2 : Below w1.heap.size w1 w4 := by
    have h4 := HC.out.2.2
    have h5 := HC.out.2.1
    exact h5.trans ((hf4.toBelow (by have := HC.out.1.lt; omega)).mono (by omega))
  have hbw : Below w.heap.size w w4 := bl_trans' HA.out h2
  obtain ⟨dg, dc, cs0, fz0, hveq, hldc, -⟩ := id hK
  have HE := Lib.hid (And.intro hK (And.intro hbw (And.intro hL (And.intro h15 hldc))))
  subst hveq
  clear hK hbw h2 hm4 hf4 hbuf HC HA hL h15
  go_upto_region 4 with (fail)
  have hm : z.tmod 4 = z % 4 := Int.tmod_eq_emod_of_nonneg h0z
  have hm4 : (z % 4).toNat < 4 := by omega
  refine reg4r (B0 := w.heap.size) (dV := .slice (some ⟨dg, 0, none⟩) l.length dc) (l := l) (q := z) (m := (z % 4).toNat) (by kernel_rfl) rfl rfl rfl rfl (by rw [hm]; omega) hm4 w4 HE.out.2.1.size (by have := HE.out.2.2.2.1; omega) (by have := HE.out.2.2.1; omega) HE.out.1 (fun x g w5 nv fv ov eb e22 e24 hg hb5 hW hbk => ?_)
  clear hm hm4
  simp only [FC, chainA, dsL, Act.put, e22, e24]
  obtain ⟨nv', hnv⟩ : ∃ a, x 0 = a := ⟨_, rfl⟩
  have HX := Lib.hid (And.intro hg (And.intro hb5 (And.intro hW hbk)))
  clear hg hb5 hW hbk
  go_simp
  have hs3 := set3 (nv2 := nv) (fv2 := fv) (ov2 := ov) HX.out.2.2.2
  have hW5 := HX.out.2.2.1
  have hneb : eb ≠ g := fun e => by
    subst e
    obtain ⟨-, -, -, -, -, -, -, -, -, h5⟩ := hW5
    have h6 := HX.out.2.2.2
    unfold BkAt at h5 h6
    rw [h5] at h6
    injection h6 with q
    injection q with q1 q2
    exact absurd q2 (by decide)
  have hfacts : BkAt g 31 #[nv, fv, ov] (w5.setCells g 0 [nv, fv, ov]) ∧ CpAt l nv fv ov false l.length (w5.setCells g 0 [nv, fv, ov]) ∧ KB (w5.setCells g 0 [nv, fv, ov]) (.slice (some ⟨dg, 0, none⟩) l.length dc) l ∧ Below w.heap.size w (w5.setCells g 0 [nv, fv, ov]) ∧ BkAt eb 39 (errA (fun _ => 0) 3 3) (w5.setCells g 0 [nv, fv, ov]) := by
    obtain ⟨N3, F, dv, k, j, h1, h2, h3, h4, h5⟩ := hW5
    exact ⟨hs3.1, CpAt.keep ⟨N3, F, dv, k, j, h1, h2, h3⟩ hs3.2, h4.keep hs3.2, below3 (HE.out.2.1.trans HX.out.2.1) HX.out.1, ((h5.other 0 nv hneb).other 1 fv hneb).other 2 ov hneb⟩
  obtain ⟨W, hW⟩ : ∃ W, w5.setCells g 0 [nv, fv, ov] = W := ⟨_, rfl⟩
  rw [hW] at hfacts ⊢
  obtain ⟨⟨na, nm, nc, rfl⟩, ⟨fa, fm, fc, rfl⟩, ⟨oa, om, oc, rfl⟩⟩ := hfacts.2.1.form
  have hgw : w.heap.size ≤ g := HX.out.1
  have HY := Lib.hid (And.intro hfacts hgw)
  obtain ⟨e0, e1, e2⟩ : W.cell? ⟨eb, 0, none⟩ = some (.int .i64 0) ∧ W.cell? ⟨eb, 1, none⟩ = some (.int .i64 0) ∧ W.cell? ⟨eb, 2, none⟩ = some (.int .i64 0) := ⟨hfacts.2.2.2.2.cell 0, hfacts.2.2.2.2.cell 1, hfacts.2.2.2.2.cell 2⟩
  obtain ⟨c0, c1, c2⟩ : W.cell? ⟨g, 0, none⟩ = some (.slice na nm nc) ∧ W.cell? ⟨g, 1, none⟩ = some (.slice fa fm fc) ∧ W.cell? ⟨g, 2, none⟩ = some (.slice oa om oc) := ⟨hfacts.1.cell 0, hfacts.1.cell 1, hfacts.1.cell 2⟩
  clear hs3 hW5 hneb hfacts hW HX hgw e22 e24
  go_wp2_with fail
  refine (look_C HY.out.1.2.1).mono ?_
  rintro e w6 ⟨rfl, hb6⟩
  have HL := Lib.hid hb6
  clear hb6 e0 e1 e2 c0 c1 c2
  go_upto_block 0 with (fail)
  have hwN : IntKind.i64.wrap ((lp.length : Int) + 1) = (lp.length : Int) + 1 := IntWalk.i64_in _ (by omega)
  have hwL : IntKind.i64.wrap ((l.length : Int) + 1) = (l.length : Int) + 1 := IntWalk.i64_in _ (by have := HE.out.2.2.1; omega)
  have hL6 := HE.out.2.2.1
  have hR0 : CopR w g lp.length l (.slice (some ⟨dg, 0, none⟩) l.length dc) 0 l.length (.slice na nm nc) (.slice fa fm fc) (.slice oa om oc) w6 := by
    have h0 : (l.length == 0) = false := by have := HE.out.2.2.2.1; simp; intro e; simp [e] at this
    refine ⟨HY.out.1.1.below HL.out, ?_, Nat.le_refl _, Nat.zero_le _, fun h => by omega, HY.out.1.2.2.1.below HL.out, bl_trans' HY.out.1.2.2.2.1 HL.out⟩
    rw [h0]; exact HY.out.1.2.1.below HL.out
  have HR0 := Lib.hid hR0
  have HP := Lib.hid (And.intro H.out.2.2.2.1 HY.out.2)
  obtain ⟨N, hN⟩ : ∃ N, lp.length = N := ⟨_, rfl⟩
  rw [hN] at HR0
  simp only [hN] at hwN ⊢
  have HNN := Lib.hid (And.intro hN hlp)
  clear hR0 hlp hN
  go_cut [] (fun wx => CopE w g l (.slice (some ⟨dg, 0, none⟩) l.length dc) wx)
  case first =>
    go_wp2_with fail
    go_loopw [12] (fun iv wr => ∃ (i lf : Nat) (nv fv ov : Value), iv = .int .i64 i ∧ CopR w g N l (.slice (some ⟨dg, 0, none⟩) l.length dc) i lf nv fv ov wr) (fun iv _ => N + 1 - (intOf iv).toNat)
    case atStart => exact ⟨0, l.length, _, _, _, rfl, HR0.out⟩
    case round =>
      obtain ⟨i, lf, nv, fv, ov, rfl, hR⟩ := hrel
      obtain ⟨⟨na, nm, nc, rfl⟩, ⟨fa, fm, fc, rfl⟩, ⟨oa, om, oc, rfl⟩⟩ := hR.c.form
      by_cases hlt : i < N + 1
      · have d1 : decide ((i : Int) < (N : Int) + 1) = true := by rw [decide_eq_true_iff]; omega
        have HR := Lib.hid hR
        clear hR
        go_upto_if 88 with (fail)
        go_cut [13] (fun nv wx => wr = wx ∧ ∃ n : Int, nv = .int .i64 n ∧ 1 ≤ n ∧ n ≤ 1000000 ∧ (N ≤ i → n = (l.length : Int) + 1))
        case first =>
          by_cases hi : i < N
          · have d2 : decide ((i : Int) < (N : Int)) = true := by rw [decide_eq_true_iff]; omega
            obtain ⟨pg, po, b, rfl, hcell, hb256⟩ : ∃ pg po b : Nat, pa = some ⟨pg, po, none⟩ ∧ wr.cell? ⟨pg, po + i, none⟩ = some (.int .u8 (b : Int)) ∧ b < 256 := by
              obtain ⟨a2, c2, e2, -, hx⟩ := HP.out.1.below (HR.out.w)
              injection e2 with e3 e4 e5
              subst e3
              obtain ⟨g1, o1, h1, h2, h3⟩ := hx i (by have := HNN.out.1; omega)
              exact ⟨g1, o1, _, h1, h3, by have := (lp[i]'(by have := HNN.out.1; omega)).toNat_lt; omega⟩
            have i0 : (0 : Int) ≤ (i : Int) := by omega
            have i1 : (i : Int) < (N : Int) := by omega
            have hwb : IntKind.i64.wrap (b : Int) = (b : Int) := IntWalk.i64_in _ (by omega)
            have htm : (b : Int).tmod 40 = (b : Int) % 40 := Int.tmod_eq_emod_of_nonneg (by omega)
            have hwm : IntKind.i64.wrap ((b : Int) % 40) = (b : Int) % 40 := IntWalk.i64_in _ (by omega)
            have hwn : IntKind.i64.wrap (1 + (b : Int) % 40) = 1 + (b : Int) % 40 := IntWalk.i64_in _ (by omega)
            go_wp2_with fail
            go_meet
            exact ⟨rfl, _, rfl, by omega, by omega, fun h => by omega⟩
          · have d2 : decide ((i : Int) < (N : Int)) = false := by rw [decide_eq_false_iff_not]; omega
            go_wp2_with fail
            go_meet
            exact ⟨rfl, _, rfl, by omega, by have := HE.out.2.2.1; omega, fun h => rfl⟩
        case rest =>
          obtain ⟨hwe, n, rfl, hn1, hn2, hn3⟩ := hcut
          subst hwe
          obtain ⟨c0, c1, c2⟩ : wr.cell? ⟨g, 0, none⟩ = some (.slice na nm nc) ∧ wr.cell? ⟨g, 1, none⟩ = some (.slice fa fm fc) ∧ wr.cell? ⟨g, 2, none⟩ = some (.slice oa om oc) := ⟨HR.out.b.cell 0, HR.out.b.cell 1, HR.out.b.cell 2⟩
          by_cases hz : lf = 0
          · subst hz
            have HM := Lib.hid (moreE_C n (show CpAt l _ _ _ true 0 wr from HR.out.c))
            clear hn1 hn2 hn3
            go_wp2_with fail
            refine HM.out.mono ?_
            rintro e w7 ⟨rfl, hb7⟩
            have hb8 := bl_trans' hb7 (below_new w7 (.cells #[.slice na nm nc, .slice fa fm fc, .slice oa om oc] 31))
            have HF := Lib.hid (show CopE w g l (.slice (some ⟨dg, 0, none⟩) l.length dc) (w7.alloc (.cells #[.slice na nm nc, .slice fa fm fc, .slice oa om oc] 31)) from ⟨_, _, _, HR.out.b.below hb8, HR.out.c.below hb8, HR.out.k.below hb8, bl_trans' HR.out.w hb8⟩)
            clear hb7 hb8 c0 c1 c2
            go_wp2_with fail
            go_meet
            exact HF.out
          · obtain ⟨z2, hz2⟩ : ∃ z2 : Nat, lf - n.toNat = z2 := ⟨_, rfl⟩
            have hzz : (z2 : Int) = max ((lf : Int) - n) 0 := by omega
            have hwf : (lf == 0) = false := by simpa using hz
            have hlf60 : lf ≤ l.length := HR.out.le
            have hc0 := HR.out.c
            rw [hwf] at hc0
            have HM := Lib.hid (more_C n z2 hc0 hn1 hn2 (by have := HE.out.2.2.1; omega) hzz)
            have HZ2 := Lib.hid (show z2 ≤ l.length ∧ (N + 1 ≤ i + 1 → z2 = 0) from ⟨by omega, fun h => by have := hn3 (by omega); omega⟩)
            clear hn1 hn2 hn3 hzz hz2 hwf hlf60 hc0
            go_wp2_with fail
            refine HM.out.mono ?_
            rintro e w7 ⟨nv', fv', rfl, hc7, hb7⟩
            obtain ⟨⟨xa, xm, xc, rfl⟩, ⟨ya, ym, yc, rfl⟩, -⟩ := hc7.form
            have H7 := Lib.hid (And.intro hc7 hb7)
            clear hc7 hb7 c0 c1 c2
            go_wp2_with fail
            have hbn8 := below_new w7 (.cells #[.slice xa xm xc, .slice ya ym yc, .slice oa om oc] 31)
            have hk8 := BkAt.new 31 #[.slice xa xm xc, .slice ya ym yc, .slice oa om oc] w7
            have hb8 := bl_trans' H7.out.2 hbn8
            have hc8 := H7.out.1.below hbn8
            obtain ⟨b8, hb8e⟩ : ∃ b, w7.heap.size = b := ⟨_, rfl⟩
            obtain ⟨w8, hw8⟩ : ∃ x, (w7.alloc (.cells #[.slice xa xm xc, .slice ya ym yc, .slice oa om oc] 31)) = x := ⟨_, rfl⟩
            rw [hw8] at hk8 hb8 hc8 ⊢
            rw [hb8e] at hk8
            simp only [hb8e]
            have H8 := Lib.hid (And.intro hk8 (And.intro hb8 hc8))
            clear hbn8 hk8 hb8 hc8 hw8 hb8e
            refine (read_C H8.out.2.2 rfl (by have := HE.out.2.2.2.1; omega) HZ2.out.1 (by have := HE.out.2.2.1; omega)).mono ?_
            rintro e w9 ⟨ra, rc, lf', rfl, hby, hb9⟩
            obtain ⟨p, hp⟩ : ∃ p, l.length - z2 = p := ⟨_, rfl⟩
            obtain ⟨bz, hbz⟩ : ∃ bz, (z2 == 0) = bz := ⟨_, rfl⟩
            simp only [hp, hbz] at hby ⊢
            have hbn := below_new w9 (.cells #[.int .i64 2, .slice ra p rc, .bool true, .bool bz, .int .i64 lf'] 45)
            have hk10 := BkAt.new 45 #[.int .i64 2, .slice ra p rc, .bool true, .bool bz, .int .i64 lf'] w9
            have hb10 := bl_trans' hb9 hbn
            have hby10 := hby.below hbn
            have H9 := Lib.hid (And.intro hk10 (And.intro hb10 hby10))
            clear hby hb9 hbn hk10 hb10 hby10
            go_upto_region 17 with (fail)
            have hpl : p ≤ l.length := by omega
            have hpe : (p = l.length ∧ bz = true ∧ l.length ≠ 0) ∨ (p ≠ l.length ∧ bz = false) := by
              have h15 := HE.out.2.2.2.1
              have hz2l := HZ2.out.1
              cases z2 with
              | zero => exact .inl ⟨by omega, hbz.symm.trans rfl |>.trans rfl, by omega⟩
              | succ y => exact .inr ⟨by omega, hbz.symm⟩
            have d6 : decide ((l.length : Int) < (p : Int)) = false := by rw [decide_eq_false_iff_not]; omega
            have d7 : decide ((p : Int) = (l.length : Int)) = bz := by
              rcases hpe with ⟨h1, h2, -⟩ | ⟨h1, h2⟩
              · rw [h2, decide_eq_true_iff]; omega
              · rw [h2, decide_eq_false_iff_not]; omega
            have d8 : ((p : Int) == (l.length : Int)) = bz := by
              rcases hpe with ⟨h1, h2, -⟩ | ⟨h1, h2⟩
              · rw [h2, beq_iff_eq]; omega
              · rw [h2, beq_eq_false_iff_ne]; omega
            have d6' : decide (l.length < p) = false := by rw [decide_eq_false_iff_not]; omega
            have d7' : decide (p = l.length) = bz := by
              rcases hpe with ⟨h1, h2, -⟩ | ⟨h1, h2⟩
              · rw [h2, decide_eq_true_iff]; exact h1
              · rw [h2, decide_eq_false_iff_not]; exact h1
            have p0 : (0 : Int) ≤ (p : Int) := by omega
            have pdc : (p : Int) ≤ (dc : Int) := by have := HE.out.2.2.2.2; omega
            have hlen : p = (l.take p).length := by rw [List.length_take]; omega
            obtain ⟨b10, hb10e⟩ : ∃ b, w9.heap.size = b := ⟨_, rfl⟩
            obtain ⟨w10, hw10⟩ : ∃ x, (w9.alloc (.cells #[.int .i64 2, .slice ra p rc, .bool true, .bool bz, .int .i64 lf'] 45)) = x := ⟨_, rfl⟩
            have H9b := H9.out
            rw [hw10, hb10e] at H9b
            simp only [hw10, hb10e]
            have H10 := Lib.hid H9b
            have hbg := bl_trans' H8.out.2.1 H10.out.2.1
            have hbR := HR.out.b.below hbg
            have hb8k := H8.out.1.below H10.out.2.1
            have hkk := HR.out.k.below hbg
            have cv := fun m => conv_by (W := w10.drewN m) H10.out.2.2
            have cv2 := fun m => conv_by (W := w10.drewN m) (BySl.take (KB.by' hkk) p hpl dc (by have := HE.out.2.2.2.2; omega))
            have f1 := H10.out.1.cell 1
            have f3 := H10.out.1.cell 3
            simp only [List.getElem?_toArray, List.getElem?_cons_zero, List.getElem?_cons_succ] at f1 f3
            obtain ⟨g0, g1, g2⟩ : w10.cell? ⟨b8, 0, none⟩ = some (.slice xa xm xc) ∧ w10.cell? ⟨b8, 1, none⟩ = some (.slice ya ym yc) ∧ w10.cell? ⟨b8, 2, none⟩ = some (.slice oa om oc) := ⟨hb8k.cell 0, hb8k.cell 1, hb8k.cell 2⟩
            obtain ⟨d0, d1', d2⟩ : w10.cell? ⟨g, 0, none⟩ = some (.slice na nm nc) ∧ w10.cell? ⟨g, 1, none⟩ = some (.slice fa fm fc) ∧ w10.cell? ⟨g, 2, none⟩ = some (.slice oa om oc) := ⟨hbR.cell 0, hbR.cell 1, hbR.cell 2⟩
            obtain ⟨e0, e1, e2⟩ : w10.frozen? ⟨g, 0, none⟩ = false ∧ w10.frozen? ⟨g, 1, none⟩ = false ∧ w10.frozen? ⟨g, 2, none⟩ = false := ⟨hbR.free 0, hbR.free 1, hbR.free 2⟩
            have hi1 : i + 1 ≤ N + 1 := by omega
            have hwi : IntKind.i64.wrap ((i : Int) + 1) = (i : Int) + 1 := IntWalk.i64_in _ (by have := HNN.out.2; have := HNN.out.1; omega)
            have HFin := Lib.hid (show ∀ m, CopR w g N l (.slice (some ⟨dg, 0, none⟩) l.length dc) (i + 1) z2 (.slice xa xm xc) (.slice ya ym yc) (.slice oa om oc) ((((w10.drewN m).setCell ⟨g, 0, none⟩ (.slice xa xm xc)).setCell ⟨g, 1, none⟩ (.slice ya ym yc)).setCell ⟨g, 2, none⟩ (.slice oa om oc)) from fun m => by
              have hbm : Below w10.heap.size w10 (w10.drewN m) := ⟨rfl, rfl, rfl, Nat.le_refl _, fun _ _ => rfl⟩
              have hs3 := set3 (nv2 := .slice xa xm xc) (fv2 := .slice ya ym yc) (ov2 := .slice oa om oc) (hbR.below hbm)
              exact ⟨hs3.1, CpAt.keep ((H8.out.2.2.below H10.out.2.1).below hbm) hs3.2, HZ2.out.1, hi1, HZ2.out.2, (hkk.below hbm).keep hs3.2, below3 (bl_trans' (bl_trans' HR.out.w hbg) hbm) HP.out.2⟩)
            clear hpe hbg hbR hb8k hkk H9b hw10 hb10e hpl hlen
            go_wp2
            go_quiet (fail)
            go_wp2
            go_roundw
            case rel => exact ⟨i + 1, z2, _, _, _, by go_num, HFin.out _⟩
            case measure => simp [intOf]; omega
      · have d1 : decide ((i : Int) < (N : Int) + 1) = false := by rw [decide_eq_false_iff_not]; omega
        have hlf : lf = 0 := hR.fin (by omega)
        subst hlf
        have HF := Lib.hid (show CopE w g l (.slice (some ⟨dg, 0, none⟩) l.length dc) wr from ⟨_, _, _, hR.b, hR.c, hR.k, hR.w⟩)
        clear hR
        go_wp2_with fail
        go_meet
        exact HF.out
  case rest =>
    obtain ⟨nv, fv, ov, hb, hc, hk, hw⟩ := hcut
    obtain ⟨⟨na, nm, nc, rfl⟩, ⟨fa, fm, fc, rfl⟩, ⟨oa, om, oc, rfl⟩⟩ := hc.form
    obtain ⟨c0, c1, c2⟩ : wc.cell? ⟨g, 0, none⟩ = some (.slice na nm nc) ∧ wc.cell? ⟨g, 1, none⟩ = some (.slice fa fm fc) ∧ wc.cell? ⟨g, 2, none⟩ = some (.slice oa om oc) := ⟨hb.cell 0, hb.cell 1, hb.cell 2⟩
    have HR := Lib.hid (And.intro hc (And.intro hk hw))
    clear hb hc hk hw
    go_wp2_with fail
    refine (read_C HR.out.1 rfl (by have := HE.out.2.2.2.1; omega) (Nat.zero_le _) (by have := HE.out.2.2.1; omega)).mono ?_
    rintro e w9 ⟨ra, rc, lf', rfl, hby, hb9⟩
    simp only [Nat.sub_zero, List.take_length] at hby ⊢
    have hb10 := bl_trans' hb9 (below_new w9 (.cells #[.int .i64 2, .slice ra l.length rc, .bool true, .bool true, .int .i64 lf'] 45))
    have cv := conv_by (hby.below (below_new w9 (.cells #[.int .i64 2, .slice ra l.length rc, .bool true, .bool true, .int .i64 lf'] 45)))
    have cv2 := conv_by (KB.by' (HR.out.2.1.below hb10))
    have HZ := Lib.hid (bl_trans' HR.out.2.2 hb10)
    clear hby hb9 hb10 c0 c1 c2
    go_wp2
    go_ret
    exact ⟨rfl, HZ.out⟩
end Go.Proofs.Ytfihnmfbgdjkpaa
