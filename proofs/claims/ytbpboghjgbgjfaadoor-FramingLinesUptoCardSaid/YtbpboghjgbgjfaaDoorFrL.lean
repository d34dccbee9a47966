/- FramingLines: the law. -/
import Derived.Test.YtbpboghjgbgjfaaDoorFrK
import Derived.Test.YtbpboghjgbgjfaaDoorArgs
namespace Go.Proofs.YtbpboghjgbgjfaaDoor
open Go.RowKit

set_option maxRecDepth 100000 in
set_option linter.unusedSimpArgs false in
set_option maxHeartbeats 16000000 in
theorem law_frames (bv cv : Value) (lb lc : List UInt8) (off lim : Int) (w : World) (hT : Tabs w) (hb : ArgB w w.heap.size bv lb) (hc : ArgB w w.heap.size cv lc) (hl : lb.length ≤ 1048576) :
    Calls Tryd.prog 3 #[bv, .int .i64 off, .int .i64 lim, cv] w fun e w' => e = .returned (.bool true) ∧ Below w.heap.size w w' := by
  have haw := awake9_any w hT
  have H := Lib.hid (And.intro hb (And.intro hc (And.intro haw hT)))
  have hbs := byS_arg hb
  obtain ⟨ba, bc, rfl, -⟩ := hbs
  clear hb hc haw hT
  go_enter Tryd.func3, Tryd.ntmps3
  go_wp2_with fail
  refine (H.out.2.2.1).mono ?_
  rintro e w1 ⟨rfl, hb1⟩
  have hB := (byS_arg H.out.1).below hb1
  have hC := H.out.2.1.below hb1
  have HA := Lib.hid (And.intro hB (And.intro hC hb1))
  clear hB hC hb1
  go_wp2_with fail
  refine (new_any _ lc 100 w1 HA.out.2.1 (by omega)).mono ?_
  rintro e w2 ⟨rfl, hm, hb2⟩
  obtain ⟨C, hC⟩ : ∃ C, w1.heap.size = C := ⟨_, rfl⟩
  rw [hC] at hm
  have HC := Lib.hid (And.intro hm (And.intro hb2 hC))
  clear hm hb2
  simp only [hC]
  clear hC
  go_wp2_with fail
  refine (next_any C 256 w2 HC.out.1 (by omega) (by omega)).mono ?_
  rintro e w3 ⟨⟨z, rfl, hz0, hz1⟩, hm3, hf3⟩
  have HD := Lib.hid (And.intro hm3 hf3)
  clear hm3 hf3
  go_wp2_with fail
  refine (data_any C z 5 w3 HD.out.1 hz0 (by omega) (by omega) (by omega)).mono ?_
  rintro e w4 ⟨⟨v, L, rfl, hbuf, ⟨ld, rfl⟩, -, hL⟩, hm4, hf4⟩
  rw [List.length_map] at hL
  have hS4 := byS_buf hbuf
  have h2 : Below w1.heap.size w1 w4 := by
    have h3 : GFr C w2 w4 := HD.out.2.trans hf4
    have h4 := HC.out.2.2
    have h5 := HC.out.2.1
    exact h5.trans ((h3.toBelow (by have := HC.out.1.lt; omega)).mono (by omega))
  have hbw : Below w.heap.size w w4 := bl_trans' HA.out.2.2 h2
  have hB4 := HA.out.1.below h2
  obtain ⟨va, vc, rfl, -⟩ := hS4
  have hS4 := byS_buf hbuf
  have HE := Lib.hid (And.intro hS4 (And.intro hB4 (And.intro hbw (Utf8Tabs_below H.out.2.2.2 hbw))))
  clear hS4 hB4 hbw h2 hm4 hf4 hbuf HD HC HA H
  go_wp2_with fail
  obtain ⟨xb, hxb⟩ : ∃ b, w4.heap.size = b := ⟨_, rfl⟩
  have hx0 : BkAt w4.heap.size 22 #[.slice ba lb.length bc, .slice va ld.length vc] (w4.alloc (.cells #[.slice ba lb.length bc, .slice va ld.length vc] 22)) := BkAt.new _ _ _
  have hw5 := bl_trans' HE.out.2.2.1 (below_new w4 (.cells #[.slice ba lb.length bc, .slice va ld.length vc] 22))
  have hp0 := HE.out.2.1.below (below_new w4 (.cells #[.slice ba lb.length bc, .slice va ld.length vc] 22))
  have hp1 := HE.out.1.below (below_new w4 (.cells #[.slice ba lb.length bc, .slice va ld.length vc] 22))
  have hp2 := Utf8Tabs_below HE.out.2.2.2 (below_new w4 (.cells #[.slice ba lb.length bc, .slice va ld.length vc] 22))
  obtain ⟨w5, hw5e⟩ : ∃ x, w4.alloc (.cells #[.slice ba lb.length bc, .slice va ld.length vc] 22) = x := ⟨_, rfl⟩
  rw [hw5e] at hx0 hw5 hp0 hp1 hp2
  rw [hw5e]
  rw [hxb] at hx0
  simp only [hxb]
  have HF := Lib.hid (And.intro hx0 (And.intro hw5 (And.intro hp0 (And.intro hp1 hp2))))
  clear hx0 hw5 hp0 hp1 hp2 hw5e hxb HE
  go_loopw [33] (fun tv wr => ∃ t : Nat, tv = .int .i64 t ∧ t ≤ 2 ∧ Below w5.heap.size w5 wr) (fun tv _ => 2 - (intOf tv).toNat)
  case atStart => exact ⟨0, rfl, by omega, Below.refl _ _⟩
  case round =>
    obtain ⟨t, rfl, ht, hbr⟩ := hrel
    by_cases hlt : t < 2
    · have d1 : decide ((t : Int) < 2) = true := by rw [decide_eq_true_iff]; omega
      obtain ⟨xa, xc, l, cx, hx, hln⟩ : ∃ xa xc l, wr.cell? ⟨xb, t, none⟩ = some (.slice xa l.length xc) ∧ BySl wr (.slice xa l.length xc) l ∧ l.length ≤ 1048576 := by
        have hk := HF.out.1.below hbr
        have ht2 : t = 0 ∨ t = 1 := by omega
        rcases ht2 with rfl | rfl
        · exact ⟨_, _, lb, hk.cell 0, HF.out.2.2.1.below hbr, by omega⟩
        · exact ⟨_, _, ld, hk.cell 1, HF.out.2.2.2.1.below hbr, by omega⟩
      have hTr := Utf8Tabs_below HF.out.2.2.2.2 hbr
      have htx := text_any (.slice xa l.length xc) l (by omega) wr hTr hx
      obtain ⟨S, hSe⟩ : ∃ y : ByteArray, ⟨(textB l).toArray⟩ = y := ⟨_, rfl⟩
      obtain ⟨D, hDe⟩ : ∃ y : Int, (textN l : Int) = y := ⟨_, rfl⟩
      rw [hSe, hDe] at htx
      have HG := Lib.hid (And.intro hx (And.intro hbr (And.intro hTr (And.intro htx (And.intro hSe hDe)))))
      clear hx hbr hTr htx hSe hDe
      go_wp2_with fail
      refine HG.out.2.2.2.1.mono ?_
      rintro e w6 ⟨rfl, hb6⟩
      have hry := rtext_any (.slice xa l.length xc) l (by omega) w6 (HG.out.1.below hb6)
      rw [HG.out.2.2.2.2.1, HG.out.2.2.2.2.2] at hry
      have HI := Lib.hid (And.intro hb6 hry)
      clear hb6 hry cx
      go_wp2_with fail
      refine HI.out.2.mono ?_
      rintro e w7 ⟨rfl, hb7⟩
      have hx7 := HG.out.1.below (bl_trans' HI.out.1 hb7)
      have hT7 := Utf8Tabs_below HG.out.2.2.1 (bl_trans' HI.out.1 hb7)
      have hw7 := bl_trans' HG.out.2.1 (bl_trans' HI.out.1 hb7)
      have HJ := Lib.hid (And.intro hx7 (And.intro hT7 hw7))
      clear hx7 hT7 hw7 hb7 HI HG
      obtain ⟨n, hn⟩ : ∃ n, l.length = n := ⟨_, rfl⟩
      have hfrs := fun (o li : Int) => frames_any xa xc l o li (by omega)
      simp only [hn] at hfrs
      rw [hn] at HJ hln ⊢
      have HN := Lib.hid (And.intro hfrs hn)
      clear hfrs hn
      go_wp2_with fail
      with_reducible refine (modn_any off ((n : Int) + 2) w7 (by omega) (by omega)).mono ?_
      rintro e w8 ⟨⟨m1, rfl, hm10, hm11⟩, rfl⟩
      go_wp2_with fail
      with_reducible refine (modn_any lim 40 w8 (by omega) (by omega)).mono ?_
      rintro e w9 ⟨⟨m2, rfl, hm20, hm21⟩, rfl⟩
      go_wp2_with fail
      have k0 := BkAt.new 31 #[.int .i64 off, .int .i64 lim, .int .i64 m1, .int .i64 m2, .int .i64 0, .int .i64 2000] w9
      have k1 := below_new w9 (.cells #[.int .i64 off, .int .i64 lim, .int .i64 m1, .int .i64 m2, .int .i64 0, .int .i64 2000] 31)
      have k2 := HJ.out.1.below k1
      have k3 := Utf8Tabs_below HJ.out.2.1 k1
      have k4 := bl_trans' HJ.out.2.2 k1
      obtain ⟨W0, hW0⟩ : ∃ x, w9.alloc (.cells #[.int .i64 off, .int .i64 lim, .int .i64 m1, .int .i64 m2, .int .i64 0, .int .i64 2000] 31) = x := ⟨_, rfl⟩
      obtain ⟨yb, hyb⟩ : ∃ x, w9.heap.size = x := ⟨_, rfl⟩
      rw [hW0] at k0 k1 k2 k3 k4 ⊢
      rw [hyb] at k0
      simp only [hyb]
      have HK := Lib.hid (And.intro k0 (And.intro k2 (And.intro k3 k4)))
      clear k0 k1 k2 k3 k4 hW0 hyb hm10 hm11 hm20 hm21
      go_loopw [69] (fun iv wr => ∃ i : Nat, iv = .int .i64 i ∧ i ≤ 3 ∧ Below W0.heap.size W0 wr) (fun iv _ => 3 - (intOf iv).toNat)
      case atStart => exact ⟨0, rfl, by omega, Below.refl _ _⟩
      case round =>
        obtain ⟨i, rfl, hi, hbx⟩ := hrel
        by_cases hi3 : i < 3
        · have e1 : decide ((i : Int) < 3) = true := by rw [decide_eq_true_iff]; omega
          obtain ⟨o', li, q0, q1⟩ : ∃ o' li : Int, wr.cell? ⟨yb, i * 2, none⟩ = some (.int .i64 o') ∧ wr.cell? ⟨yb, i * 2 + 1, none⟩ = some (.int .i64 li) := by
            have hk := HK.out.1.below hbx
            have h3 : i = 0 ∨ i = 1 ∨ i = 2 := by omega
            rcases h3 with rfl | rfl | rfl
            · exact ⟨_, _, hk.cell 0, hk.cell 1⟩
            · exact ⟨_, _, hk.cell 2, hk.cell 3⟩
            · exact ⟨_, _, hk.cell 4, hk.cell 5⟩
          have hby := HK.out.2.1.below hbx
          have hTx := Utf8Tabs_below HK.out.2.2.1 hbx
          have HX := Lib.hid (And.intro hbx (And.intro hby hTx))
          clear hbx hby hTx
          go_wp2_with fail
          obtain ⟨z', oo, l', sp, hsp, hF, hR⟩ := HN.out.1 o' li
          have hn1 := below_new wr (.cells #[.int .i64 o', .int .i64 li] 31)
          have hk1 := BkAt.new 31 #[.int .i64 o', .int .i64 li] wr
          have HR := Lib.hid hR
          clear hR q0 q1
          with_reducible refine (hF _ (Utf8Tabs_below HX.out.2.2 hn1) (HX.out.2.1.below hn1)).mono ?_
          rintro e w11 ⟨⟨v1, rfl, hr1⟩, hb11⟩
          obtain ⟨p1, p2, p3, rfl⟩ := row_slice hr1
          have hk2 := hk1.below hb11
          obtain ⟨b7, hb7⟩ : ∃ x, wr.heap.size = x := ⟨_, rfl⟩
          rw [hb7] at hk2
          simp only [hb7]
          have y0 : w11.cell? ⟨b7, 0, none⟩ = some (.int .i64 o') := hk2.cell 0
          have y1 : w11.cell? ⟨b7, 1, none⟩ = some (.int .i64 li) := hk2.cell 1
          have HY := Lib.hid (And.intro hr1 (And.intro (bl_trans' HX.out.1 (bl_trans' hn1 hb11)) (HX.out.2.1.below (bl_trans' hn1 hb11))))
          clear hF hr1 hb11 hk1 hk2 hn1 hb7
          go_wp2_with fail
          with_reducible refine (HR.out w11 HY.out.2.2).mono ?_
          rintro e w12 ⟨⟨v2, rfl, hr2⟩, hb12⟩
          obtain ⟨p4, p5, p6, rfl⟩ := row_slice hr2
          have hsm := same_any (row_below HY.out.1 hb12) hr2 hsp
          have HZ := Lib.hid (And.intro hsm (bl_trans' HY.out.2.1 hb12))
          clear hsm hr2 hb12 HR y0 y1
          go_wp2_with fail
          with_reducible refine HZ.out.1.mono ?_
          rintro e w13 ⟨rfl, hb13⟩
          have HQ := Lib.hid (bl_trans' HZ.out.2 hb13)
          clear hb13
          go_wp2
          go_roundw
          case rel => exact ⟨i + 1, by congr 1, by omega, HQ.out⟩
          case measure => simp [intOf]; omega
        · obtain rfl : i = 3 := by omega
          have HZ := Lib.hid hbx
          clear hbx
          go_wp2
          go_roundw
          case rel => exact ⟨t + 1, by congr 1, by omega, bl_trans' HK.out.2.2.2 HZ.out⟩
          case measure => simp [intOf]; omega
    · obtain rfl : t = 2 := by omega
      have HZ := Lib.hid hbr
      clear hbr
      go_wp2
      exact bodyPost_ret (v := .bool true) (by simp [results, Tryd.results3, go_sem]) rfl ⟨rfl, bl_trans' HF.out.2.1 HZ.out⟩
end Go.Proofs.YtbpboghjgbgjfaaDoor
