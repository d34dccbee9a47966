/- The contracts of the reference's distance and Nearest. The contract of the reference's today. The contract of the reference's Recover at every string. -/
import Derived.Test.YtpbfgafkoodeoaaDoorRvH
import Derived.Test.YtpbfgafkoodeoaaDoorRvN
import Derived.Test.YtpbfgafkoodeoaaDoorRvL
import Derived.Test.YtpbfgafkoodeoaaDoorTsRsy
import Derived.Test.YtpbfgafkoodeoaaDoorTsRsl
import Derived.Test.YtpbfgafkoodeoaaDoorRvM
namespace Go.Proofs.YtpbfgafkoodeoaaDoor
open Go.RowKit

set_option maxRecDepth 100000 in
theorem rdistance_any (a b : Int) (ha : isT a) (hb : isT b) (w : World) :
    Calls Tryd.prog 44 #[.int .i64 a, .int .i64 b] w fun e w' => e = .returned (.int .i64 (dist a b)) ∧ w = w' := by
  obtain ⟨a1, a2⟩ := ha
  obtain ⟨b1, b2⟩ := hb
  go_enter Tryd.func44, Tryd.ntmps44
  go_wp2
  go_ret
  exact ⟨rt_int (by unfold dist; omega), rfl⟩
theorem rmil_any (x : D7) (z : Int) (w : World) :
    Calls Tryd.prog 18 #[.agg #[.int .i64 x.y, .int .i64 x.m, .int .i64 x.d, .int .i64 x.h, .int .i64 x.i, .int .i64 x.s, .int .i64 x.c], .int .i64 z] w fun e w' => e = .returned (.tuple #[.int .i64 (x.mV z), .int .i64 (x.mE z)]) ∧ Below w.heap.size w w' :=
  rmillis_any x.y x.m x.d x.h x.i x.s x.c z w

set_option maxRecDepth 100000 in
set_option maxHeartbeats 8000000 in
theorem rnearest_yes (x : D7) (ref z : Int) (hk : okT ref z) (w : World) :
    Calls Tryd.prog 21 #[.agg #[.int .i64 x.y, .int .i64 x.m, .int .i64 x.d, .int .i64 x.h, .int .i64 x.i, .int .i64 x.s, .int .i64 x.c], .int .i64 ref, .int .i64 z] w fun e w' => e = .returned (.tuple #[.int .i64 (neB x ref z).1, .int .i64 (neB x ref z).2]) ∧ Below w.heap.size w w' := by
  have hd := fun W => rdates_yes ref z hk.1 hk.2.1 hk.2.2 W
  unfold neB
  rw [if_pos hk]
  have hr := hk.1
  have hp : ref + z * 60000 + 62135596800000 = pOf ref z := rfl
  rw [hp] at hd
  obtain ⟨p, hpp⟩ : ∃ p, pOf ref z = p := ⟨_, rfl⟩
  rw [hpp] at hd ⊢
  obtain ⟨Y0, hY0⟩ : ∃ y, (civT (p / 86400000 - 719162)).1 = y := ⟨_, rfl⟩
  rw [hY0]
  have HY := Lib.hid hY0
  clear hY0
  have HD := Lib.hid hd
  have HR := Lib.hid hr
  clear hd hr hp hpp hk
  go_enter Tryd.func21, Tryd.ntmps21
  go_wp2_with fail
  refine (HD.out _).mono ?_
  rintro e w1 ⟨Y, M, D, rfl, hv, hn, hb1⟩
  have hcv := civT_is hv hn
  have hy1 := hv.1
  have hy2 := hv.2.1
  obtain rfl : Y = Y0 := by rw [← HY.out, hcv]
  have hb := bl_trans (below_alloc w (.cells #[.int .i64 x.y, .int .i64 x.m, .int .i64 x.d, .int .i64 x.h, .int .i64 x.i, .int .i64 x.s, .int .i64 x.c] 38)) hb1
  have hdt : RowAt w.heap.size 38 #[.int .i64 x.y, .int .i64 x.m, .int .i64 x.d, .int .i64 x.h, .int .i64 x.i, .int .i64 x.s, .int .i64 x.c] w1 := (RowAt.new _ _ w).below hb1
  unfold dateV
  obtain ⟨H, hH⟩ : ∃ q, p / 3600000 % 24 = q := ⟨_, rfl⟩
  obtain ⟨I, hI⟩ : ∃ q, p / 60000 % 60 = q := ⟨_, rfl⟩
  obtain ⟨S, hS⟩ : ∃ q, p / 1000 % 60 = q := ⟨_, rfl⟩
  obtain ⟨C, hC⟩ : ∃ q, p % 1000 = q := ⟨_, rfl⟩
  rw [hH, hI, hS, hC]
  have hX := below_alloc w1 (.cells #[.int .i64 Y, .int .i64 M, .int .i64 D, .int .i64 H, .int .i64 I, .int .i64 S, .int .i64 C] 38)
  have hXL := RowAt.new 38 #[.int .i64 Y, .int .i64 M, .int .i64 D, .int .i64 H, .int .i64 I, .int .i64 S, .int .i64 C] w1
  obtain ⟨X, hXX⟩ : ∃ X, w1.alloc (.cells #[.int .i64 Y, .int .i64 M, .int .i64 D, .int .i64 H, .int .i64 I, .int .i64 S, .int .i64 C] 38) = X := ⟨_, rfl⟩
  have hlt1 : w.heap.size < w1.heap.size := hdt.lt
  have e0 := hXL.cell 0
  simp only [List.getElem?_toArray, List.getElem?_cons_zero] at e0
  rw [hXX] at hX hXL e0
  have HX := Lib.hid (And.intro (hdt.below hX) (And.intro hXL (bl_trans hb hX)))
  have HXX := Lib.hid hXX
  clear hv hn hcv hb1 hb hdt hH hI hS hC hX hXL hXX
  go_wp2_with fail
  rw [HXX.out]
  obtain ⟨L, hL⟩ : ∃ L, w1.heap.size = L := ⟨_, rfl⟩
  obtain ⟨E, hE⟩ : ∃ E, w.heap.size = E := ⟨_, rfl⟩
  have hne : E ≠ L := by omega
  have HW := Lib.hid hE
  have HX2 := Lib.hid HX.out
  rw [hL] at HX2 ⊢
  rw [hE] at HX2 ⊢
  have HN0 := Lib.hid hne
  clear hL hE hne HX HXX e0 hlt1 HY
  go_loopw [10, 11, 12] (fun b f yv wr => ∃ k : Nat, k ≤ 3 ∧ yv = .int .i64 (Y - 1 + k) ∧ b = .int .i64 (nfold ref z (yrs Y x) k).1 ∧ f = .bool (decide ((nfold ref z (yrs Y x) k).2 = 0)) ∧ (∃ y : Int, RowAt E 38 #[.int .i64 y, .int .i64 x.m, .int .i64 x.d, .int .i64 x.h, .int .i64 x.i, .int .i64 x.s, .int .i64 x.c] wr) ∧ RowAt L 38 #[.int .i64 Y, .int .i64 M, .int .i64 D, .int .i64 H, .int .i64 I, .int .i64 S, .int .i64 C] wr ∧ Below E w wr) (fun _ _ yv _ => (Y + 2 - intOf yv).toNat)
  case atStart => exact ⟨0, by omega, by simp, rfl, rfl, ⟨x.y, HX2.out.1⟩, HX2.out.2.1, HX2.out.2.2⟩
  case round =>
    obtain ⟨k, hk, rfl, rfl, rfl, ⟨y, hrE⟩, hrL, hrB⟩ := hrel
    have l0 := hrL.cell 0
    simp only [List.getElem?_toArray, List.getElem?_cons_zero] at l0
    by_cases hlt : k < 3
    · have hd3 : decide (Y - 1 + (k : Int) ≤ Y + 1) = true := by rw [decide_eq_true_iff]; omega
      have hrd := round_of ref z (yrs Y x) k
      have hml := fun W => rmil_any (yrs Y x k) z W
      have hxe : yrs Y x k = ⟨Y - 1 + k, x.m, x.d, x.h, x.i, x.s, x.c⟩ := rfl
      obtain ⟨v, hv⟩ : ∃ v, (yrs Y x k).mV z = v := ⟨_, rfl⟩
      obtain ⟨er, he⟩ : ∃ v, (yrs Y x k).mE z = v := ⟨_, rfl⟩
      rw [hv, he] at hrd hml
      rw [hxe] at hml
      simp only at hml
      obtain ⟨b', hb'⟩ : ∃ b, nfold ref z (yrs Y x) (k + 1) = b := ⟨_, rfl⟩
      rw [hb'] at hrd
      obtain ⟨b, hbk⟩ : ∃ b, nfold ref z (yrs Y x) k = b := ⟨_, rfl⟩
      rw [hbk] at hrd ⊢
      obtain ⟨b1, b2⟩ := b
      simp only at hrd ⊢
      have HN := Lib.hid hb'
      have HM := Lib.hid hml
      have e0 := hrE.cell 0
      have e1 := hrE.cell 1
      have e2 := hrE.cell 2
      have e3 := hrE.cell 3
      have e4 := hrE.cell 4
      have e5 := hrE.cell 5
      have e6 := hrE.cell 6
      have fe := hrE.free 0
      simp only [List.getElem?_toArray, List.getElem?_cons_zero, List.getElem?_cons_succ] at e0 e1 e2 e3 e4 e5 e6
      have HE1 := Lib.hid (show RowAt E 38 #[.int .i64 (Y - 1 + (k : Int)), .int .i64 x.m, .int .i64 x.d, .int .i64 x.h, .int .i64 x.i, .int .i64 x.s, .int .i64 x.c] (wr.setCell ⟨E, 0, none⟩ (.int .i64 (Y - 1 + (k : Int)))) ∧ RowAt L 38 #[.int .i64 Y, .int .i64 M, .int .i64 D, .int .i64 H, .int .i64 I, .int .i64 S, .int .i64 C] (wr.setCell ⟨E, 0, none⟩ (.int .i64 (Y - 1 + (k : Int)))) ∧ Below E w (wr.setCell ⟨E, 0, none⟩ (.int .i64 (Y - 1 + (k : Int)))) from
        ⟨hrE.set 0 _, hrL.other 0 _ (fun q => HN0.out q.symm), hrB.setCell (p := ⟨E, 0, none⟩) (Nat.le_refl _) _⟩)
      have n1 : E ≠ L := HN0.out
      have n2 : L ≠ E := fun q => HN0.out q.symm
      clear hv he hb' hbk hml hxe hrE hrL hrB
      rcases hrd with ⟨h0, hb⟩ | ⟨h0, h2, hb⟩ | ⟨h0, h2, hvt, htt, hdd, hb⟩ | ⟨h0, h2, hvt, htt, hdd, hb⟩
      · have e9 : (er == 0) = false := by rw [beq_eq_false_iff_ne]; exact h0
        have HQ := Lib.hid hb
        clear h0 hb
        go_wp2_with fail
        refine (HM.out _).mono ?_
        rintro e w2 ⟨rfl, hb2⟩
        have HW2 := Lib.hid (And.intro (RowAt.below HE1.out.1 hb2) (And.intro (HE1.out.2.1.below hb2) (HE1.out.2.2.trans (hb2.mono (Nat.le_trans (Nat.le_of_eq HW.out.symm) HE1.out.2.2.size)))))
        have l0' := HW2.out.2.1.cell 0
        simp only [List.getElem?_toArray, List.getElem?_cons_zero] at l0'
        clear hb2 l0 e0 e1 e2 e3 e4 e5 e6 fe
        go_wp2
        go_roundw
        case rel => exact ⟨k + 1, by omega, by push_cast; go_num, by rw [HN.out, HQ.out], by rw [HN.out, HQ.out], ⟨_, HW2.out.1⟩, HW2.out.2.1, HW2.out.2.2⟩
        case measure => simp [intOf]; omega
      · subst h0
        have e8 : decide (b2 = 0) = false := decide_eq_false h2
        rw [e8]
        have HQ := Lib.hid hb
        clear h2 hb e8
        go_wp2_with fail
        refine (HM.out _).mono ?_
        rintro e w2 ⟨rfl, hb2⟩
        have HW2 := Lib.hid (And.intro (RowAt.below HE1.out.1 hb2) (And.intro (HE1.out.2.1.below hb2) (HE1.out.2.2.trans (hb2.mono (Nat.le_trans (Nat.le_of_eq HW.out.symm) HE1.out.2.2.size)))))
        have l0' := HW2.out.2.1.cell 0
        simp only [List.getElem?_toArray, List.getElem?_cons_zero] at l0'
        clear hb2 l0 e0 e1 e2 e3 e4 e5 e6 fe
        go_wp2
        go_roundw
        case rel => exact ⟨k + 1, by omega, by push_cast; go_num, by rw [HN.out, HQ.out], by rw [HN.out, HQ.out]; rfl, ⟨_, HW2.out.1⟩, HW2.out.2.1, HW2.out.2.2⟩
        case measure => simp [intOf]; omega
      · subst h0 h2
        have e8 : decide ((0 : Int) = 0) = true := rfl
        rw [e8]
        clear e8
        have hq1 := Lib.hid (fun W => rdistance_any v ref hvt HR.out W)
        have hq2 := Lib.hid (fun W => rdistance_any b1 ref htt HR.out W)
        obtain ⟨p1, hp1⟩ : ∃ p, dist v ref = p := ⟨_, rfl⟩
        obtain ⟨p2, hp2⟩ : ∃ p, dist b1 ref = p := ⟨_, rfl⟩
        rw [hp1] at hq1 hdd
        rw [hp2] at hq2 hdd
        have HQ := Lib.hid hb
        clear hb hvt htt hp1 hp2
        go_wp2_with fail
        refine (HM.out _).mono ?_
        rintro e w2 ⟨rfl, hb2⟩
        have HW2 := Lib.hid (And.intro (RowAt.below HE1.out.1 hb2) (And.intro (HE1.out.2.1.below hb2) (HE1.out.2.2.trans (hb2.mono (Nat.le_trans (Nat.le_of_eq HW.out.symm) HE1.out.2.2.size)))))
        have l0' := HW2.out.2.1.cell 0
        simp only [List.getElem?_toArray, List.getElem?_cons_zero] at l0'
        clear hb2 l0 e0 e1 e2 e3 e4 e5 e6 fe
        go_wp2_with fail
        refine (hq1.out _).mono ?_
        rintro e w' ⟨rfl, rfl⟩
        go_wp2_with fail
        refine (hq2.out _).mono ?_
        rintro e w' ⟨rfl, rfl⟩
        go_wp2
        go_roundw
        case rel => exact ⟨k + 1, by omega, by push_cast; go_num, by rw [HN.out, HQ.out], by rw [HN.out, HQ.out]; rfl, ⟨_, HW2.out.1⟩, HW2.out.2.1, HW2.out.2.2⟩
        case measure => simp [intOf]; omega
      · subst h0 h2
        have e8 : decide ((0 : Int) = 0) = true := rfl
        rw [e8]
        clear e8
        have hq1 := Lib.hid (fun W => rdistance_any v ref hvt HR.out W)
        have hq2 := Lib.hid (fun W => rdistance_any b1 ref htt HR.out W)
        obtain ⟨p1, hp1⟩ : ∃ p, dist v ref = p := ⟨_, rfl⟩
        obtain ⟨p2, hp2⟩ : ∃ p, dist b1 ref = p := ⟨_, rfl⟩
        rw [hp1] at hq1 hdd
        rw [hp2] at hq2 hdd
        have HQ := Lib.hid hb
        clear hb hvt htt hp1 hp2
        go_wp2_with fail
        refine (HM.out _).mono ?_
        rintro e w2 ⟨rfl, hb2⟩
        have HW2 := Lib.hid (And.intro (RowAt.below HE1.out.1 hb2) (And.intro (HE1.out.2.1.below hb2) (HE1.out.2.2.trans (hb2.mono (Nat.le_trans (Nat.le_of_eq HW.out.symm) HE1.out.2.2.size)))))
        have l0' := HW2.out.2.1.cell 0
        simp only [List.getElem?_toArray, List.getElem?_cons_zero] at l0'
        clear hb2 l0 e0 e1 e2 e3 e4 e5 e6 fe
        go_wp2_with fail
        refine (hq1.out _).mono ?_
        rintro e w' ⟨rfl, rfl⟩
        go_wp2_with fail
        refine (hq2.out _).mono ?_
        rintro e w' ⟨rfl, rfl⟩
        go_wp2
        go_roundw
        case rel => exact ⟨k + 1, by omega, by push_cast; go_num, by rw [HN.out, HQ.out], by rw [HN.out, HQ.out]; rfl, ⟨_, HW2.out.1⟩, HW2.out.2.1, HW2.out.2.2⟩
        case measure => simp [intOf]; omega
    · obtain rfl : k = 3 := by omega
      have hok := nfold_ok ref z (yrs Y x) 3
      have hd3 : decide (Y - 1 + ((3 : Nat) : Int) ≤ Y + 1) = false := by rw [decide_eq_false_iff_not]; omega
      obtain ⟨b, hbk⟩ : ∃ b, nfold ref z (yrs Y x) 3 = b := ⟨_, rfl⟩
      rw [hbk] at hok ⊢
      obtain ⟨b1, b2⟩ := b
      simp only at hok ⊢
      have HB := Lib.hid (And.intro hbk hrB)
      clear hbk hrE hrL hrB hk hlt
      rcases hok with ⟨h2, -⟩ | h2
      · subst h2
        have e8 : decide ((0 : Int) = 0) = true := rfl
        rw [e8]
        clear e8
        go_wp2
        obtain rfl := HW.out
        exact bodyPost_ret (v := .tuple #[.int .i64 b1, .int .i64 0]) (by simp [results, Tryd.results21, go_sem]) rfl ⟨by rw [HB.out.1], HB.out.2⟩
      · obtain ⟨rfl, rfl⟩ := Prod.mk.inj h2
        have e8 : decide ((10 : Int) = 0) = false := rfl
        rw [e8]
        clear e8 h2
        go_wp2
        obtain rfl := HW.out
        exact bodyPost_ret (v := .tuple #[.int .i64 0, .int .i64 10]) (by simp [results, Tryd.results21, go_sem]) rfl ⟨by rw [HB.out.1], HB.out.2⟩

set_option maxRecDepth 100000 in
set_option maxHeartbeats 4000000 in
theorem rnearest_no (x : D7) (ref z : Int) (hk : ¬ okT ref z) (w : World) :
    Calls Tryd.prog 21 #[.agg #[.int .i64 x.y, .int .i64 x.m, .int .i64 x.d, .int .i64 x.h, .int .i64 x.i, .int .i64 x.s, .int .i64 x.c], .int .i64 ref, .int .i64 z] w fun e w' => e = .returned (.tuple #[.int .i64 0, .int .i64 2]) ∧ Below w.heap.size w w' := by
  have HD := Lib.hid (fun W => rdates_no ref z hk W)
  clear hk
  go_enter Tryd.func21, Tryd.ntmps21
  go_wp2_with fail
  refine (HD.out _).mono ?_
  rintro e w1 ⟨rfl, hb1⟩
  have hb := bl_trans (below_alloc w _) hb1
  unfold zeroDate
  go_wp2
  go_ret2
  exact ⟨rfl, bl_trans hb (below_alloc _ _)⟩
theorem rnearest_any (x : D7) (ref z : Int) (w : World) :
    Calls Tryd.prog 21 #[.agg #[.int .i64 x.y, .int .i64 x.m, .int .i64 x.d, .int .i64 x.h, .int .i64 x.i, .int .i64 x.s, .int .i64 x.c], .int .i64 ref, .int .i64 z] w fun e w' => e = .returned (.tuple #[.int .i64 (neB x ref z).1, .int .i64 (neB x ref z).2]) ∧ Below w.heap.size w w' := by
  by_cases hk : okT ref z
  · exact rnearest_yes x ref z hk w
  · have e : neB x ref z = (0, 2) := by unfold neB; rw [if_neg hk]
    rw [e]; exact rnearest_no x ref z hk w
end Go.Proofs.YtpbfgafkoodeoaaDoor

namespace Go.Proofs.YtpbfgafkoodeoaaDoor
open Go.RowKit

theorem rciv_yes (n : Int) (h0 : -719162 ≤ n) (h1 : n ≤ 2932896) (w : World) :
    Calls Tryd.prog 47 #[.int .i64 n] w fun e w' => e = .returned (.tuple #[.int .i64 (civT n).1, .int .i64 (civT n).2.1, .int .i64 (civT n).2.2, .bool true]) ∧ w = w' := by
  refine (rcivil_yes n h0 h1 w).mono fun e w' ⟨y, m, d, he, hv, hn, hw⟩ => ?_
  rw [civT_is hv hn]
  exact ⟨he, hw⟩
set_option maxRecDepth 100000 in
set_option maxHeartbeats 16000000 in
theorem rtoday_yes (x : D7) (ref z : Int) (hk : okT ref z) (w : World) :
    Calls Tryd.prog 25 #[.agg #[.int .i64 x.y, .int .i64 x.m, .int .i64 x.d, .int .i64 x.h, .int .i64 x.i, .int .i64 x.s, .int .i64 x.c], .int .i64 ref, .int .i64 z] w fun e w' => e = .returned (.tuple #[.int .i64 (dyB x ref z).1, .int .i64 (dyB x ref z).2]) ∧ Below w.heap.size w w' := by
  have hd := fun W => rdates_yes ref z hk.1 hk.2.1 hk.2.2 W
  unfold dyB
  rw [if_pos hk]
  have hr := hk.1
  have hz := hk.2.1
  have hti := day_in hk
  have hp : ref + z * 60000 + 62135596800000 = pOf ref z := rfl
  rw [hp] at hd
  obtain ⟨p, hpp⟩ : ∃ p, pOf ref z = p := ⟨_, rfl⟩
  rw [hpp] at hd hti ⊢
  obtain ⟨T, hT⟩ : ∃ T, p / 86400000 - 719162 = T := ⟨_, rfl⟩
  rw [hT] at hti ⊢
  obtain ⟨t0, t1⟩ := hti
  have HD := Lib.hid hd
  have HR := Lib.hid hr
  have HZ := Lib.hid hz
  have HT := Lib.hid hT
  clear hd hr hp hpp hk hT hz
  go_enter Tryd.func25, Tryd.ntmps25
  go_wp2_with fail
  refine (HD.out _).mono ?_
  rintro e w1 ⟨Y, M, D, rfl, hv, hn, hb1⟩
  have hdy := fun W => rdays_yes Y M D hv W
  rw [hn, HT.out] at hdy
  have HDY := Lib.hid hdy
  have hb := bl_trans (below_alloc w (.cells #[.int .i64 x.y, .int .i64 x.m, .int .i64 x.d, .int .i64 x.h, .int .i64 x.i, .int .i64 x.s, .int .i64 x.c] 38)) hb1
  have hdt : RowAt w.heap.size 38 #[.int .i64 x.y, .int .i64 x.m, .int .i64 x.d, .int .i64 x.h, .int .i64 x.i, .int .i64 x.s, .int .i64 x.c] w1 := (RowAt.new _ _ w).below hb1
  unfold dateV
  obtain ⟨H, hH⟩ : ∃ q, p / 3600000 % 24 = q := ⟨_, rfl⟩
  obtain ⟨I, hI⟩ : ∃ q, p / 60000 % 60 = q := ⟨_, rfl⟩
  obtain ⟨S, hS⟩ : ∃ q, p / 1000 % 60 = q := ⟨_, rfl⟩
  obtain ⟨C, hC⟩ : ∃ q, p % 1000 = q := ⟨_, rfl⟩
  rw [hH, hI, hS, hC]
  have hX := below_alloc w1 (.cells #[.int .i64 Y, .int .i64 M, .int .i64 D, .int .i64 H, .int .i64 I, .int .i64 S, .int .i64 C] 38)
  have hXL := RowAt.new 38 #[.int .i64 Y, .int .i64 M, .int .i64 D, .int .i64 H, .int .i64 I, .int .i64 S, .int .i64 C] w1
  obtain ⟨X, hXX⟩ : ∃ X, w1.alloc (.cells #[.int .i64 Y, .int .i64 M, .int .i64 D, .int .i64 H, .int .i64 I, .int .i64 S, .int .i64 C] 38) = X := ⟨_, rfl⟩
  have e0 := hXL.cell 0
  have e1 := hXL.cell 1
  have e2 := hXL.cell 2
  simp only [List.getElem?_toArray, List.getElem?_cons_zero, List.getElem?_cons_succ] at e0 e1 e2
  rw [hXX] at hX hXL e0 e1 e2
  have HX := Lib.hid (And.intro (hdt.below hX) (bl_trans hb hX))
  have HXX := Lib.hid hXX
  clear hv hn hb1 hb hdt hH hI hS hC hX hXL hXX hdy
  go_upto_region 4 with (fail)
  rw [HXX.out]
  obtain ⟨L, hL⟩ : ∃ L, w1.heap.size = L := ⟨_, rfl⟩
  obtain ⟨E, hE⟩ : ∃ E, w.heap.size = E := ⟨_, rfl⟩
  have HW := Lib.hid hE
  have HX2 := Lib.hid HX.out
  rw [hL] at e0 e1 e2 ⊢
  rw [hE] at HX2 ⊢
  clear hL hE HX HXX
  go_wp2_with fail
  refine (HDY.out _).mono ?_
  rintro e w' ⟨rfl, rfl⟩
  clear e0 e1 e2
  go_wp2_with fail
  go_loopw [12, 13, 14, 15] (fun b f fe kv wr => ∃ (j : Nat) (k : Int), j ≤ 3 ∧ k = (j : Int) - 1 ∧ kv = .int .i64 k ∧ b = .int .i64 (nfold ref z (dys T x) j).1 ∧ f = .bool (decide ((nfold ref z (dys T x) j).2 = 0)) ∧ (∃ q : Int, fe = .int .i64 q ∧ (¬ clockOk x.h x.i x.s x.c → 2 ≤ j → q = 10)) ∧ (∃ y m d : Int, RowAt E 38 #[.int .i64 y, .int .i64 m, .int .i64 d, .int .i64 x.h, .int .i64 x.i, .int .i64 x.s, .int .i64 x.c] wr) ∧ Below E w wr) (fun _ _ _ kv _ => (2 - intOf kv).toNat)
  case atStart => exact ⟨0, -1, by omega, by simp, rfl, rfl, rfl, ⟨0, rfl, fun _ h => by omega⟩, ⟨x.y, x.m, x.d, HX2.out.1⟩, HX2.out.2⟩
  case round =>
    obtain ⟨j, k, hj, hjk, rfl, rfl, rfl, ⟨q, rfl, hq⟩, ⟨y, m, d, hrE⟩, hrB⟩ := hrel
    by_cases hlt : j < 3
    · have hd3 : decide (k ≤ 1) = true := by rw [decide_eq_true_iff]; omega
      have hk0 : -1 ≤ k := by omega
      have hk1 : k ≤ 1 := by omega
      have ht1 : T - 1 + (j : Int) = T + k := by omega
      by_cases hin : -719162 ≤ T + k ∧ T + k ≤ 2932896
      · have hcv := fun W => rciv_yes (T + k) hin.1 hin.2 W
        have hrd := round_of ref z (dys T x) j
        have hml := fun W => rmil_any (dys T x j) z W
        have hck : ¬ clockOk x.h x.i x.s x.c → (dys T x j).mE z = 10 := fun h => mE_noClk h
        have hxe : dys T x j = ⟨(civT (T + k)).1, (civT (T + k)).2.1, (civT (T + k)).2.2, x.h, x.i, x.s, x.c⟩ := by unfold dys; rw [ht1]
        obtain ⟨v, hv⟩ : ∃ v, (dys T x j).mV z = v := ⟨_, rfl⟩
        obtain ⟨er, he⟩ : ∃ v, (dys T x j).mE z = v := ⟨_, rfl⟩
        rw [he] at hck
        rw [hv, he] at hrd hml
        rw [hxe] at hml
        simp only at hml
        obtain ⟨y1, hy1⟩ : ∃ a, (civT (T + k)).1 = a := ⟨_, rfl⟩
        obtain ⟨m1, hm1⟩ : ∃ a, (civT (T + k)).2.1 = a := ⟨_, rfl⟩
        obtain ⟨d1, hd1⟩ : ∃ a, (civT (T + k)).2.2 = a := ⟨_, rfl⟩
        rw [hy1, hm1, hd1] at hml hcv
        obtain ⟨b', hb'⟩ : ∃ b, nfold ref z (dys T x) (j + 1) = b := ⟨_, rfl⟩
        rw [hb'] at hrd
        obtain ⟨b, hbk⟩ : ∃ b, nfold ref z (dys T x) j = b := ⟨_, rfl⟩
        rw [hbk] at hrd ⊢
        obtain ⟨b1, b2⟩ := b
        simp only at hrd ⊢
        have HN := Lib.hid hb'
        have HM := Lib.hid hml
        have HCV := Lib.hid hcv
        have HJ := Lib.hid hjk
        have e0 := hrE.cell 0
        have e1 := hrE.cell 1
        have e2 := hrE.cell 2
        have e3 := hrE.cell 3
        have e4 := hrE.cell 4
        have e5 := hrE.cell 5
        have e6 := hrE.cell 6
        have fe0 := hrE.free 0
        have fe1 := hrE.free 1
        have fe2 := hrE.free 2
        simp only [List.getElem?_toArray, List.getElem?_cons_zero, List.getElem?_cons_succ] at e0 e1 e2 e3 e4 e5 e6
        have HE1 := Lib.hid (show RowAt E 38 #[.int .i64 y1, .int .i64 m1, .int .i64 d1, .int .i64 x.h, .int .i64 x.i, .int .i64 x.s, .int .i64 x.c] (((wr.setCell ⟨E, 0, none⟩ (.int .i64 y1)).setCell ⟨E, 1, none⟩ (.int .i64 m1)).setCell ⟨E, 2, none⟩ (.int .i64 d1)) ∧ Below E w (((wr.setCell ⟨E, 0, none⟩ (.int .i64 y1)).setCell ⟨E, 1, none⟩ (.int .i64 m1)).setCell ⟨E, 2, none⟩ (.int .i64 d1)) from
          ⟨((hrE.set 0 _).set 1 _).set 2 _, ((hrB.setCell (p := ⟨E, 0, none⟩) (Nat.le_refl _) _).setCell (p := ⟨E, 1, none⟩) (Nat.le_refl _) _).setCell (p := ⟨E, 2, none⟩) (Nat.le_refl _) _⟩)
        clear hv he hb' hbk hml hxe hrE hrB hcv hy1 hm1 hd1 ht1 hin hjk
        rcases hrd with ⟨h0, hb⟩ | ⟨h0, h2, hb⟩ | ⟨h0, h2, hvt, htt, hdd, hb⟩ | ⟨h0, h2, hvt, htt, hdd, hb⟩
        · have e9 : (er != 0) = true := by rw [bne_iff_ne]; exact h0
          have HQ := Lib.hid hb
          have HCK : Hid (¬ clockOk x.h x.i x.s x.c → 2 ≤ j + 1 → er = 10) := fun a _ => hck a
          clear h0 hb hck hq
          go_wp2_with fail
          refine (HCV.out _).mono ?_
          rintro e w' ⟨rfl, rfl⟩
          go_wp2_with fail
          refine (HM.out _).mono ?_
          rintro e w2 ⟨rfl, hb2⟩
          have HW2 := Lib.hid (And.intro (RowAt.below HE1.out.1 hb2) (HE1.out.2.trans (hb2.mono (Nat.le_trans (Nat.le_of_eq HW.out.symm) HE1.out.2.size))))
          clear hb2 e0 e1 e2 e3 e4 e5 e6 fe0 fe1 fe2
          go_wp2
          go_roundw
          case rel => exact ⟨j + 1, k + 1, by omega, by have := HJ.out; push_cast; omega, rfl, by rw [HN.out, HQ.out], by rw [HN.out, HQ.out], ⟨er, rfl, HCK.out⟩, ⟨_, _, _, HW2.out.1⟩, HW2.out.2⟩
          case measure => simp [intOf]; omega

        · subst h0
          have e8 : decide (b2 = 0) = false := decide_eq_false h2
          rw [e8]
          have HQ := Lib.hid hb
          have HCK : Hid (¬ clockOk x.h x.i x.s x.c → 2 ≤ j + 1 → q = 10) := fun a _ => by have := hck a; omega
          clear h2 hb e8 hck hq
          go_wp2_with fail
          refine (HCV.out _).mono ?_
          rintro e w' ⟨rfl, rfl⟩
          go_wp2_with fail
          refine (HM.out _).mono ?_
          rintro e w2 ⟨rfl, hb2⟩
          have HW2 := Lib.hid (And.intro (RowAt.below HE1.out.1 hb2) (HE1.out.2.trans (hb2.mono (Nat.le_trans (Nat.le_of_eq HW.out.symm) HE1.out.2.size))))
          clear hb2 e0 e1 e2 e3 e4 e5 e6 fe0 fe1 fe2
          go_wp2
          go_roundw
          case rel => exact ⟨j + 1, k + 1, by omega, by have := HJ.out; push_cast; omega, rfl, by rw [HN.out, HQ.out], by rw [HN.out, HQ.out]; rfl, ⟨q, rfl, HCK.out⟩, ⟨_, _, _, HW2.out.1⟩, HW2.out.2⟩
          case measure => simp [intOf]; omega

        · subst h0 h2
          have e8 : decide ((0 : Int) = 0) = true := rfl
          rw [e8]
          have HCK : Hid (¬ clockOk x.h x.i x.s x.c → 2 ≤ j + 1 → q = 10) := fun a _ => by have := hck a; omega
          clear e8 hck hq
          have hq1 := Lib.hid (fun W => rdistance_any v ref hvt HR.out W)
          have hq2 := Lib.hid (fun W => rdistance_any b1 ref htt HR.out W)
          obtain ⟨p1, hp1⟩ : ∃ p, dist v ref = p := ⟨_, rfl⟩
          obtain ⟨p2, hp2⟩ : ∃ p, dist b1 ref = p := ⟨_, rfl⟩
          rw [hp1] at hq1 hdd
          rw [hp2] at hq2 hdd
          have HQ := Lib.hid hb
          clear hb hvt htt hp1 hp2
          go_wp2_with fail
          refine (HCV.out _).mono ?_
          rintro e w' ⟨rfl, rfl⟩
          go_wp2_with fail
          refine (HM.out _).mono ?_
          rintro e w2 ⟨rfl, hb2⟩
          have HW2 := Lib.hid (And.intro (RowAt.below HE1.out.1 hb2) (HE1.out.2.trans (hb2.mono (Nat.le_trans (Nat.le_of_eq HW.out.symm) HE1.out.2.size))))
          clear hb2 e0 e1 e2 e3 e4 e5 e6 fe0 fe1 fe2
          go_wp2_with fail
          refine (hq1.out _).mono ?_
          rintro e w' ⟨rfl, rfl⟩
          go_wp2_with fail
          refine (hq2.out _).mono ?_
          rintro e w' ⟨rfl, rfl⟩
          go_wp2
          go_roundw
          case rel => exact ⟨j + 1, k + 1, by omega, by have := HJ.out; push_cast; omega, rfl, by rw [HN.out, HQ.out], by rw [HN.out, HQ.out]; rfl, ⟨q, rfl, HCK.out⟩, ⟨_, _, _, HW2.out.1⟩, HW2.out.2⟩
          case measure => simp [intOf]; omega

        · subst h0 h2
          have e8 : decide ((0 : Int) = 0) = true := rfl
          rw [e8]
          have HCK : Hid (¬ clockOk x.h x.i x.s x.c → 2 ≤ j + 1 → q = 10) := fun a _ => by have := hck a; omega
          clear e8 hck hq
          have hq1 := Lib.hid (fun W => rdistance_any v ref hvt HR.out W)
          have hq2 := Lib.hid (fun W => rdistance_any b1 ref htt HR.out W)
          obtain ⟨p1, hp1⟩ : ∃ p, dist v ref = p := ⟨_, rfl⟩
          obtain ⟨p2, hp2⟩ : ∃ p, dist b1 ref = p := ⟨_, rfl⟩
          rw [hp1] at hq1 hdd
          rw [hp2] at hq2 hdd
          have HQ := Lib.hid hb
          clear hb hvt htt hp1 hp2
          go_wp2_with fail
          refine (HCV.out _).mono ?_
          rintro e w' ⟨rfl, rfl⟩
          go_wp2_with fail
          refine (HM.out _).mono ?_
          rintro e w2 ⟨rfl, hb2⟩
          have HW2 := Lib.hid (And.intro (RowAt.below HE1.out.1 hb2) (HE1.out.2.trans (hb2.mono (Nat.le_trans (Nat.le_of_eq HW.out.symm) HE1.out.2.size))))
          clear hb2 e0 e1 e2 e3 e4 e5 e6 fe0 fe1 fe2
          go_wp2_with fail
          refine (hq1.out _).mono ?_
          rintro e w' ⟨rfl, rfl⟩
          go_wp2_with fail
          refine (hq2.out _).mono ?_
          rintro e w' ⟨rfl, rfl⟩
          go_wp2
          go_roundw
          case rel => exact ⟨j + 1, k + 1, by omega, by have := HJ.out; push_cast; omega, rfl, by rw [HN.out, HQ.out], by rw [HN.out, HQ.out]; rfl, ⟨q, rfl, HCK.out⟩, ⟨_, _, _, HW2.out.1⟩, HW2.out.2⟩
          case measure => simp [intOf]; omega

      · have hcv := Lib.hid (fun W => rcivil_no (T + k) (by omega) W)
        have hst : nfold ref z (dys T x) (j + 1) = nfold ref z (dys T x) j := by
          show nstep ref z (nfold ref z (dys T x) j) (dys T x j) = _
          unfold nstep
          rw [if_pos (by rw [mE_noDay (by omega)]; omega)]
        have HS := Lib.hid hst
        have HCK : Hid (¬ clockOk x.h x.i x.s x.c → 2 ≤ j + 1 → q = 10) := fun a _ => hq a (by omega)
        have HE := Lib.hid (And.intro hrE hrB)
        have HJ := Lib.hid hjk
        clear hst hq hrE hrB ht1 hjk hin
        go_wp2_with fail
        refine (hcv.out _).mono ?_
        rintro e w' ⟨rfl, rfl⟩
        go_wp2
        go_roundw
        case rel => exact ⟨j + 1, k + 1, by omega, by have := HJ.out; push_cast; omega, rfl, by rw [HS.out], by rw [HS.out], ⟨q, rfl, HCK.out⟩, ⟨_, _, _, HE.out.1⟩, HE.out.2⟩
        case measure => simp [intOf]; omega
    · obtain rfl : j = 3 := by omega
      have hok := nfold_ok ref z (dys T x) 3
      have hdf := fun h => dy_found (ref := ref) (x := x) HZ.out t0 t1 h
      have hd3 : decide (k ≤ 1) = false := by rw [decide_eq_false_iff_not]; omega
      obtain ⟨b, hbk⟩ : ∃ b, nfold ref z (dys T x) 3 = b := ⟨_, rfl⟩
      rw [hbk] at hok hdf ⊢
      obtain ⟨b1, b2⟩ := b
      simp only at hok hdf ⊢
      have HB := Lib.hid (And.intro hbk hrB)
      clear hbk hrE hrB hj hlt hjk
      rcases hok with ⟨h2, -⟩ | h2
      · subst h2
        have e8 : decide ((0 : Int) = 0) = true := rfl
        rw [e8]
        clear e8 hdf hq
        go_wp2
        obtain rfl := HW.out
        exact bodyPost_ret (v := .tuple #[.int .i64 b1, .int .i64 0]) (by simp [results, Tryd.results25, go_sem]) rfl ⟨by rw [HB.out.1], HB.out.2⟩
      · obtain ⟨rfl, rfl⟩ := Prod.mk.inj h2
        obtain rfl : q = 10 := hq (hdf (by omega)) (by omega)
        have e8 : decide ((10 : Int) = 0) = false := rfl
        rw [e8]
        clear e8 h2 hdf hq
        go_wp2
        obtain rfl := HW.out
        exact bodyPost_ret (v := .tuple #[.int .i64 0, .int .i64 10]) (by simp [results, Tryd.results25, go_sem]) rfl ⟨by rw [HB.out.1], HB.out.2⟩

set_option maxRecDepth 100000 in
set_option maxHeartbeats 4000000 in
theorem rtoday_no (x : D7) (ref z : Int) (hk : ¬ okT ref z) (w : World) :
    Calls Tryd.prog 25 #[.agg #[.int .i64 x.y, .int .i64 x.m, .int .i64 x.d, .int .i64 x.h, .int .i64 x.i, .int .i64 x.s, .int .i64 x.c], .int .i64 ref, .int .i64 z] w fun e w' => e = .returned (.tuple #[.int .i64 0, .int .i64 2]) ∧ Below w.heap.size w w' := by
  have HD := Lib.hid (fun W => rdates_no ref z hk W)
  clear hk
  go_enter Tryd.func25, Tryd.ntmps25
  go_wp2_with fail
  refine (HD.out _).mono ?_
  rintro e w1 ⟨rfl, hb1⟩
  have hb := bl_trans (below_alloc w _) hb1
  unfold zeroDate
  go_wp2
  go_ret2
  exact ⟨rfl, bl_trans hb (below_alloc _ _)⟩
theorem rtoday_any (x : D7) (ref z : Int) (w : World) :
    Calls Tryd.prog 25 #[.agg #[.int .i64 x.y, .int .i64 x.m, .int .i64 x.d, .int .i64 x.h, .int .i64 x.i, .int .i64 x.s, .int .i64 x.c], .int .i64 ref, .int .i64 z] w fun e w' => e = .returned (.tuple #[.int .i64 (dyB x ref z).1, .int .i64 (dyB x ref z).2]) ∧ Below w.heap.size w w' := by
  by_cases hk : okT ref z
  · exact rtoday_yes x ref z hk w
  · have e : dyB x ref z = (0, 2) := by unfold dyB; rw [if_neg hk]
    rw [e]; exact rtoday_no x ref z hk w
end Go.Proofs.YtpbfgafkoodeoaaDoor

namespace Go.Proofs.YtpbfgafkoodeoaaDoor
open Go.RowKit

variable {s : ByteArray} {ref year z : Int} {first : Bool}
theorem recT_big (h : 20000 < s.size) : recT s ref year z first = (0, 0, 20) := by unfold recT; rw [if_pos h]
theorem recT_1 (h : s.size ≤ 20000) (h1 : (fu7 s).bad = false) : recT s ref year z first = (recV ((fuD s).mV (fuZ s z)) ((fuD s).mE (fuZ s z)), recP ((fuD s).mE (fuZ s z)) (fu8 s).pos, (fuD s).mE (fuZ s z)) := by
  have n1 : fuE s z ≠ 20 := fun e => by rw [(fu_20 s z).1.1 e] at h1; cases h1
  unfold recT
  rw [if_neg (by omega), if_pos n1]
  unfold fuV fuE
  rw [fu_bad, h1]
  rfl
theorem recT_2 (h : s.size ≤ 20000) (h1 : (fu7 s).bad = true) (h2 : (sy6 s).bad = false) (hy : year ≠ 0) : recT s ref year z first = (recV ((syD s year).mV z) ((syD s year).mE z), recP ((syD s year).mE z) (sy6 s).pos, (syD s year).mE z) := by
  have n1 : fuE s z = 20 := (fu_20 s z).1.2 h1
  have n2 : syE s ref year z ≠ 20 := fun e => by rw [(sy_20 s ref year z).1.1 e] at h2; cases h2
  unfold recT
  rw [if_neg (by omega), if_neg (by simpa using n1), if_pos n2]
  unfold syV syE
  rw [h2, if_neg hy, if_neg hy]
  rfl
theorem recT_2z (h : s.size ≤ 20000) (h1 : (fu7 s).bad = true) (h2 : (sy6 s).bad = false) (hy : year = 0) : recT s ref year z first = (recV (neB (syD s 0) ref z).1 (neB (syD s 0) ref z).2, recP (neB (syD s 0) ref z).2 (sy6 s).pos, (neB (syD s 0) ref z).2) := by
  have n1 : fuE s z = 20 := (fu_20 s z).1.2 h1
  have n2 : syE s ref year z ≠ 20 := fun e => by rw [(sy_20 s ref year z).1.1 e] at h2; cases h2
  unfold recT
  rw [if_neg (by omega), if_neg (by simpa using n1), if_pos n2]
  unfold syV syE
  rw [h2, if_pos hy, if_pos hy]
  rfl
theorem recT_3 (h : s.size ≤ 20000) (h1 : (fu7 s).bad = true) (h2 : (sy6 s).bad = true) (h3 : (sl7 s).bad = false) (hf : slF s = true) : recT s ref year z first = (recV ((rlD s first).mV z) ((rlD s first).mE z), recP ((rlD s first).mE z) (sl7 s).pos, (rlD s first).mE z) := by
  have n1 : fuE s z = 20 := (fu_20 s z).1.2 h1
  have n2 : syE s ref year z = 20 := (sy_20 s ref year z).1.2 h2
  have n3 : slE s z first ≠ 20 := fun e => by rw [(sl_20 s z first).1.1 e] at h3; cases h3
  have ha : slA s ≤ 12 ∨ slB s ≤ 12 := by
    unfold slF at hf
    simpa using hf
  rw [rlD_eq h3 ha]
  unfold recT
  rw [if_neg (by omega), if_neg (by simpa using n1), if_neg (by simpa using n2), if_pos n3]
  unfold slV slE
  rw [h3]
  rfl
theorem recT_3n (h : s.size ≤ 20000) (h1 : (fu7 s).bad = true) (h2 : (sy6 s).bad = true) (h3 : (sl7 s).bad = false) (hf : slF s = false) : recT s ref year z first = (0, 0, 10) := by
  have n1 : fuE s z = 20 := (fu_20 s z).1.2 h1
  have n2 : syE s ref year z = 20 := (sy_20 s ref year z).1.2 h2
  have n3 : slE s z first ≠ 20 := fun e => by rw [(sl_20 s z first).1.1 e] at h3; cases h3
  have ha : ¬ (slA s ≤ 12 ∨ slB s ≤ 12) := by
    unfold slF at hf
    simpa using hf
  have e := slE_nofine (z := z) (first := first) h3 ha
  unfold recT
  rw [if_neg (by omega), if_neg (by simpa using n1), if_neg (by simpa using n2), if_pos n3, e]
  rfl
theorem recT_4 (h : s.size ≤ 20000) (h1 : (fu7 s).bad = true) (h2 : (sy6 s).bad = true) (h3 : (sl7 s).bad = true) (h4 : epE s = 0) : recT s ref year z first = (epV s, (epN s : Int), 0) := by
  have n1 : fuE s z = 20 := (fu_20 s z).1.2 h1
  have n2 : syE s ref year z = 20 := (sy_20 s ref year z).1.2 h2
  have n3 : slE s z first = 20 := (sl_20 s z first).1.2 h3
  unfold recT
  rw [if_neg (by omega), if_neg (by simpa using n1), if_neg (by simpa using n2), if_neg (by simpa using n3), if_pos (by omega), h4]
  rfl
theorem ep_two (s : ByteArray) : epE s = 0 ∨ epE s = 20 := by unfold epE; split; exact .inl rfl; split; exact .inl rfl; exact .inr rfl
theorem recT_5 (h : s.size ≤ 20000) (h1 : (fu7 s).bad = true) (h2 : (sy6 s).bad = true) (h3 : (sl7 s).bad = true) (h4 : epE s = 20) (h5 : (ckC s).bad = false) : recT s ref year z first = (recV (dyB (ckD s) ref z).1 (dyB (ckD s) ref z).2, recP (dyB (ckD s) ref z).2 (ckC s).pos, (dyB (ckD s) ref z).2) := by
  have n1 : fuE s z = 20 := (fu_20 s z).1.2 h1
  have n2 : syE s ref year z = 20 := (sy_20 s ref year z).1.2 h2
  have n3 : slE s z first = 20 := (sl_20 s z first).1.2 h3
  have n5 : ckE s ref z ≠ 20 := fun e => by rw [(ck_20 s ref z).1.1 e] at h5; cases h5
  unfold recT
  rw [if_neg (by omega), if_neg (by simpa using n1), if_neg (by simpa using n2), if_neg (by simpa using n3), if_neg (by simpa using h4), if_pos n5]
  unfold ckV ckE
  rw [h5]
  rfl
theorem recT_6 (h : s.size ≤ 20000) (h1 : (fu7 s).bad = true) (h2 : (sy6 s).bad = true) (h3 : (sl7 s).bad = true) (h4 : epE s = 20) (h5 : (ckC s).bad = true) : recT s ref year z first = (0, 0, 20) := by
  have n1 : fuE s z = 20 := (fu_20 s z).1.2 h1
  have n2 : syE s ref year z = 20 := (sy_20 s ref year z).1.2 h2
  have n3 : slE s z first = 20 := (sl_20 s z first).1.2 h3
  have n5 : ckE s ref z = 20 := (ck_20 s ref z).1.2 h5
  unfold recT
  rw [if_neg (by omega), if_neg (by simpa using n1), if_neg (by simpa using n2), if_neg (by simpa using n3), if_neg (by simpa using h4), if_neg (by simpa using n5)]
theorem rt_rec {a b c : Int} {t : Int × Int × Int} (h : t = (a, b, c)) : Ending.returned (.tuple #[.int .i64 a, .int .i64 b, .int .i64 c]) = .returned (.tuple #[.int .i64 t.1, .int .i64 t.2.1, .int .i64 t.2.2]) := by rw [h]

set_option maxRecDepth 100000 in
set_option linter.unusedSimpArgs false in
set_option linter.unusedVariables false in
set_option maxHeartbeats 16000000 in
theorem rrec_big (s : ByteArray) (ref year z : Int) (first : Bool) (hs : 20000 < s.size) (w : World) :
    Calls Tryd.prog 9 #[.string s, .int .i64 ref, .int .i64 year, .int .i64 z, .bool first] w fun e w' => e = .returned (.tuple #[.int .i64 (recT s ref year z first).1, .int .i64 (recT s ref year z first).2.1, .int .i64 (recT s ref year z first).2.2]) ∧ Below w.heap.size w w' := by
  have hR : recT s ref year z first = _ := recT_big hs
  have hsz : (20000 : Int) < (s.size : Int) := by omega
  have HR := Lib.hid hR
  clear hR
  go_enter Tryd.func9, Tryd.ntmps9
  go_wp2
  exact bodyPost_ret (v := .tuple #[.int .i64 0, .int .i64 0, .int .i64 20]) (by simp [results, Tryd.results9, go_sem]) rfl ⟨rt_rec HR.out, Below.refl _ _⟩

set_option maxRecDepth 100000 in
set_option linter.unusedSimpArgs false in
set_option linter.unusedVariables false in
set_option maxHeartbeats 16000000 in
theorem rrec_1 (s : ByteArray) (ref year z : Int) (first : Bool) (hs : s.size ≤ 20000) (h1 : (fu7 s).bad = false) (w : World) :
    Calls Tryd.prog 9 #[.string s, .int .i64 ref, .int .i64 year, .int .i64 z, .bool first] w fun e w' => e = .returned (.tuple #[.int .i64 (recT s ref year z first).1, .int .i64 (recT s ref year z first).2.1, .int .i64 (recT s ref year z first).2.2]) ∧ Below w.heap.size w w' := by
  have hR : recT s ref year z first = _ := recT_1 hs h1
  have h1' := fun W => riso_ok s z hs h1 W
  obtain ⟨x1, hx1⟩ : ∃ x, fuD s = x := ⟨_, rfl⟩
  obtain ⟨z1, hz1⟩ : ∃ x, fuZ s z = x := ⟨_, rfl⟩
  obtain ⟨p1, hp1⟩ : ∃ x, (fu8 s).pos = x := ⟨_, rfl⟩
  rw [hx1, hz1, hp1] at h1'
  rw [hx1, hz1, hp1] at hR
  unfold D7.ag at h1'
  have H1 := Lib.hid h1'
  clear h1' hx1 hz1 hp1
  have hm := fun W => rmil_any x1 z1 W
  obtain ⟨v, hv⟩ : ∃ v, (x1).mV z1 = v := ⟨_, rfl⟩
  obtain ⟨er, he⟩ : ∃ v, (x1).mE z1 = v := ⟨_, rfl⟩
  rw [hv, he] at hm
  have HM := Lib.hid hm
  clear hm
  rw [hv, he] at hR
  clear hv he
  have HF := Lib.hid (fun W => rfinish_any v er p1 W)
  have hsz : ¬ (20000 : Int) < (s.size : Int) := by omega
  have HR := Lib.hid hR
  clear hR
  clear h1 hs
  go_enter Tryd.func9, Tryd.ntmps9
  go_wp2_with fail
  refine (H1.out _).mono ?_
  rintro e w1 ⟨rfl, hb1⟩
  have B1 := Lib.hid (hb1)
  clear hb1
  go_wp2_with fail
  refine (HM.out _).mono ?_
  rintro e w2 ⟨rfl, hb2⟩
  have B2 := Lib.hid (bl_trans (bl_trans B1.out (below_alloc _ _)) hb2)
  clear hb2
  go_wp2_with fail
  refine (HF.out _).mono ?_
  rintro e w' ⟨rfl, rfl⟩
  go_wp2
  exact bodyPost_ret (v := .tuple #[.int .i64 (recV v er), .int .i64 (recP er p1), .int .i64 er]) (by simp [results, Tryd.results9, go_sem]) rfl ⟨rt_rec HR.out, B2.out⟩

set_option maxRecDepth 100000 in
set_option linter.unusedSimpArgs false in
set_option linter.unusedVariables false in
set_option maxHeartbeats 16000000 in
theorem rrec_2 (s : ByteArray) (ref year z : Int) (first : Bool) (hs : s.size ≤ 20000) (h1 : (fu7 s).bad = true) (h2 : (sy6 s).bad = false) (hy : year ≠ 0) (w : World) :
    Calls Tryd.prog 9 #[.string s, .int .i64 ref, .int .i64 year, .int .i64 z, .bool first] w fun e w' => e = .returned (.tuple #[.int .i64 (recT s ref year z first).1, .int .i64 (recT s ref year z first).2.1, .int .i64 (recT s ref year z first).2.2]) ∧ Below w.heap.size w w' := by
  have hR : recT s ref year z first = _ := recT_2 hs h1 h2 hy
  have h1' := fun W => riso_bad s z hs h1 W
  obtain ⟨x1, hx1⟩ : ∃ x, fuD s = x := ⟨_, rfl⟩
  rw [hx1] at h1'
  unfold D7.ag at h1'
  have H1 := Lib.hid h1'
  clear h1' hx1
  have h2' : ∀ W, Calls Tryd.prog 20 #[.string s] W fun e w' => e = .returned (.tuple #[.agg #[.int .i64 (syD s 0).y, .int .i64 (syD s 0).m, .int .i64 (syD s 0).d, .int .i64 (syD s 0).h, .int .i64 (syD s 0).i, .int .i64 (syD s 0).s, .int .i64 (syD s 0).c], .int .i64 ((sy6 s).pos : Int), .bool true]) ∧ Below W.heap.size W w' := fun W => (rsyslog_any s hs W).mono fun e w' ⟨⟨x, k, b, he, hb, hg⟩, hw⟩ => ⟨by
    rw [h2] at hb
    obtain ⟨rfl, rfl⟩ := hg hb
    rw [he, hb]
    rfl, hw⟩
  obtain ⟨p2, hp2⟩ : ∃ x, (sy6 s).pos = x := ⟨_, rfl⟩
  rw [hp2] at h2' hR
  have hx2 : syD s year = ⟨year, (syD s 0).m, (syD s 0).d, (syD s 0).h, (syD s 0).i, (syD s 0).s, (syD s 0).c⟩ := rfl
  obtain ⟨x2, hx3⟩ : ∃ x, syD s 0 = x := ⟨_, rfl⟩
  rw [hx3] at h2' hx2
  rw [hx2] at hR
  have hm := fun W => rmil_any ⟨year, x2.m, x2.d, x2.h, x2.i, x2.s, x2.c⟩ z W
  obtain ⟨v, hv⟩ : ∃ v, (⟨year, x2.m, x2.d, x2.h, x2.i, x2.s, x2.c⟩ : D7).mV z = v := ⟨_, rfl⟩
  obtain ⟨er, he⟩ : ∃ v, (⟨year, x2.m, x2.d, x2.h, x2.i, x2.s, x2.c⟩ : D7).mE z = v := ⟨_, rfl⟩
  rw [hv, he] at hm
  have HM := Lib.hid hm
  clear hm
  rw [hv, he] at hR
  clear hv he
  have H2 := Lib.hid h2'
  have HF := Lib.hid (fun W => rfinish_any v er p2 W)
  have hyy : (year != 0) = true := by rw [bne_iff_ne]; exact hy
  have hsz : ¬ (20000 : Int) < (s.size : Int) := by omega
  have HR := Lib.hid hR
  clear hR
  clear h1 h2 hs hy hx2 hx3 hp2 h2'
  go_enter Tryd.func9, Tryd.ntmps9
  go_wp2_with fail
  refine (H1.out _).mono ?_
  rintro e w1 ⟨rfl, hb1⟩
  have B1 := Lib.hid (hb1)
  clear hb1
  go_wp2_with fail
  refine (H2.out _).mono ?_
  rintro e w2 ⟨rfl, hb2⟩
  have B2 := Lib.hid (bl_trans (bl_trans B1.out (below_alloc _ _)) hb2)
  clear hb2
  go_upto_region 11 with (fail)
  go_wp2_with fail
  refine (HM.out _).mono ?_
  rintro e w3 ⟨rfl, hb3⟩
  have B3 := Lib.hid (bl_trans (bl_trans B2.out (below_alloc _ _)) hb3)
  clear hb3
  go_wp2_with fail
  refine (HF.out _).mono ?_
  rintro e w' ⟨rfl, rfl⟩
  go_wp2
  exact bodyPost_ret (v := .tuple #[.int .i64 (recV v er), .int .i64 (recP er p2), .int .i64 er]) (by simp [results, Tryd.results9, go_sem]) rfl ⟨rt_rec HR.out, B3.out⟩

set_option maxRecDepth 100000 in
set_option linter.unusedSimpArgs false in
set_option linter.unusedVariables false in
set_option maxHeartbeats 16000000 in
theorem rrec_2z (s : ByteArray) (ref year z : Int) (first : Bool) (hs : s.size ≤ 20000) (h1 : (fu7 s).bad = true) (h2 : (sy6 s).bad = false) (hy : year = 0) (w : World) :
    Calls Tryd.prog 9 #[.string s, .int .i64 ref, .int .i64 year, .int .i64 z, .bool first] w fun e w' => e = .returned (.tuple #[.int .i64 (recT s ref year z first).1, .int .i64 (recT s ref year z first).2.1, .int .i64 (recT s ref year z first).2.2]) ∧ Below w.heap.size w w' := by
  have hR : recT s ref year z first = _ := recT_2z hs h1 h2 hy
  have h1' := fun W => riso_bad s z hs h1 W
  obtain ⟨x1, hx1⟩ : ∃ x, fuD s = x := ⟨_, rfl⟩
  rw [hx1] at h1'
  unfold D7.ag at h1'
  have H1 := Lib.hid h1'
  clear h1' hx1
  have h2' : ∀ W, Calls Tryd.prog 20 #[.string s] W fun e w' => e = .returned (.tuple #[.agg #[.int .i64 (syD s 0).y, .int .i64 (syD s 0).m, .int .i64 (syD s 0).d, .int .i64 (syD s 0).h, .int .i64 (syD s 0).i, .int .i64 (syD s 0).s, .int .i64 (syD s 0).c], .int .i64 ((sy6 s).pos : Int), .bool true]) ∧ Below W.heap.size W w' := fun W => (rsyslog_any s hs W).mono fun e w' ⟨⟨x, k, b, he, hb, hg⟩, hw⟩ => ⟨by
    rw [h2] at hb
    obtain ⟨rfl, rfl⟩ := hg hb
    rw [he, hb]
    rfl, hw⟩
  obtain ⟨p2, hp2⟩ : ∃ x, (sy6 s).pos = x := ⟨_, rfl⟩
  rw [hp2] at h2' hR
  obtain ⟨x2, hx3⟩ : ∃ x, syD s 0 = x := ⟨_, rfl⟩
  rw [hx3] at h2' hR
  have hm := fun W => rnearest_any x2 ref z W
  obtain ⟨v, hv⟩ : ∃ v, (neB x2 ref z).1 = v := ⟨_, rfl⟩
  obtain ⟨er, he⟩ : ∃ v, (neB x2 ref z).2 = v := ⟨_, rfl⟩
  rw [hv, he] at hm hR
  have HM := Lib.hid hm
  have H2 := Lib.hid h2'
  have HF := Lib.hid (fun W => rfinish_any v er p2 W)
  subst hy
  have hsz : ¬ (20000 : Int) < (s.size : Int) := by omega
  have HR := Lib.hid hR
  clear hR
  clear h1 h2 hs hx3 hp2 h2' hm hv he
  go_enter Tryd.func9, Tryd.ntmps9
  go_wp2_with fail
  refine (H1.out _).mono ?_
  rintro e w1 ⟨rfl, hb1⟩
  have B1 := Lib.hid (hb1)
  clear hb1
  go_wp2_with fail
  refine (H2.out _).mono ?_
  rintro e w2 ⟨rfl, hb2⟩
  have B2 := Lib.hid (bl_trans (bl_trans B1.out (below_alloc _ _)) hb2)
  clear hb2
  go_wp2_with fail
  refine (HM.out _).mono ?_
  rintro e w3 ⟨rfl, hb3⟩
  have B3 := Lib.hid (bl_trans (bl_trans B2.out (below_alloc _ _)) hb3)
  clear hb3
  go_wp2_with fail
  refine (HF.out _).mono ?_
  rintro e w' ⟨rfl, rfl⟩
  go_wp2
  exact bodyPost_ret (v := .tuple #[.int .i64 (recV v er), .int .i64 (recP er p2), .int .i64 er]) (by simp [results, Tryd.results9, go_sem]) rfl ⟨rt_rec HR.out, B3.out⟩

set_option maxRecDepth 100000 in
set_option linter.unusedSimpArgs false in
set_option linter.unusedVariables false in
set_option maxHeartbeats 16000000 in
theorem rrec_3 (s : ByteArray) (ref year z : Int) (first : Bool) (hs : s.size ≤ 20000) (h1 : (fu7 s).bad = true) (h2 : (sy6 s).bad = true) (h3 : (sl7 s).bad = false) (hf : slF s = true) (w : World) :
    Calls Tryd.prog 9 #[.string s, .int .i64 ref, .int .i64 year, .int .i64 z, .bool first] w fun e w' => e = .returned (.tuple #[.int .i64 (recT s ref year z first).1, .int .i64 (recT s ref year z first).2.1, .int .i64 (recT s ref year z first).2.2]) ∧ Below w.heap.size w w' := by
  have hR : recT s ref year z first = _ := recT_3 hs h1 h2 h3 hf
  have h1' := fun W => riso_bad s z hs h1 W
  obtain ⟨x1, hx1⟩ : ∃ x, fuD s = x := ⟨_, rfl⟩
  rw [hx1] at h1'
  unfold D7.ag at h1'
  have H1 := Lib.hid h1'
  clear h1' hx1
  have H2 := Lib.hid (show ∀ W, Calls Tryd.prog 20 #[.string s] W fun e w' => (∃ (x : D7) (k : Nat), e = .returned (.tuple #[.agg #[.int .i64 x.y, .int .i64 x.m, .int .i64 x.d, .int .i64 x.h, .int .i64 x.i, .int .i64 x.s, .int .i64 x.c], .int .i64 (k : Int), .bool false])) ∧ Below W.heap.size W w' from fun W => (rsyslog_any s hs W).mono fun e w' ⟨⟨x, k, b, he, hb, _⟩, hw⟩ => ⟨⟨x, k, by rw [he, hb, h2]; rfl⟩, hw⟩)
  have h3' := fun W => rslashes_any s first hs W
  obtain ⟨x3, hx3⟩ : ∃ x, rlD s first = x := ⟨_, rfl⟩
  obtain ⟨p3, hp3⟩ : ∃ x, (sl7 s).pos = x := ⟨_, rfl⟩
  rw [hx3, hp3, h3, hf] at h3'
  unfold D7.ag at h3'
  simp only [Bool.not_true, Bool.not_false] at h3'
  have H3 := Lib.hid h3'
  rw [hx3, hp3] at hR
  have hm := fun W => rmil_any x3 z W
  obtain ⟨v, hv⟩ : ∃ v, (x3).mV z = v := ⟨_, rfl⟩
  obtain ⟨er, he⟩ : ∃ v, (x3).mE z = v := ⟨_, rfl⟩
  rw [hv, he] at hm
  have HM := Lib.hid hm
  clear hm
  rw [hv, he] at hR
  have HF := Lib.hid (fun W => rfinish_any v er p3 W)
  have hsz : ¬ (20000 : Int) < (s.size : Int) := by omega
  have HR := Lib.hid hR
  clear hR
  clear h1 h2 h3 hf hs hx3 hp3 h3' hv he
  go_enter Tryd.func9, Tryd.ntmps9
  go_wp2_with fail
  refine (H1.out _).mono ?_
  rintro e w1 ⟨rfl, hb1⟩
  have B1 := Lib.hid (hb1)
  clear hb1
  go_wp2_with fail
  refine (H2.out _).mono ?_
  rintro e w2 ⟨⟨x2, k2, rfl⟩, hb2⟩
  have B2 := Lib.hid (bl_trans (bl_trans B1.out (below_alloc _ _)) hb2)
  clear hb2
  go_wp2_with fail
  refine (H3.out _).mono ?_
  rintro e w3 ⟨rfl, hb3⟩
  have B3 := Lib.hid (bl_trans (bl_trans B2.out (below_alloc _ _)) hb3)
  clear hb3
  go_wp2_with fail
  refine (HM.out _).mono ?_
  rintro e w4 ⟨rfl, hb4⟩
  have B4 := Lib.hid (bl_trans (bl_trans B3.out (below_alloc _ _)) hb4)
  clear hb4
  go_wp2_with fail
  refine (HF.out _).mono ?_
  rintro e w' ⟨rfl, rfl⟩
  go_wp2
  exact bodyPost_ret (v := .tuple #[.int .i64 (recV v er), .int .i64 (recP er p3), .int .i64 er]) (by simp [results, Tryd.results9, go_sem]) rfl ⟨rt_rec HR.out, B4.out⟩

set_option maxRecDepth 100000 in
set_option linter.unusedSimpArgs false in
set_option linter.unusedVariables false in
set_option maxHeartbeats 16000000 in
theorem rrec_3n (s : ByteArray) (ref year z : Int) (first : Bool) (hs : s.size ≤ 20000) (h1 : (fu7 s).bad = true) (h2 : (sy6 s).bad = true) (h3 : (sl7 s).bad = false) (hf : slF s = false) (w : World) :
    Calls Tryd.prog 9 #[.string s, .int .i64 ref, .int .i64 year, .int .i64 z, .bool first] w fun e w' => e = .returned (.tuple #[.int .i64 (recT s ref year z first).1, .int .i64 (recT s ref year z first).2.1, .int .i64 (recT s ref year z first).2.2]) ∧ Below w.heap.size w w' := by
  have hR : recT s ref year z first = _ := recT_3n hs h1 h2 h3 hf
  have h1' := fun W => riso_bad s z hs h1 W
  obtain ⟨x1, hx1⟩ : ∃ x, fuD s = x := ⟨_, rfl⟩
  rw [hx1] at h1'
  unfold D7.ag at h1'
  have H1 := Lib.hid h1'
  clear h1' hx1
  have H2 := Lib.hid (show ∀ W, Calls Tryd.prog 20 #[.string s] W fun e w' => (∃ (x : D7) (k : Nat), e = .returned (.tuple #[.agg #[.int .i64 x.y, .int .i64 x.m, .int .i64 x.d, .int .i64 x.h, .int .i64 x.i, .int .i64 x.s, .int .i64 x.c], .int .i64 (k : Int), .bool false])) ∧ Below W.heap.size W w' from fun W => (rsyslog_any s hs W).mono fun e w' ⟨⟨x, k, b, he, hb, _⟩, hw⟩ => ⟨⟨x, k, by rw [he, hb, h2]; rfl⟩, hw⟩)
  have h3' := fun W => rslashes_any s first hs W
  obtain ⟨x3, hx3⟩ : ∃ x, rlD s first = x := ⟨_, rfl⟩
  obtain ⟨p3, hp3⟩ : ∃ x, (sl7 s).pos = x := ⟨_, rfl⟩
  rw [hx3, hp3, h3, hf] at h3'
  unfold D7.ag at h3'
  simp only [Bool.not_true, Bool.not_false] at h3'
  have H3 := Lib.hid h3'
  have hsz : ¬ (20000 : Int) < (s.size : Int) := by omega
  have HR := Lib.hid hR
  clear hR
  clear h1 h2 h3 hf hs hx3 hp3 h3'
  go_enter Tryd.func9, Tryd.ntmps9
  go_wp2_with fail
  refine (H1.out _).mono ?_
  rintro e w1 ⟨rfl, hb1⟩
  have B1 := Lib.hid (hb1)
  clear hb1
  go_wp2_with fail
  refine (H2.out _).mono ?_
  rintro e w2 ⟨⟨x2, k2, rfl⟩, hb2⟩
  have B2 := Lib.hid (bl_trans (bl_trans B1.out (below_alloc _ _)) hb2)
  clear hb2
  go_wp2_with fail
  refine (H3.out _).mono ?_
  rintro e w3 ⟨rfl, hb3⟩
  have B3 := Lib.hid (bl_trans (bl_trans B2.out (below_alloc _ _)) hb3)
  clear hb3
  go_wp2
  exact bodyPost_ret (v := .tuple #[.int .i64 0, .int .i64 0, .int .i64 10]) (by simp [results, Tryd.results9, go_sem]) rfl ⟨rt_rec HR.out, bl_trans B3.out (below_alloc _ _)⟩

set_option maxRecDepth 100000 in
set_option linter.unusedSimpArgs false in
set_option linter.unusedVariables false in
set_option maxHeartbeats 16000000 in
theorem rrec_4 (s : ByteArray) (ref year z : Int) (first : Bool) (hs : s.size ≤ 20000) (h1 : (fu7 s).bad = true) (h2 : (sy6 s).bad = true) (h3 : (sl7 s).bad = true) (h4 : epE s = 0) (w : World) :
    Calls Tryd.prog 9 #[.string s, .int .i64 ref, .int .i64 year, .int .i64 z, .bool first] w fun e w' => e = .returned (.tuple #[.int .i64 (recT s ref year z first).1, .int .i64 (recT s ref year z first).2.1, .int .i64 (recT s ref year z first).2.2]) ∧ Below w.heap.size w w' := by
  have hR : recT s ref year z first = _ := recT_4 hs h1 h2 h3 h4
  have h1' := fun W => riso_bad s z hs h1 W
  obtain ⟨x1, hx1⟩ : ∃ x, fuD s = x := ⟨_, rfl⟩
  rw [hx1] at h1'
  unfold D7.ag at h1'
  have H1 := Lib.hid h1'
  clear h1' hx1
  have H2 := Lib.hid (show ∀ W, Calls Tryd.prog 20 #[.string s] W fun e w' => (∃ (x : D7) (k : Nat), e = .returned (.tuple #[.agg #[.int .i64 x.y, .int .i64 x.m, .int .i64 x.d, .int .i64 x.h, .int .i64 x.i, .int .i64 x.s, .int .i64 x.c], .int .i64 (k : Int), .bool false])) ∧ Below W.heap.size W w' from fun W => (rsyslog_any s hs W).mono fun e w' ⟨⟨x, k, b, he, hb, _⟩, hw⟩ => ⟨⟨x, k, by rw [he, hb, h2]; rfl⟩, hw⟩)
  have h3' := fun W => rslashes_any s first hs W
  obtain ⟨x3, hx3⟩ : ∃ x, rlD s first = x := ⟨_, rfl⟩
  obtain ⟨p3, hp3⟩ : ∃ x, (sl7 s).pos = x := ⟨_, rfl⟩
  obtain ⟨f3, hf3⟩ : ∃ x, slF s = x := ⟨_, rfl⟩
  rw [hx3, hp3, h3, hf3] at h3'
  unfold D7.ag at h3'
  simp only [Bool.not_true] at h3'
  have H3 := Lib.hid h3'
  clear hx3 hp3 hf3 h3'
  have h4' := fun W => rsec_any s hs W
  rw [if_pos h4, if_pos h4, decide_eq_true h4] at h4'
  obtain ⟨v, hv⟩ : ∃ x, epV s = x := ⟨_, rfl⟩
  obtain ⟨p4, hp4⟩ : ∃ x, epN s = x := ⟨_, rfl⟩
  rw [hv, hp4] at h4' hR
  have H4 := Lib.hid h4'
  have hsz : ¬ (20000 : Int) < (s.size : Int) := by omega
  have HR := Lib.hid hR
  clear hR
  clear h1 h2 h3 h4 hs h4' hv hp4
  go_enter Tryd.func9, Tryd.ntmps9
  go_wp2_with fail
  refine (H1.out _).mono ?_
  rintro e w1 ⟨rfl, hb1⟩
  have B1 := Lib.hid (hb1)
  clear hb1
  go_wp2_with fail
  refine (H2.out _).mono ?_
  rintro e w2 ⟨⟨x2, k2, rfl⟩, hb2⟩
  have B2 := Lib.hid (bl_trans (bl_trans B1.out (below_alloc _ _)) hb2)
  clear hb2
  go_wp2_with fail
  refine (H3.out _).mono ?_
  rintro e w3 ⟨rfl, hb3⟩
  have B3 := Lib.hid (bl_trans (bl_trans B2.out (below_alloc _ _)) hb3)
  clear hb3
  go_wp2_with fail
  refine (H4.out _).mono ?_
  rintro e w' ⟨rfl, rfl⟩
  go_wp2
  exact bodyPost_ret (v := .tuple #[.int .i64 v, .int .i64 (p4 : Int), .int .i64 0]) (by simp [results, Tryd.results9, go_sem]) rfl ⟨rt_rec HR.out, bl_trans B3.out (below_alloc _ _)⟩

set_option maxRecDepth 100000 in
set_option linter.unusedSimpArgs false in
set_option linter.unusedVariables false in
set_option maxHeartbeats 16000000 in
theorem rrec_5 (s : ByteArray) (ref year z : Int) (first : Bool) (hs : s.size ≤ 20000) (h1 : (fu7 s).bad = true) (h2 : (sy6 s).bad = true) (h3 : (sl7 s).bad = true) (h4 : epE s = 20) (h5 : (ckC s).bad = false) (w : World) :
    Calls Tryd.prog 9 #[.string s, .int .i64 ref, .int .i64 year, .int .i64 z, .bool first] w fun e w' => e = .returned (.tuple #[.int .i64 (recT s ref year z first).1, .int .i64 (recT s ref year z first).2.1, .int .i64 (recT s ref year z first).2.2]) ∧ Below w.heap.size w w' := by
  have hR : recT s ref year z first = _ := recT_5 hs h1 h2 h3 h4 h5
  have h1' := fun W => riso_bad s z hs h1 W
  obtain ⟨x1, hx1⟩ : ∃ x, fuD s = x := ⟨_, rfl⟩
  rw [hx1] at h1'
  unfold D7.ag at h1'
  have H1 := Lib.hid h1'
  clear h1' hx1
  have H2 := Lib.hid (show ∀ W, Calls Tryd.prog 20 #[.string s] W fun e w' => (∃ (x : D7) (k : Nat), e = .returned (.tuple #[.agg #[.int .i64 x.y, .int .i64 x.m, .int .i64 x.d, .int .i64 x.h, .int .i64 x.i, .int .i64 x.s, .int .i64 x.c], .int .i64 (k : Int), .bool false])) ∧ Below W.heap.size W w' from fun W => (rsyslog_any s hs W).mono fun e w' ⟨⟨x, k, b, he, hb, _⟩, hw⟩ => ⟨⟨x, k, by rw [he, hb, h2]; rfl⟩, hw⟩)
  have h3' := fun W => rslashes_any s first hs W
  obtain ⟨x3, hx3⟩ : ∃ x, rlD s first = x := ⟨_, rfl⟩
  obtain ⟨p3, hp3⟩ : ∃ x, (sl7 s).pos = x := ⟨_, rfl⟩
  obtain ⟨f3, hf3⟩ : ∃ x, slF s = x := ⟨_, rfl⟩
  rw [hx3, hp3, h3, hf3] at h3'
  unfold D7.ag at h3'
  simp only [Bool.not_true] at h3'
  have H3 := Lib.hid h3'
  clear hx3 hp3 hf3 h3'
  have h4' := fun W => rsec_any s hs W
  rw [if_neg (by omega), if_neg (by omega), decide_eq_false (by omega)] at h4'
  have H4 := Lib.hid h4'
  have h5' : ∀ W, Calls Tryd.prog 24 #[.agg #[.string s, .int .i64 0, .bool true], .agg #[.int .i64 0, .int .i64 0, .int .i64 0, .int .i64 0, .int .i64 0, .int .i64 0, .int .i64 0]] W fun e w' => e = .returned (.tuple #[.agg #[.string s, .int .i64 ((ckC s).pos : Int), .bool (!(ckC s).bad)], .agg #[.int .i64 0, .int .i64 0, .int .i64 0, .int .i64 (ckD s).h, .int .i64 (ckD s).i, .int .i64 (ckD s).s, .int .i64 (ckD s).c]]) ∧ Below W.heap.size W w' := fun W => rclk_any s ⟨0, false⟩ 0 0 0 (Nat.zero_le _) hs W
  obtain ⟨p5, hp5⟩ : ∃ x, (ckC s).pos = x := ⟨_, rfl⟩
  have hx0 : (ckD s).y = 0 ∧ (ckD s).m = 0 ∧ (ckD s).d = 0 := ⟨rfl, rfl, rfl⟩
  obtain ⟨x5, hx5⟩ : ∃ x, ckD s = x := ⟨_, rfl⟩
  rw [hx5] at h5' hR hx0
  rw [hp5, h5] at h5'
  rw [hp5] at hR
  simp only [Bool.not_false] at h5'
  have H5 := Lib.hid h5'
  have hm := fun W => rtoday_any x5 ref z W
  rw [hx0.1, hx0.2.1, hx0.2.2] at hm
  obtain ⟨v, hv⟩ : ∃ v, (dyB x5 ref z).1 = v := ⟨_, rfl⟩
  obtain ⟨er, he⟩ : ∃ v, (dyB x5 ref z).2 = v := ⟨_, rfl⟩
  rw [hv, he] at hm hR
  have HM := Lib.hid hm
  have HF := Lib.hid (fun W => rfinish_any v er p5 W)
  have hsz : ¬ (20000 : Int) < (s.size : Int) := by omega
  have HR := Lib.hid hR
  clear hR
  clear h1 h2 h3 h4 h5 hs h4' h5' hx0 hx5 hp5 hm hv he
  go_enter Tryd.func9, Tryd.ntmps9
  go_wp2_with fail
  refine (H1.out _).mono ?_
  rintro e w1 ⟨rfl, hb1⟩
  have B1 := Lib.hid (hb1)
  clear hb1
  go_wp2_with fail
  refine (H2.out _).mono ?_
  rintro e w2 ⟨⟨x2, k2, rfl⟩, hb2⟩
  have B2 := Lib.hid (bl_trans (bl_trans B1.out (below_alloc _ _)) hb2)
  clear hb2
  go_wp2_with fail
  refine (H3.out _).mono ?_
  rintro e w3 ⟨rfl, hb3⟩
  have B3 := Lib.hid (bl_trans (bl_trans B2.out (below_alloc _ _)) hb3)
  clear hb3
  go_wp2_with fail
  refine (H4.out _).mono ?_
  rintro e w' ⟨rfl, rfl⟩
  go_wp2_with fail
  refine (H5.out _).mono ?_
  rintro e w5 ⟨rfl, hb5⟩
  have B5 := Lib.hid (bl_trans (bl_trans B3.out (below_alloc _ _)) hb5)
  clear hb5
  have RC := Lib.hid (RowAt.new 67 #[.string s, .int .i64 (p5 : Int), .bool true] w5)
  go_wp2_with fail
  refine (HM.out _).mono ?_
  rintro e w6 ⟨rfl, hb6⟩
  have RC2 := Lib.hid ((RC.out.below (below_alloc _ _)).below hb6)
  have c1 := RC2.out.cell 1
  simp only [List.getElem?_toArray, List.getElem?_cons_zero, List.getElem?_cons_succ] at c1
  have B6 := Lib.hid (bl_trans (bl_trans (bl_trans B5.out (below_alloc _ _)) (below_alloc _ _)) hb6)
  clear hb6
  go_wp2_with fail
  refine (HF.out _).mono ?_
  rintro e w' ⟨rfl, rfl⟩
  go_wp2
  exact bodyPost_ret (v := .tuple #[.int .i64 (recV v er), .int .i64 (recP er p5), .int .i64 er]) (by simp [results, Tryd.results9, go_sem]) rfl ⟨rt_rec HR.out, B6.out⟩

set_option maxRecDepth 100000 in
set_option linter.unusedSimpArgs false in
set_option linter.unusedVariables false in
set_option maxHeartbeats 16000000 in
theorem rrec_6 (s : ByteArray) (ref year z : Int) (first : Bool) (hs : s.size ≤ 20000) (h1 : (fu7 s).bad = true) (h2 : (sy6 s).bad = true) (h3 : (sl7 s).bad = true) (h4 : epE s = 20) (h5 : (ckC s).bad = true) (w : World) :
    Calls Tryd.prog 9 #[.string s, .int .i64 ref, .int .i64 year, .int .i64 z, .bool first] w fun e w' => e = .returned (.tuple #[.int .i64 (recT s ref year z first).1, .int .i64 (recT s ref year z first).2.1, .int .i64 (recT s ref year z first).2.2]) ∧ Below w.heap.size w w' := by
  have hR : recT s ref year z first = _ := recT_6 hs h1 h2 h3 h4 h5
  have h1' := fun W => riso_bad s z hs h1 W
  obtain ⟨x1, hx1⟩ : ∃ x, fuD s = x := ⟨_, rfl⟩
  rw [hx1] at h1'
  unfold D7.ag at h1'
  have H1 := Lib.hid h1'
  clear h1' hx1
  have H2 := Lib.hid (show ∀ W, Calls Tryd.prog 20 #[.string s] W fun e w' => (∃ (x : D7) (k : Nat), e = .returned (.tuple #[.agg #[.int .i64 x.y, .int .i64 x.m, .int .i64 x.d, .int .i64 x.h, .int .i64 x.i, .int .i64 x.s, .int .i64 x.c], .int .i64 (k : Int), .bool false])) ∧ Below W.heap.size W w' from fun W => (rsyslog_any s hs W).mono fun e w' ⟨⟨x, k, b, he, hb, _⟩, hw⟩ => ⟨⟨x, k, by rw [he, hb, h2]; rfl⟩, hw⟩)
  have h3' := fun W => rslashes_any s first hs W
  obtain ⟨x3, hx3⟩ : ∃ x, rlD s first = x := ⟨_, rfl⟩
  obtain ⟨p3, hp3⟩ : ∃ x, (sl7 s).pos = x := ⟨_, rfl⟩
  obtain ⟨f3, hf3⟩ : ∃ x, slF s = x := ⟨_, rfl⟩
  rw [hx3, hp3, h3, hf3] at h3'
  unfold D7.ag at h3'
  simp only [Bool.not_true] at h3'
  have H3 := Lib.hid h3'
  clear hx3 hp3 hf3 h3'
  have h4' := fun W => rsec_any s hs W
  rw [if_neg (by omega), if_neg (by omega), decide_eq_false (by omega)] at h4'
  have H4 := Lib.hid h4'
  have h5' : ∀ W, Calls Tryd.prog 24 #[.agg #[.string s, .int .i64 0, .bool true], .agg #[.int .i64 0, .int .i64 0, .int .i64 0, .int .i64 0, .int .i64 0, .int .i64 0, .int .i64 0]] W fun e w' => e = .returned (.tuple #[.agg #[.string s, .int .i64 ((ckC s).pos : Int), .bool (!(ckC s).bad)], .agg #[.int .i64 0, .int .i64 0, .int .i64 0, .int .i64 (ckD s).h, .int .i64 (ckD s).i, .int .i64 (ckD s).s, .int .i64 (ckD s).c]]) ∧ Below W.heap.size W w' := fun W => rclk_any s ⟨0, false⟩ 0 0 0 (Nat.zero_le _) hs W
  obtain ⟨p5, hp5⟩ : ∃ x, (ckC s).pos = x := ⟨_, rfl⟩
  obtain ⟨x5, hx5⟩ : ∃ x, ckD s = x := ⟨_, rfl⟩
  rw [hx5] at h5'
  rw [hp5, h5] at h5'
  simp only [Bool.not_true] at h5'
  have H5 := Lib.hid h5'
  have hsz : ¬ (20000 : Int) < (s.size : Int) := by omega
  have HR := Lib.hid hR
  clear hR
  clear h1 h2 h3 h4 h5 hs h4' h5' hx5 hp5
  go_enter Tryd.func9, Tryd.ntmps9
  go_wp2_with fail
  refine (H1.out _).mono ?_
  rintro e w1 ⟨rfl, hb1⟩
  have B1 := Lib.hid (hb1)
  clear hb1
  go_wp2_with fail
  refine (H2.out _).mono ?_
  rintro e w2 ⟨⟨x2, k2, rfl⟩, hb2⟩
  have B2 := Lib.hid (bl_trans (bl_trans B1.out (below_alloc _ _)) hb2)
  clear hb2
  go_wp2_with fail
  refine (H3.out _).mono ?_
  rintro e w3 ⟨rfl, hb3⟩
  have B3 := Lib.hid (bl_trans (bl_trans B2.out (below_alloc _ _)) hb3)
  clear hb3
  go_wp2_with fail
  refine (H4.out _).mono ?_
  rintro e w' ⟨rfl, rfl⟩
  go_wp2_with fail
  refine (H5.out _).mono ?_
  rintro e w5 ⟨rfl, hb5⟩
  have B5 := Lib.hid (bl_trans (bl_trans B3.out (below_alloc _ _)) hb5)
  clear hb5
  go_wp2
  exact bodyPost_ret (v := .tuple #[.int .i64 0, .int .i64 0, .int .i64 20]) (by simp [results, Tryd.results9, go_sem]) rfl ⟨rt_rec HR.out, bl_trans (bl_trans B5.out (below_alloc _ _)) (below_alloc _ _)⟩

theorem rrec_any (s : ByteArray) (ref year z : Int) (first : Bool) (w : World) :
    Calls Tryd.prog 9 #[.string s, .int .i64 ref, .int .i64 year, .int .i64 z, .bool first] w fun e w' => e = .returned (.tuple #[.int .i64 (recT s ref year z first).1, .int .i64 (recT s ref year z first).2.1, .int .i64 (recT s ref year z first).2.2]) ∧ Below w.heap.size w w' := by
  by_cases hs : s.size ≤ 20000
  · cases h1 : (fu7 s).bad with
    | false => exact rrec_1 s ref year z first hs h1 w
    | true =>
      cases h2 : (sy6 s).bad with
      | false =>
        by_cases hy : year = 0
        · exact rrec_2z s ref year z first hs h1 h2 hy w
        · exact rrec_2 s ref year z first hs h1 h2 hy w
      | true =>
        cases h3 : (sl7 s).bad with
        | false =>
          cases hf : slF s with
          | true => exact rrec_3 s ref year z first hs h1 h2 h3 hf w
          | false => exact rrec_3n s ref year z first hs h1 h2 h3 hf w
        | true =>
          rcases ep_two s with h4 | h4
          · exact rrec_4 s ref year z first hs h1 h2 h3 h4 w
          · cases h5 : (ckC s).bad with
            | false => exact rrec_5 s ref year z first hs h1 h2 h3 h4 h5 w
            | true => exact rrec_6 s ref year z first hs h1 h2 h3 h4 h5 w
  · exact rrec_big s ref year z first (by omega) w
end Go.Proofs.YtpbfgafkoodeoaaDoor
