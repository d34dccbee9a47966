/- The contracts of the reference's distance and Nearest. -/
import Derived.Test.YtofomlbhbbhdjaaDoorTsNst
namespace Go.Proofs.YtofomlbhbbhdjaaDoor
open Go.RowKit

set_option maxRecDepth 100000 in
theorem rdistance_any (a b : Int) (ha : isT a) (hb : isT b) (w : World) :
    Calls Tryd.prog 36 #[.int .i64 a, .int .i64 b] w fun e w' => e = .returned (.int .i64 (dist a b)) ∧ w = w' := by
  obtain ⟨a1, a2⟩ := ha
  obtain ⟨b1, b2⟩ := hb
  go_enter Tryd.func36, Tryd.ntmps36
  go_wp2
  go_ret
  exact ⟨rt_int (by unfold dist; omega), rfl⟩
theorem rmil_any (x : D7) (z : Int) (w : World) :
    Calls Tryd.prog 27 #[.agg #[.int .i64 x.y, .int .i64 x.m, .int .i64 x.d, .int .i64 x.h, .int .i64 x.i, .int .i64 x.s, .int .i64 x.c], .int .i64 z] w fun e w' => e = .returned (.tuple #[.int .i64 (x.mV z), .int .i64 (x.mE z)]) ∧ Below w.heap.size w w' :=
  rmillis_any x.y x.m x.d x.h x.i x.s x.c z w

set_option maxRecDepth 100000 in
set_option maxHeartbeats 8000000 in
theorem rnearest_yes (x : D7) (ref z : Int) (hk : okT ref z) (w : World) :
    Calls Tryd.prog 14 #[.agg #[.int .i64 x.y, .int .i64 x.m, .int .i64 x.d, .int .i64 x.h, .int .i64 x.i, .int .i64 x.s, .int .i64 x.c], .int .i64 ref, .int .i64 z] w fun e w' => e = .returned (.tuple #[.int .i64 (neB x ref z).1, .int .i64 (neB x ref z).2]) ∧ Below w.heap.size w w' := by
  have hd := fun W => rdates_yes ref z hk.1 hk.2.1 hk.2.2 W
  unfold neB
  rw [if_pos hk]
  have hr := hk.1
  have hp : ref + z * 60000 + 62135596800000 = pOf ref z := rfl
  rw [hp] at hd
  obtain ⟨p, hpp⟩ : ∃ p, pOf ref z = p := ⟨_, rfl⟩
  rw [hpp] at hd ⊢
  obtain ⟨Y0, hY0⟩ : ∃ y, (civT (p / 86400000 - 719162)).1 = y := ⟨_, rfl⟩
  rw [hY0]
  have HY := Lib.hid hY0
  clear hY0
  have HD := Lib.hid hd
  have HR := Lib.hid hr
  clear hd hr hp hpp hk
  go_enter Tryd.func14, Tryd.ntmps14
  go_wp2_with fail
  refine (HD.out _).mono ?_
  rintro e w1 ⟨Y, M, D, rfl, hv, hn, hb1⟩
  have hcv := civT_is hv hn
  have hy1 := hv.1
  have hy2 := hv.2.1
  obtain rfl : Y = Y0 := by rw [← HY.out, hcv]
  have hb := bl_trans (below_alloc w (.cells #[.int .i64 x.y, .int .i64 x.m, .int .i64 x.d, .int .i64 x.h, .int .i64 x.i, .int .i64 x.s, .int .i64 x.c] 36)) hb1
  have hdt : RowAt w.heap.size 36 #[.int .i64 x.y, .int .i64 x.m, .int .i64 x.d, .int .i64 x.h, .int .i64 x.i, .int .i64 x.s, .int .i64 x.c] w1 := (RowAt.new _ _ w).below hb1
  unfold dateV
  obtain ⟨H, hH⟩ : ∃ q, p / 3600000 % 24 = q := ⟨_, rfl⟩
  obtain ⟨I, hI⟩ : ∃ q, p / 60000 % 60 = q := ⟨_, rfl⟩
  obtain ⟨S, hS⟩ : ∃ q, p / 1000 % 60 = q := ⟨_, rfl⟩
  obtain ⟨C, hC⟩ : ∃ q, p % 1000 = q := ⟨_, rfl⟩
  rw [hH, hI, hS, hC]
  have hX := below_alloc w1 (.cells #[.int .i64 Y, .int .i64 M, .int .i64 D, .int .i64 H, .int .i64 I, .int .i64 S, .int .i64 C] 36)
  have hXL := RowAt.new 36 #[.int .i64 Y, .int .i64 M, .int .i64 D, .int .i64 H, .int .i64 I, .int .i64 S, .int .i64 C] w1
  obtain ⟨X, hXX⟩ : ∃ X, w1.alloc (.cells #[.int .i64 Y, .int .i64 M, .int .i64 D, .int .i64 H, .int .i64 I, .int .i64 S, .int .i64 C] 36) = X := ⟨_, rfl⟩
  have hlt1 : w.heap.size < w1.heap.size := hdt.lt
  have e0 := hXL.cell 0
  simp only [List.getElem?_toArray, List.getElem?_cons_zero] at e0
  rw [hXX] at hX hXL e0
  have HX := Lib.hid (And.intro (hdt.below hX) (And.intro hXL (bl_trans hb hX)))
  have HXX := Lib.hid hXX
  clear hv hn hcv hb1 hb hdt hH hI hS hC hX hXL hXX
  go_wp2_with fail
  rw [HXX.out]
  obtain ⟨L, hL⟩ : ∃ L, w1.heap.size = L := ⟨_, rfl⟩
  obtain ⟨E, hE⟩ : ∃ E, w.heap.size = E := ⟨_, rfl⟩
  have hne : E ≠ L := by omega
  have HW := Lib.hid hE
  have HX2 := Lib.hid HX.out
  rw [hL] at HX2 ⊢
  rw [hE] at HX2 ⊢
  have HN0 := Lib.hid hne
  clear hL hE hne HX HXX e0 hlt1 HY
  go_loopw [10, 11, 12] (fun b f yv wr => ∃ k : Nat, k ≤ 3 ∧ yv = .int .i64 (Y - 1 + k) ∧ b = .int .i64 (nfold ref z (yrs Y x) k).1 ∧ f = .bool (decide ((nfold ref z (yrs Y x) k).2 = 0)) ∧ (∃ y : Int, RowAt E 36 #[.int .i64 y, .int .i64 x.m, .int .i64 x.d, .int .i64 x.h, .int .i64 x.i, .int .i64 x.s, .int .i64 x.c] wr) ∧ RowAt L 36 #[.int .i64 Y, .int .i64 M, .int .i64 D, .int .i64 H, .int .i64 I, .int .i64 S, .int .i64 C] wr ∧ Below E w wr) (fun _ _ yv _ => (Y + 2 - intOf yv).toNat)
  case atStart => exact ⟨0, by omega, by simp, rfl, rfl, ⟨x.y, HX2.out.1⟩, HX2.out.2.1, HX2.out.2.2⟩
  case round =>
    obtain ⟨k, hk, rfl, rfl, rfl, ⟨y, hrE⟩, hrL, hrB⟩ := hrel
    have l0 := hrL.cell 0
    simp only [List.getElem?_toArray, List.getElem?_cons_zero] at l0
    by_cases hlt : k < 3
    · have hd3 : decide (Y - 1 + (k : Int) ≤ Y + 1) = true := by rw [decide_eq_true_iff]; omega
      have hrd := round_of ref z (yrs Y x) k
      have hml := fun W => rmil_any (yrs Y x k) z W
      have hxe : yrs Y x k = ⟨Y - 1 + k, x.m, x.d, x.h, x.i, x.s, x.c⟩ := rfl
      obtain ⟨v, hv⟩ : ∃ v, (yrs Y x k).mV z = v := ⟨_, rfl⟩
      obtain ⟨er, he⟩ : ∃ v, (yrs Y x k).mE z = v := ⟨_, rfl⟩
      rw [hv, he] at hrd hml
      rw [hxe] at hml
      simp only at hml
      obtain ⟨b', hb'⟩ : ∃ b, nfold ref z (yrs Y x) (k + 1) = b := ⟨_, rfl⟩
      rw [hb'] at hrd
      obtain ⟨b, hbk⟩ : ∃ b, nfold ref z (yrs Y x) k = b := ⟨_, rfl⟩
      rw [hbk] at hrd ⊢
      obtain ⟨b1, b2⟩ := b
      simp only at hrd ⊢
      have HN := Lib.hid hb'
      have HM := Lib.hid hml
      have e0 := hrE.cell 0
      have e1 := hrE.cell 1
      have e2 := hrE.cell 2
      have e3 := hrE.cell 3
      have e4 := hrE.cell 4
      have e5 := hrE.cell 5
      have e6 := hrE.cell 6
      have fe := hrE.free 0
      simp only [List.getElem?_toArray, List.getElem?_cons_zero, List.getElem?_cons_succ] at e0 e1 e2 e3 e4 e5 e6
      have HE1 := Lib.hid (show RowAt E 36 #[.int .i64 (Y - 1 + (k : Int)), .int .i64 x.m, .int .i64 x.d, .int .i64 x.h, .int .i64 x.i, .int .i64 x.s, .int .i64 x.c] (wr.setCell ⟨E, 0, none⟩ (.int .i64 (Y - 1 + (k : Int)))) ∧ RowAt L 36 #[.int .i64 Y, .int .i64 M, .int .i64 D, .int .i64 H, .int .i64 I, .int .i64 S, .int .i64 C] (wr.setCell ⟨E, 0, none⟩ (.int .i64 (Y - 1 + (k : Int)))) ∧ Below E w (wr.setCell ⟨E, 0, none⟩ (.int .i64 (Y - 1 + (k : Int)))) from
        ⟨hrE.set 0 _, hrL.other 0 _ (fun q => HN0.out q.symm), hrB.setCell (p := ⟨E, 0, none⟩) (Nat.le_refl _) _⟩)
      have n1 : E ≠ L := HN0.out
      have n2 : L ≠ E := fun q => HN0.out q.symm
      clear hv he hb' hbk hml hxe hrE hrL hrB
      rcases hrd with ⟨h0, hb⟩ | ⟨h0, h2, hb⟩ | ⟨h0, h2, hvt, htt, hdd, hb⟩ | ⟨h0, h2, hvt, htt, hdd, hb⟩
      · have e9 : (er == 0) = false := by rw [beq_eq_false_iff_ne]; exact h0
        have HQ := Lib.hid hb
        clear h0 hb
        go_wp2_with fail
        refine (HM.out _).mono ?_
        rintro e w2 ⟨rfl, hb2⟩
        have HW2 := Lib.hid (And.intro (RowAt.below HE1.out.1 hb2) (And.intro (HE1.out.2.1.below hb2) (HE1.out.2.2.trans (hb2.mono (Nat.le_trans (Nat.le_of_eq HW.out.symm) HE1.out.2.2.size)))))
        have l0' := HW2.out.2.1.cell 0
        simp only [List.getElem?_toArray, List.getElem?_cons_zero] at l0'
        clear hb2 l0 e0 e1 e2 e3 e4 e5 e6 fe
        go_wp2
        go_roundw
        case rel => exact ⟨k + 1, by omega, by push_cast; go_num, by rw [HN.out, HQ.out], by rw [HN.out, HQ.out], ⟨_, HW2.out.1⟩, HW2.out.2.1, HW2.out.2.2⟩
        case measure => simp [intOf]; omega
      · subst h0
        have e8 : decide (b2 = 0) = false := decide_eq_false h2
        rw [e8]
        have HQ := Lib.hid hb
        clear h2 hb e8
        go_wp2_with fail
        refine (HM.out _).mono ?_
        rintro e w2 ⟨rfl, hb2⟩
        have HW2 := Lib.hid (And.intro (RowAt.below HE1.out.1 hb2) (And.intro (HE1.out.2.1.below hb2) (HE1.out.2.2.trans (hb2.mono (Nat.le_trans (Nat.le_of_eq HW.out.symm) HE1.out.2.2.size)))))
        have l0' := HW2.out.2.1.cell 0
        simp only [List.getElem?_toArray, List.getElem?_cons_zero] at l0'
        clear hb2 l0 e0 e1 e2 e3 e4 e5 e6 fe
        go_wp2
        go_roundw
        case rel => exact ⟨k + 1, by omega, by push_cast; go_num, by rw [HN.out, HQ.out], by rw [HN.out, HQ.out]; rfl, ⟨_, HW2.out.1⟩, HW2.out.2.1, HW2.out.2.2⟩
        case measure => simp [intOf]; omega
      · subst h0 h2
        have e8 : decide ((0 : Int) = 0) = true := rfl
        rw [e8]
        clear e8
        have hq1 := Lib.hid (fun W => rdistance_any v ref hvt HR.out W)
        have hq2 := Lib.hid (fun W => rdistance_any b1 ref htt HR.out W)
        obtain ⟨p1, hp1⟩ : ∃ p, dist v ref = p := ⟨_, rfl⟩
        obtain ⟨p2, hp2⟩ : ∃ p, dist b1 ref = p := ⟨_, rfl⟩
        rw [hp1] at hq1 hdd
        rw [hp2] at hq2 hdd
        have HQ := Lib.hid hb
        clear hb hvt htt hp1 hp2
        go_wp2_with fail
        refine (HM.out _).mono ?_
        rintro e w2 ⟨rfl, hb2⟩
        have HW2 := Lib.hid (And.intro (RowAt.below HE1.out.1 hb2) (And.intro (HE1.out.2.1.below hb2) (HE1.out.2.2.trans (hb2.mono (Nat.le_trans (Nat.le_of_eq HW.out.symm) HE1.out.2.2.size)))))
        have l0' := HW2.out.2.1.cell 0
        simp only [List.getElem?_toArray, List.getElem?_cons_zero] at l0'
        clear hb2 l0 e0 e1 e2 e3 e4 e5 e6 fe
        go_wp2_with fail
        refine (hq1.out _).mono ?_
        rintro e w' ⟨rfl, rfl⟩
        go_wp2_with fail
        refine (hq2.out _).mono ?_
        rintro e w' ⟨rfl, rfl⟩
        go_wp2
        go_roundw
        case rel => exact ⟨k + 1, by omega, by push_cast; go_num, by rw [HN.out, HQ.out], by rw [HN.out, HQ.out]; rfl, ⟨_, HW2.out.1⟩, HW2.out.2.1, HW2.out.2.2⟩
        case measure => simp [intOf]; omega
      · subst h0 h2
        have e8 : decide ((0 : Int) = 0) = true := rfl
        rw [e8]
        clear e8
        have hq1 := Lib.hid (fun W => rdistance_any v ref hvt HR.out W)
        have hq2 := Lib.hid (fun W => rdistance_any b1 ref htt HR.out W)
        obtain ⟨p1, hp1⟩ : ∃ p, dist v ref = p := ⟨_, rfl⟩
        obtain ⟨p2, hp2⟩ : ∃ p, dist b1 ref = p := ⟨_, rfl⟩
        rw [hp1] at hq1 hdd
        rw [hp2] at hq2 hdd
        have HQ := Lib.hid hb
        clear hb hvt htt hp1 hp2
        go_wp2_with fail
        refine (HM.out _).mono ?_
        rintro e w2 ⟨rfl, hb2⟩
        have HW2 := Lib.hid (And.intro (RowAt.below HE1.out.1 hb2) (And.intro (HE1.out.2.1.below hb2) (HE1.out.2.2.trans (hb2.mono (Nat.le_trans (Nat.le_of_eq HW.out.symm) HE1.out.2.2.size)))))
        have l0' := HW2.out.2.1.cell 0
        simp only [List.getElem?_toArray, List.getElem?_cons_zero] at l0'
        clear hb2 l0 e0 e1 e2 e3 e4 e5 e6 fe
        go_wp2_with fail
        refine (hq1.out _).mono ?_
        rintro e w' ⟨rfl, rfl⟩
        go_wp2_with fail
        refine (hq2.out _).mono ?_
        rintro e w' ⟨rfl, rfl⟩
        go_wp2
        go_roundw
        case rel => exact ⟨k + 1, by omega, by push_cast; go_num, by rw [HN.out, HQ.out], by rw [HN.out, HQ.out]; rfl, ⟨_, HW2.out.1⟩, HW2.out.2.1, HW2.out.2.2⟩
        case measure => simp [intOf]; omega
    · obtain rfl : k = 3 := by omega
      have hok := nfold_ok ref z (yrs Y x) 3
      have hd3 : decide (Y - 1 + ((3 : Nat) : Int) ≤ Y + 1) = false := by rw [decide_eq_false_iff_not]; omega
      obtain ⟨b, hbk⟩ : ∃ b, nfold ref z (yrs Y x) 3 = b := ⟨_, rfl⟩
      rw [hbk] at hok ⊢
      obtain ⟨b1, b2⟩ := b
      simp only at hok ⊢
      have HB := Lib.hid (And.intro hbk hrB)
      clear hbk hrE hrL hrB hk hlt
      rcases hok with ⟨h2, -⟩ | h2
      · subst h2
        have e8 : decide ((0 : Int) = 0) = true := rfl
        rw [e8]
        clear e8
        go_wp2
        obtain rfl := HW.out
        exact bodyPost_ret (v := .tuple #[.int .i64 b1, .int .i64 0]) (by simp [results, Tryd.results14, go_sem]) rfl ⟨by rw [HB.out.1], HB.out.2⟩
      · obtain ⟨rfl, rfl⟩ := Prod.mk.inj h2
        have e8 : decide ((10 : Int) = 0) = false := rfl
        rw [e8]
        clear e8 h2
        go_wp2
        obtain rfl := HW.out
        exact bodyPost_ret (v := .tuple #[.int .i64 0, .int .i64 10]) (by simp [results, Tryd.results14, go_sem]) rfl ⟨by rw [HB.out.1], HB.out.2⟩

set_option maxRecDepth 100000 in
set_option maxHeartbeats 4000000 in
theorem rnearest_no (x : D7) (ref z : Int) (hk : ¬ okT ref z) (w : World) :
    Calls Tryd.prog 14 #[.agg #[.int .i64 x.y, .int .i64 x.m, .int .i64 x.d, .int .i64 x.h, .int .i64 x.i, .int .i64 x.s, .int .i64 x.c], .int .i64 ref, .int .i64 z] w fun e w' => e = .returned (.tuple #[.int .i64 0, .int .i64 2]) ∧ Below w.heap.size w w' := by
  have HD := Lib.hid (fun W => rdates_no ref z hk W)
  clear hk
  go_enter Tryd.func14, Tryd.ntmps14
  go_wp2_with fail
  refine (HD.out _).mono ?_
  rintro e w1 ⟨rfl, hb1⟩
  have hb := bl_trans (below_alloc w _) hb1
  unfold zeroDate
  go_wp2
  go_ret2
  exact ⟨rfl, bl_trans hb (below_alloc _ _)⟩
theorem rnearest_any (x : D7) (ref z : Int) (w : World) :
    Calls Tryd.prog 14 #[.agg #[.int .i64 x.y, .int .i64 x.m, .int .i64 x.d, .int .i64 x.h, .int .i64 x.i, .int .i64 x.s, .int .i64 x.c], .int .i64 ref, .int .i64 z] w fun e w' => e = .returned (.tuple #[.int .i64 (neB x ref z).1, .int .i64 (neB x ref z).2]) ∧ Below w.heap.size w w' := by
  by_cases hk : okT ref z
  · exact rnearest_yes x ref z hk w
  · have e : neB x ref z = (0, 2) := by unfold neB; rw [if_neg hk]
    rw [e]; exact rnearest_no x ref z hk w
end Go.Proofs.YtofomlbhbbhdjaaDoor
