/- The contract of package timestamp's nearestDay. The contracts of the third, the fourth and the fifth form: readSlashes, readEpoch, readClock. The contract of the third form, readSlashes, at every string. -/
import Derived.Test.YtpbfgafkoodeoaaDoorRvH
import Derived.Deep.DeepCutAuto
namespace Go.Proofs.YtpbfgafkoodeoaaDoor
open Go.RowKit

theorem civT_no {n : Int} (h : n < -719162 ∨ 2932896 < n) : civT n = (0, 0, 0) := by
  unfold civT
  rw [dif_neg]
  rintro ⟨t, hv, hn⟩
  have := Cal.num_bounds hv
  omega
theorem civil_any (n : Int) (w : World) (hT : DaysT w) :
    Calls Tryd.prog 30 #[.int .i64 n] w fun e w' => (∃ r, e = .returned (.tuple #[.int .i64 (civT n).1, .int .i64 (civT n).2.1, .int .i64 (civT n).2.2, .bool r])) ∧ w = w' := by
  by_cases h : n < -719162 ∨ 2932896 < n
  · rw [civT_no h]
    exact (civil_no n h w).mono fun e w' ⟨he, hw⟩ => ⟨⟨_, he⟩, hw⟩
  · refine (civil_yes n (by omega) (by omega) w hT).mono fun e w' ⟨y, m, d, he, hv, hn, hw⟩ => ?_
    rw [civT_is hv hn]
    exact ⟨⟨_, he⟩, hw⟩
/-- The days around. -/
noncomputable def dys (T : Int) (x : D7) (k : Nat) : D7 := ⟨(civT (T - 1 + k)).1, (civT (T - 1 + k)).2.1, (civT (T - 1 + k)).2.2, x.h, x.i, x.s, x.c⟩
noncomputable def darrK (xs : Nat → D7) : Nat → Array Value
  | 0 => z7 ++ z7 ++ z7
  | 1 => (xs 0).cs ++ z7 ++ z7
  | 2 => (xs 0).cs ++ (xs 1).cs ++ z7
  | _ => arr3 xs
theorem day_step0 (T : Int) (x : D7) : set7 (darrK (dys T x) 0) 0 (civT (T - 1)).1 (civT (T - 1)).2.1 (civT (T - 1)).2.2 x.h x.i x.s x.c = darrK (dys T x) 1 := by simp [set7, darrK, dys, D7.cs, date7, z7]
theorem day_step1 (T : Int) (x : D7) : set7 (darrK (dys T x) 1) 7 (civT T).1 (civT T).2.1 (civT T).2.2 x.h x.i x.s x.c = darrK (dys T x) 2 := by simp [set7, darrK, dys, D7.cs, date7, z7]
theorem day_step2 (T : Int) (x : D7) : set7 (darrK (dys T x) 2) 14 (civT (T - 1 + 2)).1 (civT (T - 1 + 2)).2.1 (civT (T - 1 + 2)).2.2 x.h x.i x.s x.c = darrK (dys T x) 3 := by simp [set7, darrK, arr3, dys, D7.cs, date7, z7]
open Classical in
noncomputable def dyB (x : D7) (ref z : Int) : Int × Int := if okT ref z then nfold ref z (dys (pOf ref z / 86400000 - 719162) x) 3 else (0, 2)

set_option maxRecDepth 100000 in
set_option maxHeartbeats 16000000 in
theorem nearestDay_yes (x : D7) (ref z : Int) (hk : okT ref z) (w : World) (hT : DaysT w) :
    Calls Tryd.prog 63 #[.agg #[.int .i64 x.y, .int .i64 x.m, .int .i64 x.d, .int .i64 x.h, .int .i64 x.i, .int .i64 x.s, .int .i64 x.c], .int .i64 ref, .int .i64 z] w fun e w' => e = .returned (.tuple #[.int .i64 (dyB x ref z).1, .int .i64 (dyB x ref z).2]) ∧ Below w.heap.size w w' := by
  have hd := fun W hW => dates_yes ref z hk.1 hk.2.1 hk.2.2 W hW
  unfold dyB
  rw [if_pos hk]
  have hr := hk.1
  have hp : ref + z * 60000 + 62135596800000 = pOf ref z := rfl
  have hk3 := hk.2.2
  rw [hp] at hd
  obtain ⟨T, hTT⟩ : ∃ T, pOf ref z / 86400000 - 719162 = T := ⟨_, rfl⟩
  have hTb : -4000000 ≤ T ∧ T ≤ 4000000 := by
    obtain ⟨h1, h2⟩ := hk3
    unfold pOf at hTT
    omega
  obtain ⟨p, hpp⟩ : ∃ p, pOf ref z = p := ⟨_, rfl⟩
  rw [hpp] at hd hTT
  rw [hpp, hTT]
  have HTT := Lib.hid hTT
  have HD := Lib.hid hd
  have HR := Lib.hid hr
  have HT := Lib.hid hT
  clear hd hr hp hpp hT hk hTT hk3
  obtain ⟨T1, T2⟩ := hTb
  go_enter Tryd.func63, Tryd.ntmps63
  go_wp2_with fail
  refine (HD.out _ (HT.out.alloc _)).mono ?_
  rintro e w1 ⟨Y, M, D, rfl, hv, hn, hb1⟩
  have hdy := fun W hW => days_yes Y M D hv W hW
  rw [hn, HTT.out] at hdy
  have hb := bl_trans (below_alloc w (.cells #[.int .i64 x.y, .int .i64 x.m, .int .i64 x.d, .int .i64 x.h, .int .i64 x.i, .int .i64 x.s, .int .i64 x.c] 38)) hb1
  have hdt : RowAt w.heap.size 38 #[.int .i64 x.y, .int .i64 x.m, .int .i64 x.d, .int .i64 x.h, .int .i64 x.i, .int .i64 x.s, .int .i64 x.c] w1 := (RowAt.new _ _ w).below hb1
  unfold dateV
  obtain ⟨H, hH⟩ : ∃ q, p / 3600000 % 24 = q := ⟨_, rfl⟩
  obtain ⟨I, hI⟩ : ∃ q, p / 60000 % 60 = q := ⟨_, rfl⟩
  obtain ⟨S, hS⟩ : ∃ q, p / 1000 % 60 = q := ⟨_, rfl⟩
  obtain ⟨C, hC⟩ : ∃ q, p % 1000 = q := ⟨_, rfl⟩
  rw [hH, hI, hS, hC]
  have HB := Lib.hid (And.intro hb hdt)
  have HDY := Lib.hid hdy
  clear hv hn hb1 hb hdt hH hI hS hC hdy
  have hX1 := below_alloc w1 (.cells #[.int .i64 Y, .int .i64 M, .int .i64 D, .int .i64 H, .int .i64 I, .int .i64 S, .int .i64 C] 38)
  go_wp2_with fail
  refine (HDY.out _ (HT.out.below (bl_trans HB.out.1 hX1))).mono ?_
  rintro e w' ⟨rfl, rfl⟩
  clear hX1
  go_wp2_with fail
  have hX : Below w1.heap.size w1 ((w1.alloc (.cells #[.int .i64 Y, .int .i64 M, .int .i64 D, .int .i64 H, .int .i64 I, .int .i64 S, .int .i64 C] 38)).alloc (.cells #[.int .i64 0, .int .i64 0, .int .i64 0, .int .i64 0, .int .i64 0, .int .i64 0, .int .i64 0, .int .i64 0, .int .i64 0, .int .i64 0, .int .i64 0, .int .i64 0, .int .i64 0, .int .i64 0, .int .i64 0, .int .i64 0, .int .i64 0, .int .i64 0, .int .i64 0, .int .i64 0, .int .i64 0] 93)) := bl_trans (below_alloc w1 _) (below_alloc _ _)
  have hXL := (RowAt.new 38 #[.int .i64 Y, .int .i64 M, .int .i64 D, .int .i64 H, .int .i64 I, .int .i64 S, .int .i64 C] w1).below (below_alloc _ (.cells #[.int .i64 0, .int .i64 0, .int .i64 0, .int .i64 0, .int .i64 0, .int .i64 0, .int .i64 0, .int .i64 0, .int .i64 0, .int .i64 0, .int .i64 0, .int .i64 0, .int .i64 0, .int .i64 0, .int .i64 0, .int .i64 0, .int .i64 0, .int .i64 0, .int .i64 0, .int .i64 0, .int .i64 0] 93))
  have hXA := RowAt.new 93 #[.int .i64 0, .int .i64 0, .int .i64 0, .int .i64 0, .int .i64 0, .int .i64 0, .int .i64 0, .int .i64 0, .int .i64 0, .int .i64 0, .int .i64 0, .int .i64 0, .int .i64 0, .int .i64 0, .int .i64 0, .int .i64 0, .int .i64 0, .int .i64 0, .int .i64 0, .int .i64 0, .int .i64 0] (w1.alloc (.cells #[.int .i64 Y, .int .i64 M, .int .i64 D, .int .i64 H, .int .i64 I, .int .i64 S, .int .i64 C] 38))
  have hXs : (w1.alloc (.cells #[.int .i64 Y, .int .i64 M, .int .i64 D, .int .i64 H, .int .i64 I, .int .i64 S, .int .i64 C] 38)).heap.size = w1.heap.size + 1 := by simp
  rw [hXs] at hXA
  obtain ⟨X, hXX⟩ : ∃ X, (w1.alloc (.cells #[.int .i64 Y, .int .i64 M, .int .i64 D, .int .i64 H, .int .i64 I, .int .i64 S, .int .i64 C] 38)).alloc (.cells #[.int .i64 0, .int .i64 0, .int .i64 0, .int .i64 0, .int .i64 0, .int .i64 0, .int .i64 0, .int .i64 0, .int .i64 0, .int .i64 0, .int .i64 0, .int .i64 0, .int .i64 0, .int .i64 0, .int .i64 0, .int .i64 0, .int .i64 0, .int .i64 0, .int .i64 0, .int .i64 0, .int .i64 0] 93) = X := ⟨_, rfl⟩
  rw [hXX] at hX hXL hXA ⊢
  have hXD := HB.out.2.below hX
  have hXB := bl_trans HB.out.1 hX
  have hlt1 : w.heap.size < w1.heap.size := HB.out.2.lt
  obtain ⟨A, hA⟩ : ∃ A, w1.heap.size + 1 = A := ⟨_, rfl⟩
  obtain ⟨L, hL⟩ : ∃ L, w1.heap.size = L := ⟨_, rfl⟩
  obtain ⟨E, hE⟩ : ∃ E, w.heap.size = E := ⟨_, rfl⟩
  have hne : E ≠ L ∧ E ≠ A ∧ L ≠ A ∧ E ≤ L ∧ E ≤ A := by omega
  have HW := Lib.hid hE
  rw [hA] at hXA ⊢
  rw [hL] at hXL ⊢
  rw [hE] at hXD hXB ⊢
  have HX := Lib.hid (And.intro hXD (And.intro hXL (And.intro hXA hXB)))
  have HN := Lib.hid hne
  clear hX hXL hXA hXs hXX hXD hXB hlt1 hA hL hE hne HB
  go_loopw [33] (fun i wr => ∃ k : Nat, k ≤ 3 ∧ i = .int .i64 k ∧ (∃ ey em ed : Int, RowAt E 38 #[.int .i64 ey, .int .i64 em, .int .i64 ed, .int .i64 x.h, .int .i64 x.i, .int .i64 x.s, .int .i64 x.c] wr) ∧ RowAt L 38 #[.int .i64 Y, .int .i64 M, .int .i64 D, .int .i64 H, .int .i64 I, .int .i64 S, .int .i64 C] wr ∧ RowAt A 93 (darrK (dys T x) k) wr ∧ Below E w wr) (fun i _ => 3 - (intOf i).toNat)
  case atStart => exact ⟨0, by omega, rfl, ⟨x.y, x.m, x.d, HX.out.1⟩, HX.out.2.1, HX.out.2.2.1, HX.out.2.2.2⟩
  case round =>
    obtain ⟨k, hk, rfl, ⟨ey, em, ed, hrE⟩, hrL, hrA, hrB⟩ := hrel
    by_cases hlt : k < 3
    · have hk3 : k = 0 ∨ k = 1 ∨ k = 2 := by omega
      rcases hk3 with rfl | rfl | rfl
      · clear hlt hk
        have hcv := fun W hW => civil_any (T - 1) W hW
        have hst := day_step0 T x
        obtain ⟨⟨cy, cm, cd⟩, hct⟩ : ∃ t, civT (T - 1) = t := ⟨_, rfl⟩
        rw [hct] at hcv hst
        simp only at hcv hst
        have HST := Lib.hid hst
        have HCV := Lib.hid hcv
        clear hcv hst hct
        have e0 := hrE.cell 0
        have e1 := hrE.cell 1
        have e2 := hrE.cell 2
        have e3 := hrE.cell 3
        have e4 := hrE.cell 4
        have e5 := hrE.cell 5
        have e6 := hrE.cell 6
        have fe0 := hrE.free 0
        have fe1 := hrE.free 1
        have fe2 := hrE.free 2
        have a0 := hrA.cell 0
        have f0 := hrA.free 0
        have a1 := hrA.cell 1
        have f1 := hrA.free 1
        have a2 := hrA.cell 2
        have f2 := hrA.free 2
        have a3 := hrA.cell 3
        have f3 := hrA.free 3
        have a4 := hrA.cell 4
        have f4 := hrA.free 4
        have a5 := hrA.cell 5
        have f5 := hrA.free 5
        have a6 := hrA.cell 6
        have f6 := hrA.free 6
        simp only [List.getElem?_toArray, List.getElem?_cons_zero, List.getElem?_cons_succ] at e0 e1 e2 e3 e4 e5 e6
        simp only [darrK, z7, date7, List.append_toArray, List.cons_append, List.nil_append, List.getElem?_toArray, List.getElem?_cons_zero, List.getElem?_cons_succ] at a0 a1 a2 a3 a4 a5 a6
        have HR2 := Lib.hid (And.intro hrE (And.intro hrL (And.intro hrA hrB)))
        have hTr := Lib.hid (HT.out.below (by have := hrB; rw [← HW.out] at this; exact this))
        clear hrE hrL hrA hrB
        have n1 : E ≠ A := HN.out.2.1
        have n2 : A ≠ E := fun q => HN.out.2.1 q.symm
        rw [show ((0 : Nat) : Int) = 0 from rfl]
        go_wp2_with fail
        refine (HCV.out _ hTr.out).mono ?_
        rintro e w' ⟨⟨r, rfl⟩, rfl⟩
        go_wp2
        go_roundw
        case rel =>
          have hE3 := ((HR2.out.1.set 0 (.int .i64 cy)).set 1 (.int .i64 cm)).set 2 (.int .i64 cd)
          have hL3 := ((HR2.out.2.1.other 0 (.int .i64 cy) (fun q => HN.out.1 q.symm)).other 1 (.int .i64 cm) (fun q => HN.out.1 q.symm)).other 2 (.int .i64 cd) (fun q => HN.out.1 q.symm)
          have hA3 := ((HR2.out.2.2.1.other 0 (.int .i64 cy) n2).other 1 (.int .i64 cm) n2).other 2 (.int .i64 cd) n2
          have hB3 := ((HR2.out.2.2.2.setCell (p := ⟨E, 0, none⟩) (Nat.le_refl _) (.int .i64 cy)).setCell (p := ⟨E, 1, none⟩) (Nat.le_refl _) (.int .i64 cm)).setCell (p := ⟨E, 2, none⟩) (Nat.le_refl _) (.int .i64 cd)
          exact ⟨1, by omega, rfl, ⟨_, _, _, put7_other hE3 n1 0 cy cm cd x.h x.i x.s x.c⟩, put7_other hL3 HN.out.2.2.1 0 cy cm cd x.h x.i x.s x.c,
            HST.out ▸ put7_row hA3 0 cy cm cd x.h x.i x.s x.c, put7_below hB3 HN.out.2.2.2.2 0 cy cm cd x.h x.i x.s x.c⟩
        case measure => simp [intOf]
      · clear hlt hk
        have hcv := fun W hW => civil_any T W hW
        have hst := day_step1 T x
        obtain ⟨⟨cy, cm, cd⟩, hct⟩ : ∃ t, civT T = t := ⟨_, rfl⟩
        rw [hct] at hcv hst
        simp only at hcv hst
        have HST := Lib.hid hst
        have HCV := Lib.hid hcv
        clear hcv hst hct
        have e0 := hrE.cell 0
        have e1 := hrE.cell 1
        have e2 := hrE.cell 2
        have e3 := hrE.cell 3
        have e4 := hrE.cell 4
        have e5 := hrE.cell 5
        have e6 := hrE.cell 6
        have fe0 := hrE.free 0
        have fe1 := hrE.free 1
        have fe2 := hrE.free 2
        have a0 := hrA.cell 7
        have f0 := hrA.free 7
        have a1 := hrA.cell 8
        have f1 := hrA.free 8
        have a2 := hrA.cell 9
        have f2 := hrA.free 9
        have a3 := hrA.cell 10
        have f3 := hrA.free 10
        have a4 := hrA.cell 11
        have f4 := hrA.free 11
        have a5 := hrA.cell 12
        have f5 := hrA.free 12
        have a6 := hrA.cell 13
        have f6 := hrA.free 13
        simp only [List.getElem?_toArray, List.getElem?_cons_zero, List.getElem?_cons_succ] at e0 e1 e2 e3 e4 e5 e6
        simp only [darrK, D7.cs, z7, date7, dys, List.append_toArray, List.cons_append, List.nil_append, List.getElem?_toArray, List.getElem?_cons_zero, List.getElem?_cons_succ] at a0 a1 a2 a3 a4 a5 a6
        have HR2 := Lib.hid (And.intro hrE (And.intro hrL (And.intro hrA hrB)))
        have hTr := Lib.hid (HT.out.below (by have := hrB; rw [← HW.out] at this; exact this))
        clear hrE hrL hrA hrB
        have n1 : E ≠ A := HN.out.2.1
        have n2 : A ≠ E := fun q => HN.out.2.1 q.symm
        rw [show ((1 : Nat) : Int) = 1 from rfl]
        go_wp2_with fail
        refine (HCV.out _ hTr.out).mono ?_
        rintro e w' ⟨⟨r, rfl⟩, rfl⟩
        go_wp2
        go_roundw
        case rel =>
          have hE3 := ((HR2.out.1.set 0 (.int .i64 cy)).set 1 (.int .i64 cm)).set 2 (.int .i64 cd)
          have hL3 := ((HR2.out.2.1.other 0 (.int .i64 cy) (fun q => HN.out.1 q.symm)).other 1 (.int .i64 cm) (fun q => HN.out.1 q.symm)).other 2 (.int .i64 cd) (fun q => HN.out.1 q.symm)
          have hA3 := ((HR2.out.2.2.1.other 0 (.int .i64 cy) n2).other 1 (.int .i64 cm) n2).other 2 (.int .i64 cd) n2
          have hB3 := ((HR2.out.2.2.2.setCell (p := ⟨E, 0, none⟩) (Nat.le_refl _) (.int .i64 cy)).setCell (p := ⟨E, 1, none⟩) (Nat.le_refl _) (.int .i64 cm)).setCell (p := ⟨E, 2, none⟩) (Nat.le_refl _) (.int .i64 cd)
          exact ⟨2, by omega, rfl, ⟨_, _, _, put7_other hE3 n1 7 cy cm cd x.h x.i x.s x.c⟩, put7_other hL3 HN.out.2.2.1 7 cy cm cd x.h x.i x.s x.c,
            HST.out ▸ put7_row hA3 7 cy cm cd x.h x.i x.s x.c, put7_below hB3 HN.out.2.2.2.2 7 cy cm cd x.h x.i x.s x.c⟩
        case measure => simp [intOf]
      · clear hlt hk
        have hcv := fun W hW => civil_any (T - 1 + 2) W hW
        have hst := day_step2 T x
        obtain ⟨⟨cy, cm, cd⟩, hct⟩ : ∃ t, civT (T - 1 + 2) = t := ⟨_, rfl⟩
        rw [hct] at hcv hst
        simp only at hcv hst
        have HST := Lib.hid hst
        have HCV := Lib.hid hcv
        clear hcv hst hct
        have e0 := hrE.cell 0
        have e1 := hrE.cell 1
        have e2 := hrE.cell 2
        have e3 := hrE.cell 3
        have e4 := hrE.cell 4
        have e5 := hrE.cell 5
        have e6 := hrE.cell 6
        have fe0 := hrE.free 0
        have fe1 := hrE.free 1
        have fe2 := hrE.free 2
        have a0 := hrA.cell 14
        have f0 := hrA.free 14
        have a1 := hrA.cell 15
        have f1 := hrA.free 15
        have a2 := hrA.cell 16
        have f2 := hrA.free 16
        have a3 := hrA.cell 17
        have f3 := hrA.free 17
        have a4 := hrA.cell 18
        have f4 := hrA.free 18
        have a5 := hrA.cell 19
        have f5 := hrA.free 19
        have a6 := hrA.cell 20
        have f6 := hrA.free 20
        simp only [List.getElem?_toArray, List.getElem?_cons_zero, List.getElem?_cons_succ] at e0 e1 e2 e3 e4 e5 e6
        simp only [darrK, D7.cs, z7, date7, dys, List.append_toArray, List.cons_append, List.nil_append, List.getElem?_toArray, List.getElem?_cons_zero, List.getElem?_cons_succ] at a0 a1 a2 a3 a4 a5 a6
        have HR2 := Lib.hid (And.intro hrE (And.intro hrL (And.intro hrA hrB)))
        have hTr := Lib.hid (HT.out.below (by have := hrB; rw [← HW.out] at this; exact this))
        clear hrE hrL hrA hrB
        have n1 : E ≠ A := HN.out.2.1
        have n2 : A ≠ E := fun q => HN.out.2.1 q.symm
        rw [show ((2 : Nat) : Int) = 2 from rfl]
        go_wp2_with fail
        refine (HCV.out _ hTr.out).mono ?_
        rintro e w' ⟨⟨r, rfl⟩, rfl⟩
        go_wp2
        go_roundw
        case rel =>
          have hE3 := ((HR2.out.1.set 0 (.int .i64 cy)).set 1 (.int .i64 cm)).set 2 (.int .i64 cd)
          have hL3 := ((HR2.out.2.1.other 0 (.int .i64 cy) (fun q => HN.out.1 q.symm)).other 1 (.int .i64 cm) (fun q => HN.out.1 q.symm)).other 2 (.int .i64 cd) (fun q => HN.out.1 q.symm)
          have hA3 := ((HR2.out.2.2.1.other 0 (.int .i64 cy) n2).other 1 (.int .i64 cm) n2).other 2 (.int .i64 cd) n2
          have hB3 := ((HR2.out.2.2.2.setCell (p := ⟨E, 0, none⟩) (Nat.le_refl _) (.int .i64 cy)).setCell (p := ⟨E, 1, none⟩) (Nat.le_refl _) (.int .i64 cm)).setCell (p := ⟨E, 2, none⟩) (Nat.le_refl _) (.int .i64 cd)
          exact ⟨3, by omega, rfl, ⟨_, _, _, put7_other hE3 n1 14 cy cm cd x.h x.i x.s x.c⟩, put7_other hL3 HN.out.2.2.1 14 cy cm cd x.h x.i x.s x.c,
            HST.out ▸ put7_row hA3 14 cy cm cd x.h x.i x.s x.c, put7_below hB3 HN.out.2.2.2.2 14 cy cm cd x.h x.i x.s x.c⟩
        case measure => simp [intOf]
    · obtain rfl : k = 3 := by omega
      rw [show darrK (dys T x) 3 = arr3 (dys T x) from rfl] at hrA
      have hno := fun W hW => nearestOf_any (dys T x) ref z HR.out W hW
      have hsz := arr3_size (dys T x)
      obtain ⟨F, hF⟩ : ∃ F, arr3 (dys T x) = F := ⟨_, rfl⟩
      rw [hF] at hrA hno hsz
      have hFF : wr.heap[A]? = some (.cells F 93 (0, 0)) := hrA
      have HF := Lib.hid (And.intro hFF (And.intro hno hsz))
      clear hrA hFF hno hsz hF hrE hrL hlt hk
      go_wp2_with (with_reducible refine wpList_load_row rfl 93 (.tmp 12) rfl A rfl 93 F (0, 0) _ HF.out.1 Tryd.underlying93 rfl (by rw [HF.out.2.2]; exact sizeArr3) ?_)
      refine (HF.out.2.1 _ (HT.out.below (by rw [← HW.out] at hrB; exact hrB))).mono ?_
      rintro e w2 ⟨rfl, hb2⟩
      go_wp2
      go_ret2
      obtain rfl := HW.out
      exact ⟨rfl, hrB.trans (hb2.mono hrB.size)⟩

set_option maxRecDepth 100000 in
set_option maxHeartbeats 4000000 in
theorem nearestDay_no (x : D7) (ref z : Int) (hk : ¬ okT ref z) (w : World) :
    Calls Tryd.prog 63 #[.agg #[.int .i64 x.y, .int .i64 x.m, .int .i64 x.d, .int .i64 x.h, .int .i64 x.i, .int .i64 x.s, .int .i64 x.c], .int .i64 ref, .int .i64 z] w fun e w' => e = .returned (.tuple #[.int .i64 0, .int .i64 2]) ∧ Below w.heap.size w w' := by
  have HD := Lib.hid (fun W => dates_no ref z hk W)
  clear hk
  go_enter Tryd.func63, Tryd.ntmps63
  go_wp2_with fail
  refine (HD.out _).mono ?_
  rintro e w1 ⟨rfl, hb1⟩
  have hb := bl_trans (below_alloc w _) hb1
  unfold zeroDate
  go_wp2
  go_ret2
  exact ⟨rfl, bl_trans hb (below_alloc _ _)⟩
theorem nearestDay_any (x : D7) (ref z : Int) (w : World) (hT : DaysT w) :
    Calls Tryd.prog 63 #[.agg #[.int .i64 x.y, .int .i64 x.m, .int .i64 x.d, .int .i64 x.h, .int .i64 x.i, .int .i64 x.s, .int .i64 x.c], .int .i64 ref, .int .i64 z] w fun e w' => e = .returned (.tuple #[.int .i64 (dyB x ref z).1, .int .i64 (dyB x ref z).2]) ∧ Below w.heap.size w w' := by
  by_cases hk : okT ref z
  · exact nearestDay_yes x ref z hk w hT
  · have e : dyB x ref z = (0, 2) := by unfold dyB; rw [if_neg hk]
    rw [e]; exact nearestDay_no x ref z hk w
end Go.Proofs.YtpbfgafkoodeoaaDoor

namespace Go.Proofs.YtpbfgafkoodeoaaDoor
open Go.RowKit

def sl1 (s : ByteArray) : CS := digitsC s ⟨0, false⟩ 1 2
def sl2 (s : ByteArray) : CS := expectC s (sl1 s) 47
def sl3 (s : ByteArray) : CS := digitsC s (sl2 s) 1 2
def sl4 (s : ByteArray) : CS := expectC s (sl3 s) 47
def sl5 (s : ByteArray) : CS := yearC s (sl4 s)
def sl6 (s : ByteArray) : CS := expectC s (sl5 s) 32
def sl7 (s : ByteArray) : CS := clockC s (sl6 s)
/-- The two numbers, as they stand. -/
def slA (s : ByteArray) : Nat := numC s 0 2
def slB (s : ByteArray) : Nat := numC s (sl2 s).pos 2
/-- The two numbers, month first. -/
def slM (s : ByteArray) (first : Bool) : Nat × Nat :=
  let p := if first = true then (slB s, slA s) else (slA s, slB s)
  if 12 < p.1 then (p.2, p.1) else p
def slD (s : ByteArray) (p : Nat × Nat) : D7 := ⟨yearV s (sl4 s), (p.1 : Nat), (p.2 : Nat), (clkH s (sl6 s) : Nat), (clkI s (sl6 s) : Nat), (clkS s (sl6 s) : Nat), (clkM s (sl6 s) : Nat)⟩
noncomputable def slV (s : ByteArray) (z : Int) (first : Bool) : Int := if (sl7 s).bad = true then 0 else (slD s (slM s first)).mV z
noncomputable def slE (s : ByteArray) (z : Int) (first : Bool) : Int := if (sl7 s).bad = true then 20 else (slD s (slM s first)).mE z
def epN (s : ByteArray) : Nat := dRun s 14 0
def epV (s : ByteArray) : Int := if epN s = 10 then (numC s 0 14 : Int) * 1000 else if epN s = 13 then (numC s 0 14 : Int) else 0
def epE (s : ByteArray) : Int := if epN s = 10 then 0 else if epN s = 13 then 0 else 20
def ckD (s : ByteArray) : D7 := ⟨0, 0, 0, (clkH s ⟨0, false⟩ : Nat), (clkI s ⟨0, false⟩ : Nat), (clkS s ⟨0, false⟩ : Nat), (clkM s ⟨0, false⟩ : Nat)⟩
def ckC (s : ByteArray) : CS := clockC s ⟨0, false⟩
noncomputable def ckV (s : ByteArray) (ref z : Int) : Int := if (ckC s).bad = true then 0 else (dyB (ckD s) ref z).1
noncomputable def ckE (s : ByteArray) (ref z : Int) : Int := if (ckC s).bad = true then 20 else (dyB (ckD s) ref z).2
theorem year_le {s : ByteArray} {p : CS} (h : p.pos ≤ s.size) : 0 ≤ yearV s p ∧ yearV s p ≤ 20000 := by
  have := numC_lt (s := s) (k := p.pos) (b := 4) h
  unfold yearV
  split
  · omega
  · split
    · omega
    · split <;> omega

set_option maxRecDepth 100000 in
set_option maxHeartbeats 8000000 in
theorem rclock_any (s : ByteArray) (B : Nat) (ref year zone : Int) (first : Bool) (w : World) (hc : CAt s B ⟨0, false⟩ w) (hg : Glob B w) :
    Calls Tryd.prog 36 #[cPtr B, .agg (hintsA ref year zone first)] w (FmOut s B (ckV s ref zone) (ckE s ref zone) (ckC s).pos w) := by
  have HC := Lib.hid hc
  have HG := Lib.hid hg
  clear hc hg
  unfold hintsA cPtr
  go_enter Tryd.func36, Tryd.ntmps36
  have ST0 := Lib.hid (St.start HC.out ref year zone first)
  go_wp2_with fail
  refine (ST0.out.clock).mono ?_
  rintro e w1 ⟨rfl, h1⟩
  have ST1 := Lib.hid h1
  clear h1
  have SZ := Lib.hid (show St s B (w.heap.size + 1) w.heap.size (ckC s) (ckD s) (hintsA ref year zone first) w w1 from ST1.out)
  have hb2 := SZ.out.c.parts.2.2.1
  cases hbad : (ckC s).bad with
  | true =>
    rw [hbad] at hb2
    have HV := Lib.hid (show ckV s ref zone = 0 ∧ ckE s ref zone = 20 from ⟨if_pos hbad, if_pos hbad⟩)
    clear hbad
    go_wp2
    exact bodyPost_ret (v := .tuple #[.int .i64 0, .int .i64 20]) (by simp [results, Tryd.results36, go_sem]) rfl ⟨rt_ii HV.out.1.symm HV.out.2.symm, ⟨_, SZ.out.c⟩, SZ.out.f⟩
  | false =>
    rw [hbad] at hb2
    obtain ⟨d0, d1, d2, d3, d4, d5, d6⟩ := SZ.out.dcell
    obtain ⟨i0, i1, i2, i3⟩ := SZ.out.hcell
    have hT := (SZ.out.glob HG.out).days
    have hvv : ckV s ref zone = (dyB (ckD s) ref zone).1 ∧ ckE s ref zone = (dyB (ckD s) ref zone).2 := ⟨if_neg (by rw [hbad]; simp), if_neg (by rw [hbad]; simp)⟩
    have hm := fun W h => nearestDay_any (ckD s) ref zone W h
    obtain ⟨X, hX⟩ : ∃ X, ckD s = X := ⟨_, rfl⟩
    rw [hX] at hm d0 d1 d2 d3 d4 d5 d6 hvv
    obtain ⟨⟨nv, ne⟩, hN⟩ : ∃ p, dyB X ref zone = p := ⟨_, rfl⟩
    rw [hN] at hm hvv
    simp only at hm hvv
    have HM := Lib.hid (And.intro hm hT)
    have HV := Lib.hid hvv
    clear hm hT hX hN hvv hbad
    go_wp2_with fail
    refine (HM.out.1 _ HM.out.2).mono ?_
    rintro e wm ⟨rfl, hbm⟩
    go_wp2
    exact bodyPost_ret (v := .tuple #[.int .i64 nv, .int .i64 ne]) (by simp [results, Tryd.results36, go_sem]) rfl ⟨rt_ii HV.out.1.symm HV.out.2.symm, ⟨_, SZ.out.c.below hbm⟩, SZ.out.f.below hbm⟩

set_option maxRecDepth 100000 in
set_option maxHeartbeats 8000000 in
theorem epoch_any (s : ByteArray) (B : Nat) (ref year zone : Int) (first : Bool) (w : World) (hc : CAt s B ⟨0, false⟩ w) :
    Calls Tryd.prog 35 #[cPtr B, .agg (hintsA ref year zone first)] w (FmOut s B (epV s) (epE s) (epN s) w) := by
  have hd := fun W h => digits_any s B ⟨0, false⟩ 10 14 (by omega) (by omega) W h
  have hn := fun W => numE (s := s) (k := 0) (b := 14) (Nat.zero_le _) (by omega) W
  have hlt := numC_lt (s := s) (k := 0) (b := 14) (Nat.zero_le _)
  have hsz := extr_size (dRun_in s 14 0 (Nat.zero_le _))
  have hpos : (digitsC s ⟨0, false⟩ 10 14).pos = epN s := Nat.zero_add _
  have hv : epV s = if epN s = 10 then (numC s 0 14 : Int) * 1000 else if epN s = 13 then (numC s 0 14 : Int) else 0 := rfl
  have he : epE s = if epN s = 10 then 0 else if epN s = 13 then 0 else 20 := rfl
  have hr : dRun s 14 0 = epN s := rfl
  simp only at hd
  obtain ⟨E, hE⟩ : ∃ E, s.extract 0 (0 + dRun s 14 0) = E := ⟨_, rfl⟩
  rw [hE] at hd hn hsz
  rw [hr] at hsz
  obtain ⟨⟨q, qb⟩, hq⟩ : ∃ q, digitsC s ⟨0, false⟩ 10 14 = q := ⟨_, rfl⟩
  rw [hq] at hd hpos
  simp only at hpos
  subst hpos
  obtain ⟨v, hvv⟩ : ∃ v, numC s 0 14 = v := ⟨_, rfl⟩
  rw [hvv] at hn hlt hv
  obtain ⟨V, hV⟩ : ∃ V, epV s = V := ⟨_, rfl⟩
  obtain ⟨R, hR⟩ : ∃ V, epE s = V := ⟨_, rfl⟩
  obtain ⟨n, hnn⟩ : ∃ n, epN s = n := ⟨_, rfl⟩
  rw [hV, hnn] at hv
  rw [hR, hnn] at he
  rw [hnn] at hsz hd
  rw [hV, hR, hnn]
  have H := Lib.hid (And.intro hd hn)
  have HC := Lib.hid hc
  unfold hintsA
  clear hd hn hE hq hvv hV hR hnn hc hr
  unfold cPtr at *
  have hm : 0 ≤ (v : Int) * 1000 ∧ (v : Int) * 1000 ≤ 100000000000000000 := by omega
  by_cases h10 : n = 10
  · have HV : Hid (V = (v : Int) * 1000 ∧ R = 0) := ⟨by rw [hv, if_pos h10], by rw [he, if_pos h10]⟩
    have e1 : ((E.size : Int) == 10) = true := by rw [beq_iff_eq]; omega
    clear hv he hsz
    go_enter Tryd.func35, Tryd.ntmps35
    go_wp2_with fail
    refine (H.out.1 _ (HC.out.alloc _)).mono ?_
    rintro e w1 ⟨rfl, h1, k1⟩
    go_wp2_with fail
    refine (H.out.2 _).mono ?_
    rintro e w2 ⟨⟨x, rfl⟩, hb2⟩
    have HF := Lib.hid (And.intro (h1.below hb2) ((((FrP.refl _ w).alloc (.cells #[.int .i64 ref, .int .i64 year, .int .i64 zone, .bool first] 48)).trans k1).below hb2))
    clear h1 k1 hb2
    go_wp2
    exact bodyPost_ret (v := .tuple #[.int .i64 ((v : Int) * 1000), .int .i64 0]) (by simp [results, Tryd.results35, go_sem]) rfl ⟨rt_ii HV.out.1.symm HV.out.2.symm, ⟨_, HF.out.1⟩, HF.out.2⟩
  · have e1 : ((E.size : Int) == 10) = false := by rw [beq_eq_false_iff_ne]; omega
    by_cases h13 : n = 13
    · have HV : Hid (V = (v : Int) ∧ R = 0) := ⟨by rw [hv, if_neg h10, if_pos h13], by rw [he, if_neg h10, if_pos h13]⟩
      have e2 : ((E.size : Int) == 13) = true := by rw [beq_iff_eq]; omega
      clear hv he hsz
      go_enter Tryd.func35, Tryd.ntmps35
      go_wp2_with fail
      refine (H.out.1 _ (HC.out.alloc _)).mono ?_
      rintro e w1 ⟨rfl, h1, k1⟩
      go_wp2_with fail
      refine (H.out.2 _).mono ?_
      rintro e w2 ⟨⟨x, rfl⟩, hb2⟩
      have HF := Lib.hid (And.intro (h1.below hb2) ((((FrP.refl _ w).alloc (.cells #[.int .i64 ref, .int .i64 year, .int .i64 zone, .bool first] 48)).trans k1).below hb2))
      clear h1 k1 hb2
      go_wp2
      exact bodyPost_ret (v := .tuple #[.int .i64 (v : Int), .int .i64 0]) (by simp [results, Tryd.results35, go_sem]) rfl ⟨rt_ii HV.out.1.symm HV.out.2.symm, ⟨_, HF.out.1⟩, HF.out.2⟩
    · have HV : Hid (V = 0 ∧ R = 20) := ⟨by rw [hv, if_neg h10, if_neg h13], by rw [he, if_neg h10, if_neg h13]⟩
      have e2 : ((E.size : Int) == 13) = false := by rw [beq_eq_false_iff_ne]; omega
      clear hv he hsz
      go_enter Tryd.func35, Tryd.ntmps35
      go_wp2_with fail
      refine (H.out.1 _ (HC.out.alloc _)).mono ?_
      rintro e w1 ⟨rfl, h1, k1⟩
      go_wp2_with fail
      refine (H.out.2 _).mono ?_
      rintro e w2 ⟨⟨x, rfl⟩, hb2⟩
      have HF := Lib.hid (And.intro (h1.below hb2) ((((FrP.refl _ w).alloc (.cells #[.int .i64 ref, .int .i64 year, .int .i64 zone, .bool first] 48)).trans k1).below hb2))
      clear h1 k1 hb2
      go_wp2
      exact bodyPost_ret (v := .tuple #[.int .i64 0, .int .i64 20]) (by simp [results, Tryd.results35, go_sem]) rfl ⟨rt_ii HV.out.1.symm HV.out.2.symm, ⟨_, HF.out.1⟩, HF.out.2⟩

set_option maxRecDepth 100000 in
set_option maxHeartbeats 8000000 in
theorem slashes_bad (s : ByteArray) (B : Nat) (ref year zone : Int) (first : Bool) (w : World) (hc : CAt s B ⟨0, false⟩ w) (hg : Glob B w) (hbd : (sl7 s).bad = true) :
    Calls Tryd.prog 34 #[cPtr B, .agg (hintsA ref year zone first)] w (FmOut s B (slV s zone first) (slE s zone first) (sl7 s).pos w) := by
  have N1 := fun W (h : CAt s B ⟨0, false⟩ W) => cnumber_any s B ⟨0, false⟩ 1 2 (by omega) (by omega) W h
  have N2 := fun W h => expect_any s B (sl1 s) 47 (by omega) W h
  have N3 := fun W h => cnumber_any s B (sl2 s) 1 2 (by omega) (by omega) W h
  have N4 := fun W h => expect_any s B (sl3 s) 47 (by omega) W h
  have N5 := fun W h => year_any s B (sl4 s) W h
  have N6 := fun W h => expect_any s B (sl5 s) 32 (by omega) W h
  have HC := Lib.hid hc
  have HG := Lib.hid hg
  clear hc hg
  unfold hintsA
  have HN := Lib.hid (And.intro N1 (And.intro N2 (And.intro N3 (And.intro N4 (And.intro N5 N6)))))
  clear N1 N2 N3 N4 N5 N6
  unfold cPtr at *
  go_enter Tryd.func34, Tryd.ntmps34
  have ST0 := Lib.hid (St.start HC.out ref year zone first)
  go_wp2_with fail
  refine (HN.out.1 _ ST0.out.c).mono ?_
  rintro e w1 ⟨rfl, h1, k1⟩
  have ST1 := Lib.hid (ST0.out.step h1 k1)
  clear h1 k1
  have a1 := ST1.out.dcell.2.1
  have f1 := ST1.out.d.free 1
  have SU1 := Lib.hid (ST1.out.s1 (slA s))
  go_wp2_with fail
  refine (HN.out.2.1 _ SU1.out.c).mono ?_
  rintro e w2 ⟨rfl, h2, k2⟩
  have ST2 := Lib.hid (SU1.out.step h2 k2)
  clear h2 k2
  clear a1 f1
  go_wp2_with fail
  refine (HN.out.2.2.1 _ ST2.out.c).mono ?_
  rintro e w3 ⟨rfl, h3, k3⟩
  have ST3 := Lib.hid (ST2.out.step h3 k3)
  clear h3 k3
  have a3 := ST3.out.dcell.2.2.1
  have f3 := ST3.out.d.free 2
  have SU3 := Lib.hid (ST3.out.s2 (slB s))
  go_wp2_with fail
  refine (HN.out.2.2.2.1 _ SU3.out.c).mono ?_
  rintro e w4 ⟨rfl, h4, k4⟩
  have ST4 := Lib.hid (SU3.out.step h4 k4)
  clear h4 k4
  clear a3 f3
  go_wp2_with fail
  refine (HN.out.2.2.2.2.1 _ ST4.out.c).mono ?_
  rintro e w5 ⟨rfl, h5, k5⟩
  have ST5 := Lib.hid (ST4.out.step h5 k5)
  clear h5 k5
  have a5 := ST5.out.dcell.1
  have f5 := ST5.out.d.free 0
  have SU5 := Lib.hid (ST5.out.s0 (yearV s (sl4 s)))
  go_wp2_with fail
  refine (HN.out.2.2.2.2.2 _ SU5.out.c).mono ?_
  rintro e w6 ⟨rfl, h6, k6⟩
  have ST6 := Lib.hid (SU5.out.step h6 k6)
  clear h6 k6
  clear a5 f5
  go_wp2_with fail
  refine (ST6.out.clock).mono ?_
  rintro e w7 ⟨rfl, h7⟩
  have ST7 := Lib.hid h7
  clear h7
  have SZ := Lib.hid (show St s B (w.heap.size + 1) w.heap.size (sl7 s) (slD s (slA s, slB s)) (hintsA ref year zone first) w w7 from ST7.out)
  have hb2 := SZ.out.c.parts.2.2.1
  cases hbad : (sl7 s).bad with
  | true =>
    rw [hbad] at hb2
    have HV := Lib.hid (show slV s zone first = 0 ∧ slE s zone first = 20 from ⟨if_pos hbad, if_pos hbad⟩)
    clear hbad
    go_wp2
    exact bodyPost_ret (v := .tuple #[.int .i64 0, .int .i64 20]) (by simp [results, Tryd.results34, go_sem]) rfl ⟨rt_ii HV.out.1.symm HV.out.2.symm, ⟨_, SZ.out.c⟩, SZ.out.f⟩
  | false => rw [hbd] at hbad; cases hbad
end Go.Proofs.YtpbfgafkoodeoaaDoor

namespace Go.Proofs.YtpbfgafkoodeoaaDoor
open Go.RowKit

set_option maxRecDepth 100000 in
set_option maxHeartbeats 8000000 in
theorem slashes_ok (s : ByteArray) (B : Nat) (ref year zone : Int) (first : Bool) (w : World) (hc : CAt s B ⟨0, false⟩ w) (hg : Glob B w) (hbd : (sl7 s).bad = false) :
    Calls Tryd.prog 34 #[cPtr B, .agg (hintsA ref year zone first)] w (FmOut s B (slV s zone first) (slE s zone first) (sl7 s).pos w) := by
  have N1 := fun W (h : CAt s B ⟨0, false⟩ W) => cnumber_any s B ⟨0, false⟩ 1 2 (by omega) (by omega) W h
  have N2 := fun W h => expect_any s B (sl1 s) 47 (by omega) W h
  have N3 := fun W h => cnumber_any s B (sl2 s) 1 2 (by omega) (by omega) W h
  have N4 := fun W h => expect_any s B (sl3 s) 47 (by omega) W h
  have N5 := fun W h => year_any s B (sl4 s) W h
  have N6 := fun W h => expect_any s B (sl5 s) 32 (by omega) W h
  have HC := Lib.hid hc
  have HG := Lib.hid hg
  clear hc hg
  unfold hintsA
  have HN := Lib.hid (And.intro N1 (And.intro N2 (And.intro N3 (And.intro N4 (And.intro N5 N6)))))
  clear N1 N2 N3 N4 N5 N6
  unfold cPtr at *
  go_enter Tryd.func34, Tryd.ntmps34
  have ST0 := Lib.hid (St.start HC.out ref year zone first)
  go_wp2_with fail
  refine (HN.out.1 _ ST0.out.c).mono ?_
  rintro e w1 ⟨rfl, h1, k1⟩
  have ST1 := Lib.hid (ST0.out.step h1 k1)
  clear h1 k1
  have a1 := ST1.out.dcell.2.1
  have f1 := ST1.out.d.free 1
  have SU1 := Lib.hid (ST1.out.s1 (slA s))
  go_wp2_with fail
  refine (HN.out.2.1 _ SU1.out.c).mono ?_
  rintro e w2 ⟨rfl, h2, k2⟩
  have ST2 := Lib.hid (SU1.out.step h2 k2)
  clear h2 k2
  clear a1 f1
  go_wp2_with fail
  refine (HN.out.2.2.1 _ ST2.out.c).mono ?_
  rintro e w3 ⟨rfl, h3, k3⟩
  have ST3 := Lib.hid (ST2.out.step h3 k3)
  clear h3 k3
  have a3 := ST3.out.dcell.2.2.1
  have f3 := ST3.out.d.free 2
  have SU3 := Lib.hid (ST3.out.s2 (slB s))
  go_wp2_with fail
  refine (HN.out.2.2.2.1 _ SU3.out.c).mono ?_
  rintro e w4 ⟨rfl, h4, k4⟩
  have ST4 := Lib.hid (SU3.out.step h4 k4)
  clear h4 k4
  clear a3 f3
  go_wp2_with fail
  refine (HN.out.2.2.2.2.1 _ ST4.out.c).mono ?_
  rintro e w5 ⟨rfl, h5, k5⟩
  have ST5 := Lib.hid (ST4.out.step h5 k5)
  clear h5 k5
  have a5 := ST5.out.dcell.1
  have f5 := ST5.out.d.free 0
  have SU5 := Lib.hid (ST5.out.s0 (yearV s (sl4 s)))
  go_wp2_with fail
  refine (HN.out.2.2.2.2.2 _ SU5.out.c).mono ?_
  rintro e w6 ⟨rfl, h6, k6⟩
  have ST6 := Lib.hid (SU5.out.step h6 k6)
  clear h6 k6
  clear a5 f5
  go_wp2_with fail
  refine (ST6.out.clock).mono ?_
  rintro e w7 ⟨rfl, h7⟩
  have ST7 := Lib.hid h7
  clear h7
  have SZ := Lib.hid (show St s B (w.heap.size + 1) w.heap.size (sl7 s) (slD s (slA s, slB s)) (hintsA ref year zone first) w w7 from ST7.out)
  have hb2 := SZ.out.c.parts.2.2.1
  rw [hbd] at hb2
  have hvv : slV s zone first = (slD s (slM s first)).mV zone ∧ slE s zone first = (slD s (slM s first)).mE zone := ⟨if_neg (by rw [hbd]; simp), if_neg (by rw [hbd]; simp)⟩
  have hX : ∃ a c d f g, ∀ p, slD s p = ⟨a, (p.1 : Nat), (p.2 : Nat), c, d, f, g⟩ := ⟨_, _, _, _, _, fun p => rfl⟩
  obtain ⟨xa, xc, xd, xf, xg, hX⟩ := hX
  have hS0 := SZ.out
  rw [hX] at hS0
  rw [hX] at hvv
  obtain ⟨a, ha⟩ : ∃ a, slA s = a := ⟨_, rfl⟩
  obtain ⟨b, hb⟩ : ∃ a, slB s = a := ⟨_, rfl⟩
  have hMm : slM s first = if 12 < (if first = true then (b, a) else (a, b)).1 then ((if first = true then (b, a) else (a, b)).2, (if first = true then (b, a) else (a, b)).1) else (if first = true then (b, a) else (a, b)) := by unfold slM; rw [ha, hb]
  rw [ha, hb] at hS0
  simp only at hS0
  have HS := Lib.hid hS0
  have HMV := Lib.hid (And.intro hMm hvv)
  have ha2 : numC s 0 2 = a := ha
  have hb2' : numC s (sl2 s).pos 2 = b := hb
  clear hX hS0 SZ hbd hMm hvv
  cases first with
  | true =>
    obtain ⟨i0, i1, i2, i3⟩ := HS.out.hcell
    obtain ⟨d0, d1, d2, d3, d4, d5, d6⟩ := HS.out.dcell
    have f1 := HS.out.d.free 1
    have f2 := HS.out.d.free 2
    simp only at d0 d1 d2 d3 d4 d5 d6
    have S1 := Lib.hid ((HS.out.s1 b).s2 a)
    go_upto_region 13 with (fail)
    try simp only [ha2, hb2']
    obtain ⟨W1, hW1⟩ : ∃ W, (w7.setCell ⟨w.heap.size + 1, 1, none⟩ (.int .i64 (b : Int))).setCell ⟨w.heap.size + 1, 2, none⟩ (.int .i64 (a : Int)) = W := ⟨_, rfl⟩
    rw [hW1] at S1 ⊢
    clear i0 i1 i2 i3 d0 d1 d2 d3 d4 d5 d6 f1 f2 hW1 hb2
    clear ha2 hb2' ha hb
    by_cases h12 : 12 < b
    · have e1 : decide ((12 : Int) < (b : Int)) = true := by rw [decide_eq_true_iff]; omega
      obtain ⟨d0, d1, d2, d3, d4, d5, d6⟩ := S1.out.dcell
      have f1 := S1.out.d.free 1
      have f2 := S1.out.d.free 2
      simp only at d0 d1 d2 d3 d4 d5 d6
      have S2 := Lib.hid ((S1.out.s1 a).s2 b)
      go_upto_region 15 with (fail)
      obtain ⟨W2, hW2⟩ : ∃ W, (W1.setCell ⟨w.heap.size + 1, 1, none⟩ (.int .i64 (a : Int))).setCell ⟨w.heap.size + 1, 2, none⟩ (.int .i64 (b : Int)) = W := ⟨_, rfl⟩
      rw [hW2] at S2 ⊢
      clear d0 d1 d2 d3 d4 d5 d6 f1 f2 hW2 e1
      obtain ⟨i0, i1, i2, i3⟩ := S2.out.hcell
      obtain ⟨d0, d1, d2, d3, d4, d5, d6⟩ := S2.out.dcell
      have f1 := S2.out.d.free 1
      have f2 := S2.out.d.free 2
      simp only at d0 d1 d2 d3 d4 d5 d6
      have hvv := HMV.out.2
      rw [show slM s true = (a, b) by rw [HMV.out.1]; simp [h12]] at hvv
      simp only at hvv
      have hm := fun W h => mil_any ⟨xa, (a : Nat), (b : Nat), xc, xd, xf, xg⟩ zone W h
      simp only at hm
      obtain ⟨zv, hzv⟩ : ∃ v, D7.mV ⟨xa, (a : Nat), (b : Nat), xc, xd, xf, xg⟩ zone = v := ⟨_, rfl⟩
      obtain ⟨ze, hze⟩ : ∃ v, D7.mE ⟨xa, (a : Nat), (b : Nat), xc, xd, xf, xg⟩ zone = v := ⟨_, rfl⟩
      rw [hzv, hze] at hm hvv
      have HM := Lib.hid (And.intro hm (S2.out.glob HG.out).days)
      have HV := Lib.hid hvv
      clear hm hvv hzv hze
      go_wp2_with fail
      refine (HM.out.1 _ HM.out.2).mono ?_
      rintro e wm ⟨rfl, hbm⟩
      go_wp2
      exact bodyPost_ret (v := .tuple #[.int .i64 zv, .int .i64 ze]) (by simp [results, Tryd.results34, go_sem]) rfl ⟨rt_ii HV.out.1.symm HV.out.2.symm, ⟨_, S2.out.c.below hbm⟩, S2.out.f.below hbm⟩
    · have e1 : decide ((12 : Int) < (b : Int)) = false := by rw [decide_eq_false_iff_not]; omega
      obtain ⟨i0, i1, i2, i3⟩ := S1.out.hcell
      obtain ⟨d0, d1, d2, d3, d4, d5, d6⟩ := S1.out.dcell
      have f1 := S1.out.d.free 1
      have f2 := S1.out.d.free 2
      simp only at d0 d1 d2 d3 d4 d5 d6
      have hvv := HMV.out.2
      rw [show slM s true = (b, a) by rw [HMV.out.1]; simp [h12]] at hvv
      simp only at hvv
      have hm := fun W h => mil_any ⟨xa, (b : Nat), (a : Nat), xc, xd, xf, xg⟩ zone W h
      simp only at hm
      obtain ⟨zv, hzv⟩ : ∃ v, D7.mV ⟨xa, (b : Nat), (a : Nat), xc, xd, xf, xg⟩ zone = v := ⟨_, rfl⟩
      obtain ⟨ze, hze⟩ : ∃ v, D7.mE ⟨xa, (b : Nat), (a : Nat), xc, xd, xf, xg⟩ zone = v := ⟨_, rfl⟩
      rw [hzv, hze] at hm hvv
      have HM := Lib.hid (And.intro hm (S1.out.glob HG.out).days)
      have HV := Lib.hid hvv
      clear hm hvv hzv hze
      go_wp2_with fail
      refine (HM.out.1 _ HM.out.2).mono ?_
      rintro e wm ⟨rfl, hbm⟩
      go_wp2
      exact bodyPost_ret (v := .tuple #[.int .i64 zv, .int .i64 ze]) (by simp [results, Tryd.results34, go_sem]) rfl ⟨rt_ii HV.out.1.symm HV.out.2.symm, ⟨_, S1.out.c.below hbm⟩, S1.out.f.below hbm⟩
  | false =>
    obtain ⟨i0, i1, i2, i3⟩ := HS.out.hcell
    obtain ⟨d0, d1, d2, d3, d4, d5, d6⟩ := HS.out.dcell
    have f1 := HS.out.d.free 1
    have f2 := HS.out.d.free 2
    simp only at d0 d1 d2 d3 d4 d5 d6
    go_upto_region 13 with (fail)
    try simp only [ha2, hb2']
    clear i0 i1 i2 i3 d0 d1 d2 d3 d4 d5 d6 f1 f2 hb2
    clear ha2 hb2' ha hb
    by_cases h12 : 12 < a
    · have e1 : decide ((12 : Int) < (a : Int)) = true := by rw [decide_eq_true_iff]; omega
      obtain ⟨d0, d1, d2, d3, d4, d5, d6⟩ := HS.out.dcell
      have f1 := HS.out.d.free 1
      have f2 := HS.out.d.free 2
      simp only at d0 d1 d2 d3 d4 d5 d6
      have S2 := Lib.hid ((HS.out.s1 b).s2 a)
      go_upto_region 15 with (fail)
      obtain ⟨W2, hW2⟩ : ∃ W, (w7.setCell ⟨w.heap.size + 1, 1, none⟩ (.int .i64 (b : Int))).setCell ⟨w.heap.size + 1, 2, none⟩ (.int .i64 (a : Int)) = W := ⟨_, rfl⟩
      rw [hW2] at S2 ⊢
      clear d0 d1 d2 d3 d4 d5 d6 f1 f2 hW2 e1
      obtain ⟨i0, i1, i2, i3⟩ := S2.out.hcell
      obtain ⟨d0, d1, d2, d3, d4, d5, d6⟩ := S2.out.dcell
      have f1 := S2.out.d.free 1
      have f2 := S2.out.d.free 2
      simp only at d0 d1 d2 d3 d4 d5 d6
      have hvv := HMV.out.2
      rw [show slM s false = (b, a) by rw [HMV.out.1]; simp [h12]] at hvv
      simp only at hvv
      have hm := fun W h => mil_any ⟨xa, (b : Nat), (a : Nat), xc, xd, xf, xg⟩ zone W h
      simp only at hm
      obtain ⟨zv, hzv⟩ : ∃ v, D7.mV ⟨xa, (b : Nat), (a : Nat), xc, xd, xf, xg⟩ zone = v := ⟨_, rfl⟩
      obtain ⟨ze, hze⟩ : ∃ v, D7.mE ⟨xa, (b : Nat), (a : Nat), xc, xd, xf, xg⟩ zone = v := ⟨_, rfl⟩
      rw [hzv, hze] at hm hvv
      have HM := Lib.hid (And.intro hm (S2.out.glob HG.out).days)
      have HV := Lib.hid hvv
      clear hm hvv hzv hze
      go_wp2_with fail
      refine (HM.out.1 _ HM.out.2).mono ?_
      rintro e wm ⟨rfl, hbm⟩
      go_wp2
      exact bodyPost_ret (v := .tuple #[.int .i64 zv, .int .i64 ze]) (by simp [results, Tryd.results34, go_sem]) rfl ⟨rt_ii HV.out.1.symm HV.out.2.symm, ⟨_, S2.out.c.below hbm⟩, S2.out.f.below hbm⟩
    · have e1 : decide ((12 : Int) < (a : Int)) = false := by rw [decide_eq_false_iff_not]; omega
      obtain ⟨i0, i1, i2, i3⟩ := HS.out.hcell
      obtain ⟨d0, d1, d2, d3, d4, d5, d6⟩ := HS.out.dcell
      have f1 := HS.out.d.free 1
      have f2 := HS.out.d.free 2
      simp only at d0 d1 d2 d3 d4 d5 d6
      have hvv := HMV.out.2
      rw [show slM s false = (a, b) by rw [HMV.out.1]; simp [h12]] at hvv
      simp only at hvv
      have hm := fun W h => mil_any ⟨xa, (a : Nat), (b : Nat), xc, xd, xf, xg⟩ zone W h
      simp only at hm
      obtain ⟨zv, hzv⟩ : ∃ v, D7.mV ⟨xa, (a : Nat), (b : Nat), xc, xd, xf, xg⟩ zone = v := ⟨_, rfl⟩
      obtain ⟨ze, hze⟩ : ∃ v, D7.mE ⟨xa, (a : Nat), (b : Nat), xc, xd, xf, xg⟩ zone = v := ⟨_, rfl⟩
      rw [hzv, hze] at hm hvv
      have HM := Lib.hid (And.intro hm (HS.out.glob HG.out).days)
      have HV := Lib.hid hvv
      clear hm hvv hzv hze
      go_wp2_with fail
      refine (HM.out.1 _ HM.out.2).mono ?_
      rintro e wm ⟨rfl, hbm⟩
      go_wp2
      exact bodyPost_ret (v := .tuple #[.int .i64 zv, .int .i64 ze]) (by simp [results, Tryd.results34, go_sem]) rfl ⟨rt_ii HV.out.1.symm HV.out.2.symm, ⟨_, HS.out.c.below hbm⟩, HS.out.f.below hbm⟩

theorem slashes_any (s : ByteArray) (B : Nat) (ref year zone : Int) (first : Bool) (w : World) (hc : CAt s B ⟨0, false⟩ w) (hg : Glob B w) :
    Calls Tryd.prog 34 #[cPtr B, .agg (hintsA ref year zone first)] w (FmOut s B (slV s zone first) (slE s zone first) (sl7 s).pos w) := by
  cases hb : (sl7 s).bad with
  | true => exact slashes_bad s B ref year zone first w hc hg hb
  | false => exact slashes_ok s B ref year zone first w hc hg hb
end Go.Proofs.YtpbfgafkoodeoaaDoor
