/- The contract of package timestamp's nearestDay. -/
import Derived.Test.YtofomlbhbbhdjaaDoorTsNst
namespace Go.Proofs.YtofomlbhbbhdjaaDoor
open Go.RowKit

theorem civT_no {n : Int} (h : n < -719162 ∨ 2932896 < n) : civT n = (0, 0, 0) := by
  unfold civT
  rw [dif_neg]
  rintro ⟨t, hv, hn⟩
  have := Cal.num_bounds hv
  omega
theorem civil_any (n : Int) (w : World) (hT : DaysT w) :
    Calls Tryd.prog 46 #[.int .i64 n] w fun e w' => (∃ r, e = .returned (.tuple #[.int .i64 (civT n).1, .int .i64 (civT n).2.1, .int .i64 (civT n).2.2, .bool r])) ∧ w = w' := by
  by_cases h : n < -719162 ∨ 2932896 < n
  · rw [civT_no h]
    exact (civil_no n h w).mono fun e w' ⟨he, hw⟩ => ⟨⟨_, he⟩, hw⟩
  · refine (civil_yes n (by omega) (by omega) w hT).mono fun e w' ⟨y, m, d, he, hv, hn, hw⟩ => ?_
    rw [civT_is hv hn]
    exact ⟨⟨_, he⟩, hw⟩
/-- The days around. -/
noncomputable def dys (T : Int) (x : D7) (k : Nat) : D7 := ⟨(civT (T - 1 + k)).1, (civT (T - 1 + k)).2.1, (civT (T - 1 + k)).2.2, x.h, x.i, x.s, x.c⟩
noncomputable def darrK (xs : Nat → D7) : Nat → Array Value
  | 0 => z7 ++ z7 ++ z7
  | 1 => (xs 0).cs ++ z7 ++ z7
  | 2 => (xs 0).cs ++ (xs 1).cs ++ z7
  | _ => arr3 xs
theorem day_step0 (T : Int) (x : D7) : set7 (darrK (dys T x) 0) 0 (civT (T - 1)).1 (civT (T - 1)).2.1 (civT (T - 1)).2.2 x.h x.i x.s x.c = darrK (dys T x) 1 := by simp [set7, darrK, dys, D7.cs, date7, z7]
theorem day_step1 (T : Int) (x : D7) : set7 (darrK (dys T x) 1) 7 (civT T).1 (civT T).2.1 (civT T).2.2 x.h x.i x.s x.c = darrK (dys T x) 2 := by simp [set7, darrK, dys, D7.cs, date7, z7]
theorem day_step2 (T : Int) (x : D7) : set7 (darrK (dys T x) 2) 14 (civT (T - 1 + 2)).1 (civT (T - 1 + 2)).2.1 (civT (T - 1 + 2)).2.2 x.h x.i x.s x.c = darrK (dys T x) 3 := by simp [set7, darrK, arr3, dys, D7.cs, date7, z7]
open Classical in
noncomputable def dyB (x : D7) (ref z : Int) : Int × Int := if okT ref z then nfold ref z (dys (pOf ref z / 86400000 - 719162) x) 3 else (0, 2)

set_option maxRecDepth 100000 in
set_option maxHeartbeats 16000000 in
theorem nearestDay_yes (x : D7) (ref z : Int) (hk : okT ref z) (w : World) (hT : DaysT w) :
    Calls Tryd.prog 82 #[.agg #[.int .i64 x.y, .int .i64 x.m, .int .i64 x.d, .int .i64 x.h, .int .i64 x.i, .int .i64 x.s, .int .i64 x.c], .int .i64 ref, .int .i64 z] w fun e w' => e = .returned (.tuple #[.int .i64 (dyB x ref z).1, .int .i64 (dyB x ref z).2]) ∧ Below w.heap.size w w' := by
  have hd := fun W hW => dates_yes ref z hk.1 hk.2.1 hk.2.2 W hW
  unfold dyB
  rw [if_pos hk]
  have hr := hk.1
  have hp : ref + z * 60000 + 62135596800000 = pOf ref z := rfl
  have hk3 := hk.2.2
  rw [hp] at hd
  obtain ⟨T, hTT⟩ : ∃ T, pOf ref z / 86400000 - 719162 = T := ⟨_, rfl⟩
  have hTb : -4000000 ≤ T ∧ T ≤ 4000000 := by
    obtain ⟨h1, h2⟩ := hk3
    unfold pOf at hTT
    omega
  obtain ⟨p, hpp⟩ : ∃ p, pOf ref z = p := ⟨_, rfl⟩
  rw [hpp] at hd hTT
  rw [hpp, hTT]
  have HTT := Lib.hid hTT
  have HD := Lib.hid hd
  have HR := Lib.hid hr
  have HT := Lib.hid hT
  clear hd hr hp hpp hT hk hTT hk3
  obtain ⟨T1, T2⟩ := hTb
  go_enter Tryd.func82, Tryd.ntmps82
  go_wp2_with fail
  refine (HD.out _ (HT.out.alloc _)).mono ?_
  rintro e w1 ⟨Y, M, D, rfl, hv, hn, hb1⟩
  have hdy := fun W hW => days_yes Y M D hv W hW
  rw [hn, HTT.out] at hdy
  have hb := bl_trans (below_alloc w (.cells #[.int .i64 x.y, .int .i64 x.m, .int .i64 x.d, .int .i64 x.h, .int .i64 x.i, .int .i64 x.s, .int .i64 x.c] 36)) hb1
  have hdt : RowAt w.heap.size 36 #[.int .i64 x.y, .int .i64 x.m, .int .i64 x.d, .int .i64 x.h, .int .i64 x.i, .int .i64 x.s, .int .i64 x.c] w1 := (RowAt.new _ _ w).below hb1
  unfold dateV
  obtain ⟨H, hH⟩ : ∃ q, p / 3600000 % 24 = q := ⟨_, rfl⟩
  obtain ⟨I, hI⟩ : ∃ q, p / 60000 % 60 = q := ⟨_, rfl⟩
  obtain ⟨S, hS⟩ : ∃ q, p / 1000 % 60 = q := ⟨_, rfl⟩
  obtain ⟨C, hC⟩ : ∃ q, p % 1000 = q := ⟨_, rfl⟩
  rw [hH, hI, hS, hC]
  have HB := Lib.hid (And.intro hb hdt)
  have HDY := Lib.hid hdy
  clear hv hn hb1 hb hdt hH hI hS hC hdy
  have hX1 := below_alloc w1 (.cells #[.int .i64 Y, .int .i64 M, .int .i64 D, .int .i64 H, .int .i64 I, .int .i64 S, .int .i64 C] 36)
  go_wp2_with fail
  refine (HDY.out _ (HT.out.below (bl_trans HB.out.1 hX1))).mono ?_
  rintro e w' ⟨rfl, rfl⟩
  clear hX1
  go_wp2_with fail
  have hX : Below w1.heap.size w1 ((w1.alloc (.cells #[.int .i64 Y, .int .i64 M, .int .i64 D, .int .i64 H, .int .i64 I, .int .i64 S, .int .i64 C] 36)).alloc (.cells #[.int .i64 0, .int .i64 0, .int .i64 0, .int .i64 0, .int .i64 0, .int .i64 0, .int .i64 0, .int .i64 0, .int .i64 0, .int .i64 0, .int .i64 0, .int .i64 0, .int .i64 0, .int .i64 0, .int .i64 0, .int .i64 0, .int .i64 0, .int .i64 0, .int .i64 0, .int .i64 0, .int .i64 0] 77)) := bl_trans (below_alloc w1 _) (below_alloc _ _)
  have hXL := (RowAt.new 36 #[.int .i64 Y, .int .i64 M, .int .i64 D, .int .i64 H, .int .i64 I, .int .i64 S, .int .i64 C] w1).below (below_alloc _ (.cells #[.int .i64 0, .int .i64 0, .int .i64 0, .int .i64 0, .int .i64 0, .int .i64 0, .int .i64 0, .int .i64 0, .int .i64 0, .int .i64 0, .int .i64 0, .int .i64 0, .int .i64 0, .int .i64 0, .int .i64 0, .int .i64 0, .int .i64 0, .int .i64 0, .int .i64 0, .int .i64 0, .int .i64 0] 77))
  have hXA := RowAt.new 77 #[.int .i64 0, .int .i64 0, .int .i64 0, .int .i64 0, .int .i64 0, .int .i64 0, .int .i64 0, .int .i64 0, .int .i64 0, .int .i64 0, .int .i64 0, .int .i64 0, .int .i64 0, .int .i64 0, .int .i64 0, .int .i64 0, .int .i64 0, .int .i64 0, .int .i64 0, .int .i64 0, .int .i64 0] (w1.alloc (.cells #[.int .i64 Y, .int .i64 M, .int .i64 D, .int .i64 H, .int .i64 I, .int .i64 S, .int .i64 C] 36))
  have hXs : (w1.alloc (.cells #[.int .i64 Y, .int .i64 M, .int .i64 D, .int .i64 H, .int .i64 I, .int .i64 S, .int .i64 C] 36)).heap.size = w1.heap.size + 1 := by simp
  rw [hXs] at hXA
  obtain ⟨X, hXX⟩ : ∃ X, (w1.alloc (.cells #[.int .i64 Y, .int .i64 M, .int .i64 D, .int .i64 H, .int .i64 I, .int .i64 S, .int .i64 C] 36)).alloc (.cells #[.int .i64 0, .int .i64 0, .int .i64 0, .int .i64 0, .int .i64 0, .int .i64 0, .int .i64 0, .int .i64 0, .int .i64 0, .int .i64 0, .int .i64 0, .int .i64 0, .int .i64 0, .int .i64 0, .int .i64 0, .int .i64 0, .int .i64 0, .int .i64 0, .int .i64 0, .int .i64 0, .int .i64 0] 77) = X := ⟨_, rfl⟩
  rw [hXX] at hX hXL hXA ⊢
  have hXD := HB.out.2.below hX
  have hXB := bl_trans HB.out.1 hX
  have hlt1 : w.heap.size < w1.heap.size := HB.out.2.lt
  obtain ⟨A, hA⟩ : ∃ A, w1.heap.size + 1 = A := ⟨_, rfl⟩
  obtain ⟨L, hL⟩ : ∃ L, w1.heap.size = L := ⟨_, rfl⟩
  obtain ⟨E, hE⟩ : ∃ E, w.heap.size = E := ⟨_, rfl⟩
  have hne : E ≠ L ∧ E ≠ A ∧ L ≠ A ∧ E ≤ L ∧ E ≤ A := by omega
  have HW := Lib.hid hE
  rw [hA] at hXA ⊢
  rw [hL] at hXL ⊢
  rw [hE] at hXD hXB ⊢
  have HX := Lib.hid (And.intro hXD (And.intro hXL (And.intro hXA hXB)))
  have HN := Lib.hid hne
  clear hX hXL hXA hXs hXX hXD hXB hlt1 hA hL hE hne HB
  go_loopw [33] (fun i wr => ∃ k : Nat, k ≤ 3 ∧ i = .int .i64 k ∧ (∃ ey em ed : Int, RowAt E 36 #[.int .i64 ey, .int .i64 em, .int .i64 ed, .int .i64 x.h, .int .i64 x.i, .int .i64 x.s, .int .i64 x.c] wr) ∧ RowAt L 36 #[.int .i64 Y, .int .i64 M, .int .i64 D, .int .i64 H, .int .i64 I, .int .i64 S, .int .i64 C] wr ∧ RowAt A 77 (darrK (dys T x) k) wr ∧ Below E w wr) (fun i _ => 3 - (intOf i).toNat)
  case atStart => exact ⟨0, by omega, rfl, ⟨x.y, x.m, x.d, HX.out.1⟩, HX.out.2.1, HX.out.2.2.1, HX.out.2.2.2⟩
  case round =>
    obtain ⟨k, hk, rfl, ⟨ey, em, ed, hrE⟩, hrL, hrA, hrB⟩ := hrel
    by_cases hlt : k < 3
    · have hk3 : k = 0 ∨ k = 1 ∨ k = 2 := by omega
      rcases hk3 with rfl | rfl | rfl
      · clear hlt hk
        have hcv := fun W hW => civil_any (T - 1) W hW
        have hst := day_step0 T x
        obtain ⟨⟨cy, cm, cd⟩, hct⟩ : ∃ t, civT (T - 1) = t := ⟨_, rfl⟩
        rw [hct] at hcv hst
        simp only at hcv hst
        have HST := Lib.hid hst
        have HCV := Lib.hid hcv
        clear hcv hst hct
        have e0 := hrE.cell 0
        have e1 := hrE.cell 1
        have e2 := hrE.cell 2
        have e3 := hrE.cell 3
        have e4 := hrE.cell 4
        have e5 := hrE.cell 5
        have e6 := hrE.cell 6
        have fe0 := hrE.free 0
        have fe1 := hrE.free 1
        have fe2 := hrE.free 2
        have a0 := hrA.cell 0
        have f0 := hrA.free 0
        have a1 := hrA.cell 1
        have f1 := hrA.free 1
        have a2 := hrA.cell 2
        have f2 := hrA.free 2
        have a3 := hrA.cell 3
        have f3 := hrA.free 3
        have a4 := hrA.cell 4
        have f4 := hrA.free 4
        have a5 := hrA.cell 5
        have f5 := hrA.free 5
        have a6 := hrA.cell 6
        have f6 := hrA.free 6
        simp only [List.getElem?_toArray, List.getElem?_cons_zero, List.getElem?_cons_succ] at e0 e1 e2 e3 e4 e5 e6
        simp only [darrK, z7, date7, List.append_toArray, List.cons_append, List.nil_append, List.getElem?_toArray, List.getElem?_cons_zero, List.getElem?_cons_succ] at a0 a1 a2 a3 a4 a5 a6
        have HR2 := Lib.hid (And.intro hrE (And.intro hrL (And.intro hrA hrB)))
        have hTr := Lib.hid (HT.out.below (by have := hrB; rw [← HW.out] at this; exact this))
        clear hrE hrL hrA hrB
        have n1 : E ≠ A := HN.out.2.1
        have n2 : A ≠ E := fun q => HN.out.2.1 q.symm
        rw [show ((0 : Nat) : Int) = 0 from rfl]
        go_wp2_with fail
        refine (HCV.out _ hTr.out).mono ?_
        rintro e w' ⟨⟨r, rfl⟩, rfl⟩
        go_wp2
        go_roundw
        case rel =>
          have hE3 := ((HR2.out.1.set 0 (.int .i64 cy)).set 1 (.int .i64 cm)).set 2 (.int .i64 cd)
          have hL3 := ((HR2.out.2.1.other 0 (.int .i64 cy) (fun q => HN.out.1 q.symm)).other 1 (.int .i64 cm) (fun q => HN.out.1 q.symm)).other 2 (.int .i64 cd) (fun q => HN.out.1 q.symm)
          have hA3 := ((HR2.out.2.2.1.other 0 (.int .i64 cy) n2).other 1 (.int .i64 cm) n2).other 2 (.int .i64 cd) n2
          have hB3 := ((HR2.out.2.2.2.setCell (p := ⟨E, 0, none⟩) (Nat.le_refl _) (.int .i64 cy)).setCell (p := ⟨E, 1, none⟩) (Nat.le_refl _) (.int .i64 cm)).setCell (p := ⟨E, 2, none⟩) (Nat.le_refl _) (.int .i64 cd)
          exact ⟨1, by omega, rfl, ⟨_, _, _, put7_other hE3 n1 0 cy cm cd x.h x.i x.s x.c⟩, put7_other hL3 HN.out.2.2.1 0 cy cm cd x.h x.i x.s x.c,
            HST.out ▸ put7_row hA3 0 cy cm cd x.h x.i x.s x.c, put7_below hB3 HN.out.2.2.2.2 0 cy cm cd x.h x.i x.s x.c⟩
        case measure => simp [intOf]
      · clear hlt hk
        have hcv := fun W hW => civil_any T W hW
        have hst := day_step1 T x
        obtain ⟨⟨cy, cm, cd⟩, hct⟩ : ∃ t, civT T = t := ⟨_, rfl⟩
        rw [hct] at hcv hst
        simp only at hcv hst
        have HST := Lib.hid hst
        have HCV := Lib.hid hcv
        clear hcv hst hct
        have e0 := hrE.cell 0
        have e1 := hrE.cell 1
        have e2 := hrE.cell 2
        have e3 := hrE.cell 3
        have e4 := hrE.cell 4
        have e5 := hrE.cell 5
        have e6 := hrE.cell 6
        have fe0 := hrE.free 0
        have fe1 := hrE.free 1
        have fe2 := hrE.free 2
        have a0 := hrA.cell 7
        have f0 := hrA.free 7
        have a1 := hrA.cell 8
        have f1 := hrA.free 8
        have a2 := hrA.cell 9
        have f2 := hrA.free 9
        have a3 := hrA.cell 10
        have f3 := hrA.free 10
        have a4 := hrA.cell 11
        have f4 := hrA.free 11
        have a5 := hrA.cell 12
        have f5 := hrA.free 12
        have a6 := hrA.cell 13
        have f6 := hrA.free 13
        simp only [List.getElem?_toArray, List.getElem?_cons_zero, List.getElem?_cons_succ] at e0 e1 e2 e3 e4 e5 e6
        simp only [darrK, D7.cs, z7, date7, dys, List.append_toArray, List.cons_append, List.nil_append, List.getElem?_toArray, List.getElem?_cons_zero, List.getElem?_cons_succ] at a0 a1 a2 a3 a4 a5 a6
        have HR2 := Lib.hid (And.intro hrE (And.intro hrL (And.intro hrA hrB)))
        have hTr := Lib.hid (HT.out.below (by have := hrB; rw [← HW.out] at this; exact this))
        clear hrE hrL hrA hrB
        have n1 : E ≠ A := HN.out.2.1
        have n2 : A ≠ E := fun q => HN.out.2.1 q.symm
        rw [show ((1 : Nat) : Int) = 1 from rfl]
        go_wp2_with fail
        refine (HCV.out _ hTr.out).mono ?_
        rintro e w' ⟨⟨r, rfl⟩, rfl⟩
        go_wp2
        go_roundw
        case rel =>
          have hE3 := ((HR2.out.1.set 0 (.int .i64 cy)).set 1 (.int .i64 cm)).set 2 (.int .i64 cd)
          have hL3 := ((HR2.out.2.1.other 0 (.int .i64 cy) (fun q => HN.out.1 q.symm)).other 1 (.int .i64 cm) (fun q => HN.out.1 q.symm)).other 2 (.int .i64 cd) (fun q => HN.out.1 q.symm)
          have hA3 := ((HR2.out.2.2.1.other 0 (.int .i64 cy) n2).other 1 (.int .i64 cm) n2).other 2 (.int .i64 cd) n2
          have hB3 := ((HR2.out.2.2.2.setCell (p := ⟨E, 0, none⟩) (Nat.le_refl _) (.int .i64 cy)).setCell (p := ⟨E, 1, none⟩) (Nat.le_refl _) (.int .i64 cm)).setCell (p := ⟨E, 2, none⟩) (Nat.le_refl _) (.int .i64 cd)
          exact ⟨2, by omega, rfl, ⟨_, _, _, put7_other hE3 n1 7 cy cm cd x.h x.i x.s x.c⟩, put7_other hL3 HN.out.2.2.1 7 cy cm cd x.h x.i x.s x.c,
            HST.out ▸ put7_row hA3 7 cy cm cd x.h x.i x.s x.c, put7_below hB3 HN.out.2.2.2.2 7 cy cm cd x.h x.i x.s x.c⟩
        case measure => simp [intOf]
      · clear hlt hk
        have hcv := fun W hW => civil_any (T - 1 + 2) W hW
        have hst := day_step2 T x
        obtain ⟨⟨cy, cm, cd⟩, hct⟩ : ∃ t, civT (T - 1 + 2) = t := ⟨_, rfl⟩
        rw [hct] at hcv hst
        simp only at hcv hst
        have HST := Lib.hid hst
        have HCV := Lib.hid hcv
        clear hcv hst hct
        have e0 := hrE.cell 0
        have e1 := hrE.cell 1
        have e2 := hrE.cell 2
        have e3 := hrE.cell 3
        have e4 := hrE.cell 4
        have e5 := hrE.cell 5
        have e6 := hrE.cell 6
        have fe0 := hrE.free 0
        have fe1 := hrE.free 1
        have fe2 := hrE.free 2
        have a0 := hrA.cell 14
        have f0 := hrA.free 14
        have a1 := hrA.cell 15
        have f1 := hrA.free 15
        have a2 := hrA.cell 16
        have f2 := hrA.free 16
        have a3 := hrA.cell 17
        have f3 := hrA.free 17
        have a4 := hrA.cell 18
        have f4 := hrA.free 18
        have a5 := hrA.cell 19
        have f5 := hrA.free 19
        have a6 := hrA.cell 20
        have f6 := hrA.free 20
        simp only [List.getElem?_toArray, List.getElem?_cons_zero, List.getElem?_cons_succ] at e0 e1 e2 e3 e4 e5 e6
        simp only [darrK, D7.cs, z7, date7, dys, List.append_toArray, List.cons_append, List.nil_append, List.getElem?_toArray, List.getElem?_cons_zero, List.getElem?_cons_succ] at a0 a1 a2 a3 a4 a5 a6
        have HR2 := Lib.hid (And.intro hrE (And.intro hrL (And.intro hrA hrB)))
        have hTr := Lib.hid (HT.out.below (by have := hrB; rw [← HW.out] at this; exact this))
        clear hrE hrL hrA hrB
        have n1 : E ≠ A := HN.out.2.1
        have n2 : A ≠ E := fun q => HN.out.2.1 q.symm
        rw [show ((2 : Nat) : Int) = 2 from rfl]
        go_wp2_with fail
        refine (HCV.out _ hTr.out).mono ?_
        rintro e w' ⟨⟨r, rfl⟩, rfl⟩
        go_wp2
        go_roundw
        case rel =>
          have hE3 := ((HR2.out.1.set 0 (.int .i64 cy)).set 1 (.int .i64 cm)).set 2 (.int .i64 cd)
          have hL3 := ((HR2.out.2.1.other 0 (.int .i64 cy) (fun q => HN.out.1 q.symm)).other 1 (.int .i64 cm) (fun q => HN.out.1 q.symm)).other 2 (.int .i64 cd) (fun q => HN.out.1 q.symm)
          have hA3 := ((HR2.out.2.2.1.other 0 (.int .i64 cy) n2).other 1 (.int .i64 cm) n2).other 2 (.int .i64 cd) n2
          have hB3 := ((HR2.out.2.2.2.setCell (p := ⟨E, 0, none⟩) (Nat.le_refl _) (.int .i64 cy)).setCell (p := ⟨E, 1, none⟩) (Nat.le_refl _) (.int .i64 cm)).setCell (p := ⟨E, 2, none⟩) (Nat.le_refl _) (.int .i64 cd)
          exact ⟨3, by omega, rfl, ⟨_, _, _, put7_other hE3 n1 14 cy cm cd x.h x.i x.s x.c⟩, put7_other hL3 HN.out.2.2.1 14 cy cm cd x.h x.i x.s x.c,
            HST.out ▸ put7_row hA3 14 cy cm cd x.h x.i x.s x.c, put7_below hB3 HN.out.2.2.2.2 14 cy cm cd x.h x.i x.s x.c⟩
        case measure => simp [intOf]
    · obtain rfl : k = 3 := by omega
      rw [show darrK (dys T x) 3 = arr3 (dys T x) from rfl] at hrA
      have hno := fun W hW => nearestOf_any (dys T x) ref z HR.out W hW
      have hsz := arr3_size (dys T x)
      obtain ⟨F, hF⟩ : ∃ F, arr3 (dys T x) = F := ⟨_, rfl⟩
      rw [hF] at hrA hno hsz
      have hFF : wr.heap[A]? = some (.cells F 77 (0, 0)) := hrA
      have HF := Lib.hid (And.intro hFF (And.intro hno hsz))
      clear hrA hFF hno hsz hF hrE hrL hlt hk
      go_wp2_with (with_reducible refine wpList_load_row rfl 77 (.tmp 12) rfl A rfl 77 F (0, 0) _ HF.out.1 Tryd.underlying77 rfl (by rw [HF.out.2.2]; exact sizeArr3) ?_)
      refine (HF.out.2.1 _ (HT.out.below (by rw [← HW.out] at hrB; exact hrB))).mono ?_
      rintro e w2 ⟨rfl, hb2⟩
      go_wp2
      go_ret2
      obtain rfl := HW.out
      exact ⟨rfl, hrB.trans (hb2.mono hrB.size)⟩

set_option maxRecDepth 100000 in
set_option maxHeartbeats 4000000 in
theorem nearestDay_no (x : D7) (ref z : Int) (hk : ¬ okT ref z) (w : World) :
    Calls Tryd.prog 82 #[.agg #[.int .i64 x.y, .int .i64 x.m, .int .i64 x.d, .int .i64 x.h, .int .i64 x.i, .int .i64 x.s, .int .i64 x.c], .int .i64 ref, .int .i64 z] w fun e w' => e = .returned (.tuple #[.int .i64 0, .int .i64 2]) ∧ Below w.heap.size w w' := by
  have HD := Lib.hid (fun W => dates_no ref z hk W)
  clear hk
  go_enter Tryd.func82, Tryd.ntmps82
  go_wp2_with fail
  refine (HD.out _).mono ?_
  rintro e w1 ⟨rfl, hb1⟩
  have hb := bl_trans (below_alloc w _) hb1
  unfold zeroDate
  go_wp2
  go_ret2
  exact ⟨rfl, bl_trans hb (below_alloc _ _)⟩
theorem nearestDay_any (x : D7) (ref z : Int) (w : World) (hT : DaysT w) :
    Calls Tryd.prog 82 #[.agg #[.int .i64 x.y, .int .i64 x.m, .int .i64 x.d, .int .i64 x.h, .int .i64 x.i, .int .i64 x.s, .int .i64 x.c], .int .i64 ref, .int .i64 z] w fun e w' => e = .returned (.tuple #[.int .i64 (dyB x ref z).1, .int .i64 (dyB x ref z).2]) ∧ Below w.heap.size w w' := by
  by_cases hk : okT ref z
  · exact nearestDay_yes x ref z hk w hT
  · have e : dyB x ref z = (0, 2) := by unfold dyB; rw [if_neg hk]
    rw [e]; exact nearestDay_no x ref z hk w
end Go.Proofs.YtofomlbhbbhdjaaDoor
