/- The contracts of the reference's Check and Millis; Millis of package calendar at what it refuses. -/
import Derived.Test.YtofomlbhbbhdjaaDoorCalRd
import Derived.Test.YtofomlbhbbhdjaaDoorCalCk
namespace Go.Proofs.YtofomlbhbbhdjaaDoor
open Go.RowKit

set_option maxRecDepth 100000 in
set_option maxHeartbeats 4000000 in
theorem rcheck_yes (y m d h i s c : Int) (H : chkOk y m d h i s c) (w : World) :
    Calls Tryd.prog 59 #[.agg #[.int .i64 y, .int .i64 m, .int .i64 d, .int .i64 h, .int .i64 i, .int .i64 s, .int .i64 c]] w fun e w' => e = .returned (.int .i64 0) ∧ Below w.heap.size w w' := by
  obtain ⟨hv, ⟨hh1, hh2⟩, ⟨hi1, hi2⟩, ⟨hs1, hs2⟩, hc1, hc2⟩ := H
  have HD := Lib.hid (fun W => rdays_yes y m d hv W)
  clear hv
  go_enter Tryd.func59, Tryd.ntmps59
  go_wp2_with fail
  refine (HD.out _).mono ?_
  rintro e w' ⟨rfl, rfl⟩
  go_wp2
  go_ret
  exact ⟨rfl, (Below.refl _ _).alloc (Nat.le_refl _) _⟩
set_option maxRecDepth 100000 in
set_option maxHeartbeats 8000000 in
theorem rcheck_no (y m d h i s c : Int) (H : ¬ chkOk y m d h i s c) (w : World) :
    Calls Tryd.prog 59 #[.agg #[.int .i64 y, .int .i64 m, .int .i64 d, .int .i64 h, .int .i64 i, .int .i64 s, .int .i64 c]] w fun e w' => e = .returned (.int .i64 10) ∧ Below w.heap.size w w' := by
  by_cases hv : Cal.valid y m d
  case neg =>
    have HD := Lib.hid (fun W => rdays_no y m d hv W)
    clear hv H
    go_enter Tryd.func59, Tryd.ntmps59
    go_wp2_with fail
    refine (HD.out _).mono ?_
    rintro e w' ⟨rfl, rfl⟩
    go_wp2
    go_ret
    exact ⟨rfl, (Below.refl _ _).alloc (Nat.le_refl _) _⟩
  have HD := Lib.hid (fun W => rdays_yes y m d hv W)
  by_cases lth : h < 0
  · clear H hv
    go_enter Tryd.func59, Tryd.ntmps59
    go_wp2_with fail
    refine (HD.out _).mono ?_
    rintro e w' ⟨rfl, rfl⟩
    go_wp2
    go_ret
    exact ⟨rfl, (Below.refl _ _).alloc (Nat.le_refl _) _⟩
  by_cases gth : 23 < h
  · clear H hv
    go_enter Tryd.func59, Tryd.ntmps59
    go_wp2_with fail
    refine (HD.out _).mono ?_
    rintro e w' ⟨rfl, rfl⟩
    go_wp2
    go_ret
    exact ⟨rfl, (Below.refl _ _).alloc (Nat.le_refl _) _⟩
  by_cases lti : i < 0
  · clear H hv
    go_enter Tryd.func59, Tryd.ntmps59
    go_wp2_with fail
    refine (HD.out _).mono ?_
    rintro e w' ⟨rfl, rfl⟩
    go_wp2
    go_ret
    exact ⟨rfl, (Below.refl _ _).alloc (Nat.le_refl _) _⟩
  by_cases gti : 59 < i
  · clear H hv
    go_enter Tryd.func59, Tryd.ntmps59
    go_wp2_with fail
    refine (HD.out _).mono ?_
    rintro e w' ⟨rfl, rfl⟩
    go_wp2
    go_ret
    exact ⟨rfl, (Below.refl _ _).alloc (Nat.le_refl _) _⟩
  by_cases lts : s < 0
  · clear H hv
    go_enter Tryd.func59, Tryd.ntmps59
    go_wp2_with fail
    refine (HD.out _).mono ?_
    rintro e w' ⟨rfl, rfl⟩
    go_wp2
    go_ret
    exact ⟨rfl, (Below.refl _ _).alloc (Nat.le_refl _) _⟩
  by_cases gts : 59 < s
  · clear H hv
    go_enter Tryd.func59, Tryd.ntmps59
    go_wp2_with fail
    refine (HD.out _).mono ?_
    rintro e w' ⟨rfl, rfl⟩
    go_wp2
    go_ret
    exact ⟨rfl, (Below.refl _ _).alloc (Nat.le_refl _) _⟩
  by_cases ltc : c < 0
  · clear H hv
    go_enter Tryd.func59, Tryd.ntmps59
    go_wp2_with fail
    refine (HD.out _).mono ?_
    rintro e w' ⟨rfl, rfl⟩
    go_wp2
    go_ret
    exact ⟨rfl, (Below.refl _ _).alloc (Nat.le_refl _) _⟩
  by_cases gtc : 999 < c
  · clear H hv
    go_enter Tryd.func59, Tryd.ntmps59
    go_wp2_with fail
    refine (HD.out _).mono ?_
    rintro e w' ⟨rfl, rfl⟩
    go_wp2
    go_ret
    exact ⟨rfl, (Below.refl _ _).alloc (Nat.le_refl _) _⟩
  exact absurd ⟨hv, ⟨by omega, by omega⟩, ⟨by omega, by omega⟩, ⟨by omega, by omega⟩, by omega, by omega⟩ H

set_option maxRecDepth 100000 in
set_option maxHeartbeats 4000000 in
theorem rmillis_yes (y m d h i s c z : Int) (H : chkOk y m d h i s c) (hz : isZ z) (ht : isT (msOf y m d h i s c z)) (w : World) :
    Calls Tryd.prog 27 #[.agg #[.int .i64 y, .int .i64 m, .int .i64 d, .int .i64 h, .int .i64 i, .int .i64 s, .int .i64 c], .int .i64 z] w fun e w' => e = .returned (.tuple #[.int .i64 (msOf y m d h i s c z), .int .i64 0]) ∧ Below w.heap.size w w' := by
  have HC := Lib.hid (fun W => rcheck_yes y m d h i s c H W)
  obtain ⟨hv, ⟨hh1, hh2⟩, ⟨hi1, hi2⟩, ⟨hs1, hs2⟩, hc1, hc2⟩ := H
  obtain ⟨hz1, hz2⟩ := hz
  have HD := Lib.hid (fun W => rdays_yes y m d hv W)
  have hn := Cal.num_bounds hv
  unfold msOf at ht ⊢
  obtain ⟨n, hnn⟩ : ∃ n, Cal.num y m d = n := ⟨_, rfl⟩
  rw [hnn] at hn ht HD ⊢
  obtain ⟨ht1, ht2⟩ := ht
  clear hv hnn
  go_enter Tryd.func27, Tryd.ntmps27
  go_wp2_with fail
  refine (HC.out _).mono ?_
  rintro e w1 ⟨rfl, hb⟩
  have hb2 := ((Below.refl w.heap.size w).alloc (Nat.le_refl _) (.cells #[.int .i64 y, .int .i64 m, .int .i64 d, .int .i64 h, .int .i64 i, .int .i64 s, .int .i64 c] 36)).trans (hb.mono (by simp))
  have hdt : DtAt w.heap.size #[.int .i64 y, .int .i64 m, .int .i64 d, .int .i64 h, .int .i64 i, .int .i64 s, .int .i64 c] w1 := (show DtAt w.heap.size #[.int .i64 y, .int .i64 m, .int .i64 d, .int .i64 h, .int .i64 i, .int .i64 s, .int .i64 c] (w.alloc (.cells #[.int .i64 y, .int .i64 m, .int .i64 d, .int .i64 h, .int .i64 i, .int .i64 s, .int .i64 c] 36)) from heap_alloc_new _ _).below hb
  have a0 := hdt.cell 0
  have a1 := hdt.cell 1
  have a2 := hdt.cell 2
  have a3 := hdt.cell 3
  have a4 := hdt.cell 4
  have a5 := hdt.cell 5
  have a6 := hdt.cell 6
  simp only [List.getElem?_toArray, List.getElem?_cons_zero, List.getElem?_cons_succ] at a0 a1 a2 a3 a4 a5 a6
  have HB := Lib.hid hb2
  clear hb hb2 hdt
  go_wp2_with fail
  refine (HD.out _).mono ?_
  rintro e w' ⟨rfl, rfl⟩
  go_wp2
  go_ret2
  exact ⟨rfl, HB.out⟩

set_option maxRecDepth 100000 in
set_option maxHeartbeats 4000000 in
theorem millis_no (y m d h i s c z : Int) (H : ¬ chkOk y m d h i s c) (w : World) (hT : DaysT w) :
    Calls Tryd.prog 21 #[.agg #[.int .i64 y, .int .i64 m, .int .i64 d, .int .i64 h, .int .i64 i, .int .i64 s, .int .i64 c], .int .i64 z] w fun e w' => e = .returned (.tuple #[.int .i64 0, .int .i64 10]) ∧ Below w.heap.size w w' := by
  have HC := Lib.hid (fun W hW => check_no y m d h i s c H W hW)
  clear H
  go_enter Tryd.func21, Tryd.ntmps21
  go_wp2_with fail
  refine (HC.out _ (hT.alloc _)).mono ?_
  rintro e w1 ⟨rfl, hb⟩
  have HB := Lib.hid (((Below.refl w.heap.size w).alloc (Nat.le_refl _) (.cells #[.int .i64 y, .int .i64 m, .int .i64 d, .int .i64 h, .int .i64 i, .int .i64 s, .int .i64 c] 36)).trans (hb.mono (by simp)))
  clear hb
  go_wp2
  go_ret2
  exact ⟨rfl, HB.out⟩

set_option maxRecDepth 100000 in
set_option maxHeartbeats 4000000 in
theorem rmillis_no (y m d h i s c z : Int) (H : ¬ chkOk y m d h i s c) (w : World) :
    Calls Tryd.prog 27 #[.agg #[.int .i64 y, .int .i64 m, .int .i64 d, .int .i64 h, .int .i64 i, .int .i64 s, .int .i64 c], .int .i64 z] w fun e w' => e = .returned (.tuple #[.int .i64 0, .int .i64 10]) ∧ Below w.heap.size w w' := by
  have HC := Lib.hid (fun W => rcheck_no y m d h i s c H W)
  clear H
  go_enter Tryd.func27, Tryd.ntmps27
  go_wp2_with fail
  refine (HC.out _).mono ?_
  rintro e w1 ⟨rfl, hb⟩
  have HB := Lib.hid (((Below.refl w.heap.size w).alloc (Nat.le_refl _) (.cells #[.int .i64 y, .int .i64 m, .int .i64 d, .int .i64 h, .int .i64 i, .int .i64 s, .int .i64 c] 36)).trans (hb.mono (by simp)))
  clear hb
  go_wp2
  go_ret2
  exact ⟨rfl, HB.out⟩

set_option maxRecDepth 100000 in
set_option maxHeartbeats 4000000 in
theorem millis_zone (y m d h i s c z : Int) (H : chkOk y m d h i s c) (hz : ¬ isZ z) (w : World) (hT : DaysT w) :
    Calls Tryd.prog 21 #[.agg #[.int .i64 y, .int .i64 m, .int .i64 d, .int .i64 h, .int .i64 i, .int .i64 s, .int .i64 c], .int .i64 z] w fun e w' => e = .returned (.tuple #[.int .i64 0, .int .i64 2]) ∧ Below w.heap.size w w' := by
  have HC := Lib.hid (fun W hW => check_yes y m d h i s c H W hW)
  have HZ := Lib.hid (isZone_no z hz)
  have HT := Lib.hid hT
  clear H hz hT
  go_enter Tryd.func21, Tryd.ntmps21
  go_wp2_with fail
  refine (HC.out _ (HT.out.alloc _)).mono ?_
  rintro e w1 ⟨rfl, hb⟩
  have HB := Lib.hid (((Below.refl w.heap.size w).alloc (Nat.le_refl _) (.cells #[.int .i64 y, .int .i64 m, .int .i64 d, .int .i64 h, .int .i64 i, .int .i64 s, .int .i64 c] 36)).trans (hb.mono (by simp)))
  clear hb
  go_wp2_with fail
  refine (HZ.out _).mono ?_
  rintro e w' ⟨rfl, rfl⟩
  go_wp2
  go_ret2
  exact ⟨rfl, HB.out⟩
set_option maxRecDepth 100000 in
set_option maxHeartbeats 4000000 in
theorem rmillis_zone (y m d h i s c z : Int) (H : chkOk y m d h i s c) (hz : ¬ isZ z) (w : World) :
    Calls Tryd.prog 27 #[.agg #[.int .i64 y, .int .i64 m, .int .i64 d, .int .i64 h, .int .i64 i, .int .i64 s, .int .i64 c], .int .i64 z] w fun e w' => e = .returned (.tuple #[.int .i64 0, .int .i64 2]) ∧ Below w.heap.size w w' := by
  have HC := Lib.hid (fun W => rcheck_yes y m d h i s c H W)
  clear H
  by_cases a1 : z < -1440
  · clear hz
    go_enter Tryd.func27, Tryd.ntmps27
    go_wp2_with fail
    refine (HC.out _).mono ?_
    rintro e w1 ⟨rfl, hb⟩
    have HB := Lib.hid (((Below.refl w.heap.size w).alloc (Nat.le_refl _) (.cells #[.int .i64 y, .int .i64 m, .int .i64 d, .int .i64 h, .int .i64 i, .int .i64 s, .int .i64 c] 36)).trans (hb.mono (by simp)))
    clear hb
    go_wp2
    go_ret2
    exact ⟨rfl, HB.out⟩
  · have a2 : 1440 < z := by
      rcases Int.lt_or_le 1440 z with l | l
      · exact l
      · exact absurd ⟨by omega, l⟩ hz
    clear hz
    go_enter Tryd.func27, Tryd.ntmps27
    go_wp2_with fail
    refine (HC.out _).mono ?_
    rintro e w1 ⟨rfl, hb⟩
    have HB := Lib.hid (((Below.refl w.heap.size w).alloc (Nat.le_refl _) (.cells #[.int .i64 y, .int .i64 m, .int .i64 d, .int .i64 h, .int .i64 i, .int .i64 s, .int .i64 c] 36)).trans (hb.mono (by simp)))
    clear hb
    go_wp2
    go_ret2
    exact ⟨rfl, HB.out⟩

set_option maxRecDepth 100000 in
set_option maxHeartbeats 4000000 in
theorem millis_range (y m d h i s c z : Int) (H : chkOk y m d h i s c) (hz : isZ z) (ht : ¬ isT (msOf y m d h i s c z)) (w : World) (hT : DaysT w) :
    Calls Tryd.prog 21 #[.agg #[.int .i64 y, .int .i64 m, .int .i64 d, .int .i64 h, .int .i64 i, .int .i64 s, .int .i64 c], .int .i64 z] w fun e w' => e = .returned (.tuple #[.int .i64 0, .int .i64 2]) ∧ Below w.heap.size w w' := by
  have HC := Lib.hid (fun W hW => check_yes y m d h i s c H W hW)
  have HZ := Lib.hid (isZone_yes z hz)
  have HI := Lib.hid (isTime_no _ ht)
  obtain ⟨hv, ⟨hh1, hh2⟩, ⟨hi1, hi2⟩, ⟨hs1, hs2⟩, hc1, hc2⟩ := H
  obtain ⟨hz1, hz2⟩ := hz
  have HD := Lib.hid (fun W hW => days_yes y m d hv W hW)
  have hn := Cal.num_bounds hv
  unfold msOf at HI
  obtain ⟨n, hnn⟩ : ∃ n, Cal.num y m d = n := ⟨_, rfl⟩
  rw [hnn] at hn HI HD
  have HT := Lib.hid hT
  clear hv hT ht hnn
  go_enter Tryd.func21, Tryd.ntmps21
  go_wp2_with fail
  refine (HC.out _ (HT.out.alloc _)).mono ?_
  rintro e w1 ⟨rfl, hb⟩
  have hb2 := ((Below.refl w.heap.size w).alloc (Nat.le_refl _) (.cells #[.int .i64 y, .int .i64 m, .int .i64 d, .int .i64 h, .int .i64 i, .int .i64 s, .int .i64 c] 36)).trans (hb.mono (by simp))
  have hdt : DtAt w.heap.size #[.int .i64 y, .int .i64 m, .int .i64 d, .int .i64 h, .int .i64 i, .int .i64 s, .int .i64 c] w1 := (show DtAt w.heap.size #[.int .i64 y, .int .i64 m, .int .i64 d, .int .i64 h, .int .i64 i, .int .i64 s, .int .i64 c] (w.alloc (.cells #[.int .i64 y, .int .i64 m, .int .i64 d, .int .i64 h, .int .i64 i, .int .i64 s, .int .i64 c] 36)) from heap_alloc_new _ _).below hb
  have a0 := hdt.cell 0
  have a1 := hdt.cell 1
  have a2 := hdt.cell 2
  have a3 := hdt.cell 3
  have a4 := hdt.cell 4
  have a5 := hdt.cell 5
  have a6 := hdt.cell 6
  simp only [List.getElem?_toArray, List.getElem?_cons_zero, List.getElem?_cons_succ] at a0 a1 a2 a3 a4 a5 a6
  have HB := Lib.hid hb2
  have HT1 := Lib.hid (HT.out.below hb2)
  clear hb hb2 hdt
  go_wp2_with fail
  refine (HZ.out _).mono ?_
  rintro e w' ⟨rfl, rfl⟩
  go_wp2_with fail
  refine (HD.out _ HT1.out).mono ?_
  rintro e w' ⟨rfl, rfl⟩
  go_wp2_with fail
  refine (HI.out _).mono ?_
  rintro e w' ⟨rfl, rfl⟩
  go_wp2
  go_ret2
  exact ⟨rfl, HB.out⟩
set_option maxRecDepth 100000 in
set_option maxHeartbeats 4000000 in
theorem rmillis_range (y m d h i s c z : Int) (H : chkOk y m d h i s c) (hz : isZ z) (ht : ¬ isT (msOf y m d h i s c z)) (w : World) :
    Calls Tryd.prog 27 #[.agg #[.int .i64 y, .int .i64 m, .int .i64 d, .int .i64 h, .int .i64 i, .int .i64 s, .int .i64 c], .int .i64 z] w fun e w' => e = .returned (.tuple #[.int .i64 0, .int .i64 2]) ∧ Below w.heap.size w w' := by
  have HC := Lib.hid (fun W => rcheck_yes y m d h i s c H W)
  obtain ⟨hv, ⟨hh1, hh2⟩, ⟨hi1, hi2⟩, ⟨hs1, hs2⟩, hc1, hc2⟩ := H
  obtain ⟨hz1, hz2⟩ := hz
  have HD := Lib.hid (fun W => rdays_yes y m d hv W)
  have hn := Cal.num_bounds hv
  unfold msOf at ht
  obtain ⟨n, hnn⟩ : ∃ n, Cal.num y m d = n := ⟨_, rfl⟩
  rw [hnn] at hn ht HD
  clear hv hnn
  have ht2 : ((n * 24 + h) * 60 + i - z) * 60000 + s * 1000 + c < -62135596800000 ∨ 253402300799999 < ((n * 24 + h) * 60 + i - z) * 60000 + s * 1000 + c := by
    rcases Int.lt_or_le (((n * 24 + h) * 60 + i - z) * 60000 + s * 1000 + c) (-62135596800000) with l | l
    · exact .inl l
    · rcases Int.lt_or_le 253402300799999 (((n * 24 + h) * 60 + i - z) * 60000 + s * 1000 + c) with l2 | l2
      · exact .inr l2
      · exact absurd ⟨l, l2⟩ ht
  clear ht
  rcases ht2 with ht2 | ht2
  all_goals
    go_enter Tryd.func27, Tryd.ntmps27
    go_wp2_with fail
    refine (HC.out _).mono ?_
    rintro e w1 ⟨rfl, hb⟩
    have hb2 := ((Below.refl w.heap.size w).alloc (Nat.le_refl _) (.cells #[.int .i64 y, .int .i64 m, .int .i64 d, .int .i64 h, .int .i64 i, .int .i64 s, .int .i64 c] 36)).trans (hb.mono (by simp))
    have hdt : DtAt w.heap.size #[.int .i64 y, .int .i64 m, .int .i64 d, .int .i64 h, .int .i64 i, .int .i64 s, .int .i64 c] w1 := (show DtAt w.heap.size #[.int .i64 y, .int .i64 m, .int .i64 d, .int .i64 h, .int .i64 i, .int .i64 s, .int .i64 c] (w.alloc (.cells #[.int .i64 y, .int .i64 m, .int .i64 d, .int .i64 h, .int .i64 i, .int .i64 s, .int .i64 c] 36)) from heap_alloc_new _ _).below hb
    have a0 := hdt.cell 0
    have a1 := hdt.cell 1
    have a2 := hdt.cell 2
    have a3 := hdt.cell 3
    have a4 := hdt.cell 4
    have a5 := hdt.cell 5
    have a6 := hdt.cell 6
    simp only [List.getElem?_toArray, List.getElem?_cons_zero, List.getElem?_cons_succ] at a0 a1 a2 a3 a4 a5 a6
    have HB := Lib.hid hb2
    clear hb hb2 hdt
    go_wp2_with fail
    refine (HD.out _).mono ?_
    rintro e w' ⟨rfl, rfl⟩
    go_wp2
    go_ret2
    exact ⟨rfl, HB.out⟩

end Go.Proofs.YtofomlbhbbhdjaaDoor
