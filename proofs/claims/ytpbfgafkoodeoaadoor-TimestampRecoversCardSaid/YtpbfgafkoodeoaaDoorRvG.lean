/- The contracts of package calendar's Check and Millis. The contracts of the reference's Check and Millis; Millis of package calendar at what it refuses. The contracts of package calendar's and the reference's Check, Millis, Dates and Format at every input: both return the same. -/
import Derived.Test.YtpbfgafkoodeoaaDoorRvC
import Derived.Test.YtpbfgafkoodeoaaDoorRvE
import Derived.Test.YtpbfgafkoodeoaaDoorRvF
namespace Go.Proofs.YtpbfgafkoodeoaaDoor
open Go.RowKit

set_option maxRecDepth 100000 in
theorem below_yes (n k : Int) (h : 0 ≤ n ∧ n < k) (w : World) : Calls Tryd.prog 48 #[.int .i64 n, .int .i64 k] w fun e w' => e = .returned (.bool true) ∧ w = w' := by
  obtain ⟨h1, h2⟩ := h
  go_enter Tryd.func48, Tryd.ntmps48
  go_wp2
  go_ret
  exact ⟨rfl, rfl⟩
set_option maxRecDepth 100000 in
theorem below_no (n k : Int) (h : ¬ (0 ≤ n ∧ n < k)) (w : World) : Calls Tryd.prog 48 #[.int .i64 n, .int .i64 k] w fun e w' => e = .returned (.bool false) ∧ w = w' := by
  by_cases h1 : 0 ≤ n
  · have h2 : ¬ n < k := fun x => h ⟨h1, x⟩
    clear h
    go_enter Tryd.func48, Tryd.ntmps48
    go_wp2
    go_ret
    exact ⟨rfl, rfl⟩
  · clear h
    go_enter Tryd.func48, Tryd.ntmps48
    go_wp2
    go_ret
    exact ⟨rfl, rfl⟩

/-- The date and the time of day are valid. -/
def clockOk (h i s c : Int) : Prop := (0 ≤ h ∧ h < 24) ∧ (0 ≤ i ∧ i < 60) ∧ (0 ≤ s ∧ s < 60) ∧ (0 ≤ c ∧ c < 1000)
def chkOk (y m d h i s c : Int) : Prop := Cal.valid y m d ∧ clockOk h i s c

set_option maxRecDepth 100000 in
set_option maxHeartbeats 4000000 in
theorem check_yes (y m d h i s c : Int) (H : chkOk y m d h i s c) (w : World) (hT : DaysT w) :
    Calls Tryd.prog 26 #[.agg #[.int .i64 y, .int .i64 m, .int .i64 d, .int .i64 h, .int .i64 i, .int .i64 s, .int .i64 c]] w fun e w' => e = .returned (.int .i64 0) ∧ Below w.heap.size w w' := by
  obtain ⟨hv, hh, hi, hs, hc⟩ := H
  have HD := Lib.hid (fun W hW => days_yes y m d hv W hW)
  have Bh := Lib.hid (below_yes h 24 hh)
  have Bi := Lib.hid (below_yes i 60 hi)
  have Bs := Lib.hid (below_yes s 60 hs)
  have Bc := Lib.hid (below_yes c 1000 hc)
  have HT := Lib.hid hT
  clear hv hh hi hs hc hT
  go_enter Tryd.func26, Tryd.ntmps26
  go_wp2_with fail
  refine (HD.out _ (HT.out.alloc _)).mono ?_
  rintro e w' ⟨rfl, rfl⟩
  go_wp2_with fail
  refine (Bh.out _).mono ?_
  rintro e w' ⟨rfl, rfl⟩
  go_wp2_with fail
  refine (Bi.out _).mono ?_
  rintro e w' ⟨rfl, rfl⟩
  go_wp2_with fail
  refine (Bs.out _).mono ?_
  rintro e w' ⟨rfl, rfl⟩
  go_wp2_with fail
  refine (Bc.out _).mono ?_
  rintro e w' ⟨rfl, rfl⟩
  go_wp2
  go_ret
  exact ⟨rfl, (Below.refl _ _).alloc (Nat.le_refl _) _⟩

set_option maxRecDepth 100000 in
set_option maxHeartbeats 8000000 in
theorem check_no (y m d h i s c : Int) (H : ¬ chkOk y m d h i s c) (w : World) (hT : DaysT w) :
    Calls Tryd.prog 26 #[.agg #[.int .i64 y, .int .i64 m, .int .i64 d, .int .i64 h, .int .i64 i, .int .i64 s, .int .i64 c]] w fun e w' => e = .returned (.int .i64 10) ∧ Below w.heap.size w w' := by
  have HT := Lib.hid hT
  clear hT
  by_cases hv : Cal.valid y m d
  case neg =>
    have HD := Lib.hid (fun W hW => days_no y m d hv W hW)
    clear hv H
    go_enter Tryd.func26, Tryd.ntmps26
    go_wp2_with fail
    refine (HD.out _ (HT.out.alloc _)).mono ?_
    rintro e w' ⟨rfl, rfl⟩
    go_wp2
    go_ret
    exact ⟨rfl, (Below.refl _ _).alloc (Nat.le_refl _) _⟩
  have HD := Lib.hid (fun W hW => days_yes y m d hv W hW)
  by_cases hh : 0 ≤ h ∧ h < 24
  case neg =>
    have Bh := Lib.hid (below_no h 24 hh)
    clear hv hh H 
    go_enter Tryd.func26, Tryd.ntmps26
    go_wp2_with fail
    refine (HD.out _ (HT.out.alloc _)).mono ?_
    rintro e w' ⟨rfl, rfl⟩
    go_wp2_with fail
    refine (Bh.out _).mono ?_
    rintro e w' ⟨rfl, rfl⟩
    go_wp2
    go_ret
    exact ⟨rfl, (Below.refl _ _).alloc (Nat.le_refl _) _⟩
  have Bh := Lib.hid (below_yes h 24 hh)
  by_cases hi : 0 ≤ i ∧ i < 60
  case neg =>
    have Bi := Lib.hid (below_no i 60 hi)
    clear hv hi H hh
    go_enter Tryd.func26, Tryd.ntmps26
    go_wp2_with fail
    refine (HD.out _ (HT.out.alloc _)).mono ?_
    rintro e w' ⟨rfl, rfl⟩
    go_wp2_with fail
    refine (Bh.out _).mono ?_
    rintro e w' ⟨rfl, rfl⟩
    go_wp2_with fail
    refine (Bi.out _).mono ?_
    rintro e w' ⟨rfl, rfl⟩
    go_wp2
    go_ret
    exact ⟨rfl, (Below.refl _ _).alloc (Nat.le_refl _) _⟩
  have Bi := Lib.hid (below_yes i 60 hi)
  by_cases hs : 0 ≤ s ∧ s < 60
  case neg =>
    have Bs := Lib.hid (below_no s 60 hs)
    clear hv hs H hh hi
    go_enter Tryd.func26, Tryd.ntmps26
    go_wp2_with fail
    refine (HD.out _ (HT.out.alloc _)).mono ?_
    rintro e w' ⟨rfl, rfl⟩
    go_wp2_with fail
    refine (Bh.out _).mono ?_
    rintro e w' ⟨rfl, rfl⟩
    go_wp2_with fail
    refine (Bi.out _).mono ?_
    rintro e w' ⟨rfl, rfl⟩
    go_wp2_with fail
    refine (Bs.out _).mono ?_
    rintro e w' ⟨rfl, rfl⟩
    go_wp2
    go_ret
    exact ⟨rfl, (Below.refl _ _).alloc (Nat.le_refl _) _⟩
  have Bs := Lib.hid (below_yes s 60 hs)
  by_cases hc : 0 ≤ c ∧ c < 1000
  case neg =>
    have Bc := Lib.hid (below_no c 1000 hc)
    clear hv hc H hh hi hs
    go_enter Tryd.func26, Tryd.ntmps26
    go_wp2_with fail
    refine (HD.out _ (HT.out.alloc _)).mono ?_
    rintro e w' ⟨rfl, rfl⟩
    go_wp2_with fail
    refine (Bh.out _).mono ?_
    rintro e w' ⟨rfl, rfl⟩
    go_wp2_with fail
    refine (Bi.out _).mono ?_
    rintro e w' ⟨rfl, rfl⟩
    go_wp2_with fail
    refine (Bs.out _).mono ?_
    rintro e w' ⟨rfl, rfl⟩
    go_wp2_with fail
    refine (Bc.out _).mono ?_
    rintro e w' ⟨rfl, rfl⟩
    go_wp2
    go_ret
    exact ⟨rfl, (Below.refl _ _).alloc (Nat.le_refl _) _⟩
  have Bc := Lib.hid (below_yes c 1000 hc)
  exact absurd ⟨hv, hh, hi, hs, hc⟩ H

/-- The milliseconds of a date. -/
def msOf (y m d h i s c z : Int) : Int := ((Cal.num y m d * 24 + h) * 60 + i - z) * 60000 + s * 1000 + c
set_option maxRecDepth 100000 in
set_option maxHeartbeats 4000000 in
theorem millis_yes (y m d h i s c z : Int) (H : chkOk y m d h i s c) (hz : isZ z) (ht : isT (msOf y m d h i s c z)) (w : World) (hT : DaysT w) :
    Calls Tryd.prog 10 #[.agg #[.int .i64 y, .int .i64 m, .int .i64 d, .int .i64 h, .int .i64 i, .int .i64 s, .int .i64 c], .int .i64 z] w fun e w' => e = .returned (.tuple #[.int .i64 (msOf y m d h i s c z), .int .i64 0]) ∧ Below w.heap.size w w' := by
  have HC := Lib.hid (fun W hW => check_yes y m d h i s c H W hW)
  have HZ := Lib.hid (isZone_yes z hz)
  have HI := Lib.hid (isTime_yes _ ht)
  obtain ⟨hv, ⟨hh1, hh2⟩, ⟨hi1, hi2⟩, ⟨hs1, hs2⟩, hc1, hc2⟩ := H
  obtain ⟨hz1, hz2⟩ := hz
  have HD := Lib.hid (fun W hW => days_yes y m d hv W hW)
  have hn := Cal.num_bounds hv
  unfold msOf at HI ⊢
  obtain ⟨n, hnn⟩ : ∃ n, Cal.num y m d = n := ⟨_, rfl⟩
  rw [hnn] at hn HI HD ⊢
  have HT := Lib.hid hT
  clear hv hT ht hnn
  go_enter Tryd.func10, Tryd.ntmps10
  go_wp2_with fail
  refine (HC.out _ (HT.out.alloc _)).mono ?_
  rintro e w1 ⟨rfl, hb⟩
  have hb2 := ((Below.refl w.heap.size w).alloc (Nat.le_refl _) (.cells #[.int .i64 y, .int .i64 m, .int .i64 d, .int .i64 h, .int .i64 i, .int .i64 s, .int .i64 c] 38)).trans (hb.mono (by simp))
  have hdt : DtAt w.heap.size #[.int .i64 y, .int .i64 m, .int .i64 d, .int .i64 h, .int .i64 i, .int .i64 s, .int .i64 c] w1 := (show DtAt w.heap.size #[.int .i64 y, .int .i64 m, .int .i64 d, .int .i64 h, .int .i64 i, .int .i64 s, .int .i64 c] (w.alloc (.cells #[.int .i64 y, .int .i64 m, .int .i64 d, .int .i64 h, .int .i64 i, .int .i64 s, .int .i64 c] 38)) from heap_alloc_new _ _).below hb
  have a0 := hdt.cell 0
  have a1 := hdt.cell 1
  have a2 := hdt.cell 2
  have a3 := hdt.cell 3
  have a4 := hdt.cell 4
  have a5 := hdt.cell 5
  have a6 := hdt.cell 6
  simp only [List.getElem?_toArray, List.getElem?_cons_zero, List.getElem?_cons_succ] at a0 a1 a2 a3 a4 a5 a6
  have HB := Lib.hid hb2
  have HT1 := Lib.hid (HT.out.below hb2)
  clear hb hb2 hdt
  go_wp2_with fail
  refine (HZ.out _).mono ?_
  rintro e w' ⟨rfl, rfl⟩
  go_wp2_with fail
  refine (HD.out _ HT1.out).mono ?_
  rintro e w' ⟨rfl, rfl⟩
  go_wp2_with fail
  refine (HI.out _).mono ?_
  rintro e w' ⟨rfl, rfl⟩
  go_wp2
  go_ret2
  exact ⟨rfl, HB.out⟩

end Go.Proofs.YtpbfgafkoodeoaaDoor

namespace Go.Proofs.YtpbfgafkoodeoaaDoor
open Go.RowKit

set_option maxRecDepth 100000 in
set_option maxHeartbeats 4000000 in
theorem rcheck_yes (y m d h i s c : Int) (H : chkOk y m d h i s c) (w : World) :
    Calls Tryd.prog 40 #[.agg #[.int .i64 y, .int .i64 m, .int .i64 d, .int .i64 h, .int .i64 i, .int .i64 s, .int .i64 c]] w fun e w' => e = .returned (.int .i64 0) ∧ Below w.heap.size w w' := by
  obtain ⟨hv, ⟨hh1, hh2⟩, ⟨hi1, hi2⟩, ⟨hs1, hs2⟩, hc1, hc2⟩ := H
  have HD := Lib.hid (fun W => rdays_yes y m d hv W)
  clear hv
  go_enter Tryd.func40, Tryd.ntmps40
  go_wp2_with fail
  refine (HD.out _).mono ?_
  rintro e w' ⟨rfl, rfl⟩
  go_wp2
  go_ret
  exact ⟨rfl, (Below.refl _ _).alloc (Nat.le_refl _) _⟩
set_option maxRecDepth 100000 in
set_option maxHeartbeats 8000000 in
theorem rcheck_no (y m d h i s c : Int) (H : ¬ chkOk y m d h i s c) (w : World) :
    Calls Tryd.prog 40 #[.agg #[.int .i64 y, .int .i64 m, .int .i64 d, .int .i64 h, .int .i64 i, .int .i64 s, .int .i64 c]] w fun e w' => e = .returned (.int .i64 10) ∧ Below w.heap.size w w' := by
  by_cases hv : Cal.valid y m d
  case neg =>
    have HD := Lib.hid (fun W => rdays_no y m d hv W)
    clear hv H
    go_enter Tryd.func40, Tryd.ntmps40
    go_wp2_with fail
    refine (HD.out _).mono ?_
    rintro e w' ⟨rfl, rfl⟩
    go_wp2
    go_ret
    exact ⟨rfl, (Below.refl _ _).alloc (Nat.le_refl _) _⟩
  have HD := Lib.hid (fun W => rdays_yes y m d hv W)
  by_cases lth : h < 0
  · clear H hv
    go_enter Tryd.func40, Tryd.ntmps40
    go_wp2_with fail
    refine (HD.out _).mono ?_
    rintro e w' ⟨rfl, rfl⟩
    go_wp2
    go_ret
    exact ⟨rfl, (Below.refl _ _).alloc (Nat.le_refl _) _⟩
  by_cases gth : 23 < h
  · clear H hv
    go_enter Tryd.func40, Tryd.ntmps40
    go_wp2_with fail
    refine (HD.out _).mono ?_
    rintro e w' ⟨rfl, rfl⟩
    go_wp2
    go_ret
    exact ⟨rfl, (Below.refl _ _).alloc (Nat.le_refl _) _⟩
  by_cases lti : i < 0
  · clear H hv
    go_enter Tryd.func40, Tryd.ntmps40
    go_wp2_with fail
    refine (HD.out _).mono ?_
    rintro e w' ⟨rfl, rfl⟩
    go_wp2
    go_ret
    exact ⟨rfl, (Below.refl _ _).alloc (Nat.le_refl _) _⟩
  by_cases gti : 59 < i
  · clear H hv
    go_enter Tryd.func40, Tryd.ntmps40
    go_wp2_with fail
    refine (HD.out _).mono ?_
    rintro e w' ⟨rfl, rfl⟩
    go_wp2
    go_ret
    exact ⟨rfl, (Below.refl _ _).alloc (Nat.le_refl _) _⟩
  by_cases lts : s < 0
  · clear H hv
    go_enter Tryd.func40, Tryd.ntmps40
    go_wp2_with fail
    refine (HD.out _).mono ?_
    rintro e w' ⟨rfl, rfl⟩
    go_wp2
    go_ret
    exact ⟨rfl, (Below.refl _ _).alloc (Nat.le_refl _) _⟩
  by_cases gts : 59 < s
  · clear H hv
    go_enter Tryd.func40, Tryd.ntmps40
    go_wp2_with fail
    refine (HD.out _).mono ?_
    rintro e w' ⟨rfl, rfl⟩
    go_wp2
    go_ret
    exact ⟨rfl, (Below.refl _ _).alloc (Nat.le_refl _) _⟩
  by_cases ltc : c < 0
  · clear H hv
    go_enter Tryd.func40, Tryd.ntmps40
    go_wp2_with fail
    refine (HD.out _).mono ?_
    rintro e w' ⟨rfl, rfl⟩
    go_wp2
    go_ret
    exact ⟨rfl, (Below.refl _ _).alloc (Nat.le_refl _) _⟩
  by_cases gtc : 999 < c
  · clear H hv
    go_enter Tryd.func40, Tryd.ntmps40
    go_wp2_with fail
    refine (HD.out _).mono ?_
    rintro e w' ⟨rfl, rfl⟩
    go_wp2
    go_ret
    exact ⟨rfl, (Below.refl _ _).alloc (Nat.le_refl _) _⟩
  exact absurd ⟨hv, ⟨by omega, by omega⟩, ⟨by omega, by omega⟩, ⟨by omega, by omega⟩, by omega, by omega⟩ H

set_option maxRecDepth 100000 in
set_option maxHeartbeats 4000000 in
theorem rmillis_yes (y m d h i s c z : Int) (H : chkOk y m d h i s c) (hz : isZ z) (ht : isT (msOf y m d h i s c z)) (w : World) :
    Calls Tryd.prog 18 #[.agg #[.int .i64 y, .int .i64 m, .int .i64 d, .int .i64 h, .int .i64 i, .int .i64 s, .int .i64 c], .int .i64 z] w fun e w' => e = .returned (.tuple #[.int .i64 (msOf y m d h i s c z), .int .i64 0]) ∧ Below w.heap.size w w' := by
  have HC := Lib.hid (fun W => rcheck_yes y m d h i s c H W)
  obtain ⟨hv, ⟨hh1, hh2⟩, ⟨hi1, hi2⟩, ⟨hs1, hs2⟩, hc1, hc2⟩ := H
  obtain ⟨hz1, hz2⟩ := hz
  have HD := Lib.hid (fun W => rdays_yes y m d hv W)
  have hn := Cal.num_bounds hv
  unfold msOf at ht ⊢
  obtain ⟨n, hnn⟩ : ∃ n, Cal.num y m d = n := ⟨_, rfl⟩
  rw [hnn] at hn ht HD ⊢
  obtain ⟨ht1, ht2⟩ := ht
  clear hv hnn
  go_enter Tryd.func18, Tryd.ntmps18
  go_wp2_with fail
  refine (HC.out _).mono ?_
  rintro e w1 ⟨rfl, hb⟩
  have hb2 := ((Below.refl w.heap.size w).alloc (Nat.le_refl _) (.cells #[.int .i64 y, .int .i64 m, .int .i64 d, .int .i64 h, .int .i64 i, .int .i64 s, .int .i64 c] 38)).trans (hb.mono (by simp))
  have hdt : DtAt w.heap.size #[.int .i64 y, .int .i64 m, .int .i64 d, .int .i64 h, .int .i64 i, .int .i64 s, .int .i64 c] w1 := (show DtAt w.heap.size #[.int .i64 y, .int .i64 m, .int .i64 d, .int .i64 h, .int .i64 i, .int .i64 s, .int .i64 c] (w.alloc (.cells #[.int .i64 y, .int .i64 m, .int .i64 d, .int .i64 h, .int .i64 i, .int .i64 s, .int .i64 c] 38)) from heap_alloc_new _ _).below hb
  have a0 := hdt.cell 0
  have a1 := hdt.cell 1
  have a2 := hdt.cell 2
  have a3 := hdt.cell 3
  have a4 := hdt.cell 4
  have a5 := hdt.cell 5
  have a6 := hdt.cell 6
  simp only [List.getElem?_toArray, List.getElem?_cons_zero, List.getElem?_cons_succ] at a0 a1 a2 a3 a4 a5 a6
  have HB := Lib.hid hb2
  clear hb hb2 hdt
  go_wp2_with fail
  refine (HD.out _).mono ?_
  rintro e w' ⟨rfl, rfl⟩
  go_wp2
  go_ret2
  exact ⟨rfl, HB.out⟩

set_option maxRecDepth 100000 in
set_option maxHeartbeats 4000000 in
theorem millis_no (y m d h i s c z : Int) (H : ¬ chkOk y m d h i s c) (w : World) (hT : DaysT w) :
    Calls Tryd.prog 10 #[.agg #[.int .i64 y, .int .i64 m, .int .i64 d, .int .i64 h, .int .i64 i, .int .i64 s, .int .i64 c], .int .i64 z] w fun e w' => e = .returned (.tuple #[.int .i64 0, .int .i64 10]) ∧ Below w.heap.size w w' := by
  have HC := Lib.hid (fun W hW => check_no y m d h i s c H W hW)
  clear H
  go_enter Tryd.func10, Tryd.ntmps10
  go_wp2_with fail
  refine (HC.out _ (hT.alloc _)).mono ?_
  rintro e w1 ⟨rfl, hb⟩
  have HB := Lib.hid (((Below.refl w.heap.size w).alloc (Nat.le_refl _) (.cells #[.int .i64 y, .int .i64 m, .int .i64 d, .int .i64 h, .int .i64 i, .int .i64 s, .int .i64 c] 38)).trans (hb.mono (by simp)))
  clear hb
  go_wp2
  go_ret2
  exact ⟨rfl, HB.out⟩

set_option maxRecDepth 100000 in
set_option maxHeartbeats 4000000 in
theorem rmillis_no (y m d h i s c z : Int) (H : ¬ chkOk y m d h i s c) (w : World) :
    Calls Tryd.prog 18 #[.agg #[.int .i64 y, .int .i64 m, .int .i64 d, .int .i64 h, .int .i64 i, .int .i64 s, .int .i64 c], .int .i64 z] w fun e w' => e = .returned (.tuple #[.int .i64 0, .int .i64 10]) ∧ Below w.heap.size w w' := by
  have HC := Lib.hid (fun W => rcheck_no y m d h i s c H W)
  clear H
  go_enter Tryd.func18, Tryd.ntmps18
  go_wp2_with fail
  refine (HC.out _).mono ?_
  rintro e w1 ⟨rfl, hb⟩
  have HB := Lib.hid (((Below.refl w.heap.size w).alloc (Nat.le_refl _) (.cells #[.int .i64 y, .int .i64 m, .int .i64 d, .int .i64 h, .int .i64 i, .int .i64 s, .int .i64 c] 38)).trans (hb.mono (by simp)))
  clear hb
  go_wp2
  go_ret2
  exact ⟨rfl, HB.out⟩

set_option maxRecDepth 100000 in
set_option maxHeartbeats 4000000 in
theorem millis_zone (y m d h i s c z : Int) (H : chkOk y m d h i s c) (hz : ¬ isZ z) (w : World) (hT : DaysT w) :
    Calls Tryd.prog 10 #[.agg #[.int .i64 y, .int .i64 m, .int .i64 d, .int .i64 h, .int .i64 i, .int .i64 s, .int .i64 c], .int .i64 z] w fun e w' => e = .returned (.tuple #[.int .i64 0, .int .i64 2]) ∧ Below w.heap.size w w' := by
  have HC := Lib.hid (fun W hW => check_yes y m d h i s c H W hW)
  have HZ := Lib.hid (isZone_no z hz)
  have HT := Lib.hid hT
  clear H hz hT
  go_enter Tryd.func10, Tryd.ntmps10
  go_wp2_with fail
  refine (HC.out _ (HT.out.alloc _)).mono ?_
  rintro e w1 ⟨rfl, hb⟩
  have HB := Lib.hid (((Below.refl w.heap.size w).alloc (Nat.le_refl _) (.cells #[.int .i64 y, .int .i64 m, .int .i64 d, .int .i64 h, .int .i64 i, .int .i64 s, .int .i64 c] 38)).trans (hb.mono (by simp)))
  clear hb
  go_wp2_with fail
  refine (HZ.out _).mono ?_
  rintro e w' ⟨rfl, rfl⟩
  go_wp2
  go_ret2
  exact ⟨rfl, HB.out⟩
set_option maxRecDepth 100000 in
set_option maxHeartbeats 4000000 in
theorem rmillis_zone (y m d h i s c z : Int) (H : chkOk y m d h i s c) (hz : ¬ isZ z) (w : World) :
    Calls Tryd.prog 18 #[.agg #[.int .i64 y, .int .i64 m, .int .i64 d, .int .i64 h, .int .i64 i, .int .i64 s, .int .i64 c], .int .i64 z] w fun e w' => e = .returned (.tuple #[.int .i64 0, .int .i64 2]) ∧ Below w.heap.size w w' := by
  have HC := Lib.hid (fun W => rcheck_yes y m d h i s c H W)
  clear H
  by_cases a1 : z < -1440
  · clear hz
    go_enter Tryd.func18, Tryd.ntmps18
    go_wp2_with fail
    refine (HC.out _).mono ?_
    rintro e w1 ⟨rfl, hb⟩
    have HB := Lib.hid (((Below.refl w.heap.size w).alloc (Nat.le_refl _) (.cells #[.int .i64 y, .int .i64 m, .int .i64 d, .int .i64 h, .int .i64 i, .int .i64 s, .int .i64 c] 38)).trans (hb.mono (by simp)))
    clear hb
    go_wp2
    go_ret2
    exact ⟨rfl, HB.out⟩
  · have a2 : 1440 < z := by
      rcases Int.lt_or_le 1440 z with l | l
      · exact l
      · exact absurd ⟨by omega, l⟩ hz
    clear hz
    go_enter Tryd.func18, Tryd.ntmps18
    go_wp2_with fail
    refine (HC.out _).mono ?_
    rintro e w1 ⟨rfl, hb⟩
    have HB := Lib.hid (((Below.refl w.heap.size w).alloc (Nat.le_refl _) (.cells #[.int .i64 y, .int .i64 m, .int .i64 d, .int .i64 h, .int .i64 i, .int .i64 s, .int .i64 c] 38)).trans (hb.mono (by simp)))
    clear hb
    go_wp2
    go_ret2
    exact ⟨rfl, HB.out⟩

set_option maxRecDepth 100000 in
set_option maxHeartbeats 4000000 in
theorem millis_range (y m d h i s c z : Int) (H : chkOk y m d h i s c) (hz : isZ z) (ht : ¬ isT (msOf y m d h i s c z)) (w : World) (hT : DaysT w) :
    Calls Tryd.prog 10 #[.agg #[.int .i64 y, .int .i64 m, .int .i64 d, .int .i64 h, .int .i64 i, .int .i64 s, .int .i64 c], .int .i64 z] w fun e w' => e = .returned (.tuple #[.int .i64 0, .int .i64 2]) ∧ Below w.heap.size w w' := by
  have HC := Lib.hid (fun W hW => check_yes y m d h i s c H W hW)
  have HZ := Lib.hid (isZone_yes z hz)
  have HI := Lib.hid (isTime_no _ ht)
  obtain ⟨hv, ⟨hh1, hh2⟩, ⟨hi1, hi2⟩, ⟨hs1, hs2⟩, hc1, hc2⟩ := H
  obtain ⟨hz1, hz2⟩ := hz
  have HD := Lib.hid (fun W hW => days_yes y m d hv W hW)
  have hn := Cal.num_bounds hv
  unfold msOf at HI
  obtain ⟨n, hnn⟩ : ∃ n, Cal.num y m d = n := ⟨_, rfl⟩
  rw [hnn] at hn HI HD
  have HT := Lib.hid hT
  clear hv hT ht hnn
  go_enter Tryd.func10, Tryd.ntmps10
  go_wp2_with fail
  refine (HC.out _ (HT.out.alloc _)).mono ?_
  rintro e w1 ⟨rfl, hb⟩
  have hb2 := ((Below.refl w.heap.size w).alloc (Nat.le_refl _) (.cells #[.int .i64 y, .int .i64 m, .int .i64 d, .int .i64 h, .int .i64 i, .int .i64 s, .int .i64 c] 38)).trans (hb.mono (by simp))
  have hdt : DtAt w.heap.size #[.int .i64 y, .int .i64 m, .int .i64 d, .int .i64 h, .int .i64 i, .int .i64 s, .int .i64 c] w1 := (show DtAt w.heap.size #[.int .i64 y, .int .i64 m, .int .i64 d, .int .i64 h, .int .i64 i, .int .i64 s, .int .i64 c] (w.alloc (.cells #[.int .i64 y, .int .i64 m, .int .i64 d, .int .i64 h, .int .i64 i, .int .i64 s, .int .i64 c] 38)) from heap_alloc_new _ _).below hb
  have a0 := hdt.cell 0
  have a1 := hdt.cell 1
  have a2 := hdt.cell 2
  have a3 := hdt.cell 3
  have a4 := hdt.cell 4
  have a5 := hdt.cell 5
  have a6 := hdt.cell 6
  simp only [List.getElem?_toArray, List.getElem?_cons_zero, List.getElem?_cons_succ] at a0 a1 a2 a3 a4 a5 a6
  have HB := Lib.hid hb2
  have HT1 := Lib.hid (HT.out.below hb2)
  clear hb hb2 hdt
  go_wp2_with fail
  refine (HZ.out _).mono ?_
  rintro e w' ⟨rfl, rfl⟩
  go_wp2_with fail
  refine (HD.out _ HT1.out).mono ?_
  rintro e w' ⟨rfl, rfl⟩
  go_wp2_with fail
  refine (HI.out _).mono ?_
  rintro e w' ⟨rfl, rfl⟩
  go_wp2
  go_ret2
  exact ⟨rfl, HB.out⟩
set_option maxRecDepth 100000 in
set_option maxHeartbeats 4000000 in
theorem rmillis_range (y m d h i s c z : Int) (H : chkOk y m d h i s c) (hz : isZ z) (ht : ¬ isT (msOf y m d h i s c z)) (w : World) :
    Calls Tryd.prog 18 #[.agg #[.int .i64 y, .int .i64 m, .int .i64 d, .int .i64 h, .int .i64 i, .int .i64 s, .int .i64 c], .int .i64 z] w fun e w' => e = .returned (.tuple #[.int .i64 0, .int .i64 2]) ∧ Below w.heap.size w w' := by
  have HC := Lib.hid (fun W => rcheck_yes y m d h i s c H W)
  obtain ⟨hv, ⟨hh1, hh2⟩, ⟨hi1, hi2⟩, ⟨hs1, hs2⟩, hc1, hc2⟩ := H
  obtain ⟨hz1, hz2⟩ := hz
  have HD := Lib.hid (fun W => rdays_yes y m d hv W)
  have hn := Cal.num_bounds hv
  unfold msOf at ht
  obtain ⟨n, hnn⟩ : ∃ n, Cal.num y m d = n := ⟨_, rfl⟩
  rw [hnn] at hn ht HD
  clear hv hnn
  have ht2 : ((n * 24 + h) * 60 + i - z) * 60000 + s * 1000 + c < -62135596800000 ∨ 253402300799999 < ((n * 24 + h) * 60 + i - z) * 60000 + s * 1000 + c := by
    rcases Int.lt_or_le (((n * 24 + h) * 60 + i - z) * 60000 + s * 1000 + c) (-62135596800000) with l | l
    · exact .inl l
    · rcases Int.lt_or_le 253402300799999 (((n * 24 + h) * 60 + i - z) * 60000 + s * 1000 + c) with l2 | l2
      · exact .inr l2
      · exact absurd ⟨l, l2⟩ ht
  clear ht
  rcases ht2 with ht2 | ht2
  all_goals
    go_enter Tryd.func18, Tryd.ntmps18
    go_wp2_with fail
    refine (HC.out _).mono ?_
    rintro e w1 ⟨rfl, hb⟩
    have hb2 := ((Below.refl w.heap.size w).alloc (Nat.le_refl _) (.cells #[.int .i64 y, .int .i64 m, .int .i64 d, .int .i64 h, .int .i64 i, .int .i64 s, .int .i64 c] 38)).trans (hb.mono (by simp))
    have hdt : DtAt w.heap.size #[.int .i64 y, .int .i64 m, .int .i64 d, .int .i64 h, .int .i64 i, .int .i64 s, .int .i64 c] w1 := (show DtAt w.heap.size #[.int .i64 y, .int .i64 m, .int .i64 d, .int .i64 h, .int .i64 i, .int .i64 s, .int .i64 c] (w.alloc (.cells #[.int .i64 y, .int .i64 m, .int .i64 d, .int .i64 h, .int .i64 i, .int .i64 s, .int .i64 c] 38)) from heap_alloc_new _ _).below hb
    have a0 := hdt.cell 0
    have a1 := hdt.cell 1
    have a2 := hdt.cell 2
    have a3 := hdt.cell 3
    have a4 := hdt.cell 4
    have a5 := hdt.cell 5
    have a6 := hdt.cell 6
    simp only [List.getElem?_toArray, List.getElem?_cons_zero, List.getElem?_cons_succ] at a0 a1 a2 a3 a4 a5 a6
    have HB := Lib.hid hb2
    clear hb hb2 hdt
    go_wp2_with fail
    refine (HD.out _).mono ?_
    rintro e w' ⟨rfl, rfl⟩
    go_wp2
    go_ret2
    exact ⟨rfl, HB.out⟩

end Go.Proofs.YtpbfgafkoodeoaaDoor

namespace Go.Proofs.YtpbfgafkoodeoaaDoor
open Go.RowKit

open Classical in
noncomputable def chkE (y m d h i s c : Int) : Int := if chkOk y m d h i s c then 0 else 10
open Classical in
noncomputable def milV (y m d h i s c z : Int) : Int := if chkOk y m d h i s c ∧ isZ z ∧ isT (msOf y m d h i s c z) then msOf y m d h i s c z else 0
open Classical in
noncomputable def milE (y m d h i s c z : Int) : Int := if chkOk y m d h i s c then (if isZ z ∧ isT (msOf y m d h i s c z) then 0 else 2) else 10
def okT (ms z : Int) : Prop := isT ms ∧ isZ z ∧ isT (ms + z * 60000)
def isDay (k : Int) (t : Int × Int × Int) : Prop := Cal.valid t.1 t.2.1 t.2.2 ∧ Cal.num t.1 t.2.1 t.2.2 = k
open Classical in
noncomputable def civT (k : Int) : Int × Int × Int := if h : ∃ t, isDay k t then h.choose else (0, 0, 0)
theorem civT_is {k y m d : Int} (hv : Cal.valid y m d) (hn : Cal.num y m d = k) : civT k = (y, m, d) := by
  have h : ∃ t, isDay k t := ⟨(y, m, d), hv, hn⟩
  unfold civT
  rw [dif_pos h]
  obtain ⟨h1, h2⟩ := h.choose_spec
  obtain ⟨e1, e2, e3⟩ := Cal.num_inj h1 hv (h2.trans hn.symm)
  exact Prod.ext e1 (Prod.ext e2 e3)
def pOf (ms z : Int) : Int := ms + z * 60000 + 62135596800000
open Classical in
noncomputable def dV (ms z : Int) (f : Int → Int × Int × Int → Int) : Int := if okT ms z then f (pOf ms z) (civT (pOf ms z / 86400000 - 719162)) else 0
open Classical in
noncomputable def dE (ms z : Int) : Int := if okT ms z then 0 else 2
noncomputable def datesV (ms z : Int) : Value := .agg #[.int .i64 (dV ms z fun _ t => t.1), .int .i64 (dV ms z fun _ t => t.2.1), .int .i64 (dV ms z fun _ t => t.2.2), .int .i64 (dV ms z fun p _ => p / 3600000 % 24), .int .i64 (dV ms z fun p _ => p / 60000 % 60), .int .i64 (dV ms z fun p _ => p / 1000 % 60), .int .i64 (dV ms z fun p _ => p % 1000)]
open Classical in
noncomputable def fT (ms z : Int) : List UInt8 := if okT ms z then fmtL (civT (pOf ms z / 86400000 - 719162)).1 (civT (pOf ms z / 86400000 - 719162)).2.1 (civT (pOf ms z / 86400000 - 719162)).2.2 (pOf ms z) z else []

theorem datesV_yes {ms z y m d : Int} (h : okT ms z) (hv : Cal.valid y m d) (hn : Cal.num y m d = pOf ms z / 86400000 - 719162) : datesV ms z = dateV y m d (pOf ms z) ∧ dE ms z = 0 ∧ fT ms z = fmtL y m d (pOf ms z) z := by
  unfold datesV dV dE fT dateV
  rw [civT_is hv hn]
  simp only [if_pos h, and_self]
theorem datesV_no {ms z : Int} (h : ¬ okT ms z) : datesV ms z = zeroDate ∧ dE ms z = 2 ∧ fT ms z = [] := by
  unfold datesV dV dE fT zeroDate
  simp only [if_neg h, and_self]

theorem check_any (y m d h i s c : Int) (w : World) (hT : DaysT w) :
    Calls Tryd.prog 26 #[.agg #[.int .i64 y, .int .i64 m, .int .i64 d, .int .i64 h, .int .i64 i, .int .i64 s, .int .i64 c]] w fun e w' => e = .returned (.int .i64 (chkE y m d h i s c)) ∧ Below w.heap.size w w' := by
  unfold chkE
  by_cases H : chkOk y m d h i s c
  · rw [if_pos H]; exact check_yes y m d h i s c H w hT
  · rw [if_neg H]; exact check_no y m d h i s c H w hT
theorem millis_any (y m d h i s c z : Int) (w : World) (hT : DaysT w) :
    Calls Tryd.prog 10 #[.agg #[.int .i64 y, .int .i64 m, .int .i64 d, .int .i64 h, .int .i64 i, .int .i64 s, .int .i64 c], .int .i64 z] w fun e w' => e = .returned (.tuple #[.int .i64 (milV y m d h i s c z), .int .i64 (milE y m d h i s c z)]) ∧ Below w.heap.size w w' := by
  unfold milV milE
  by_cases H : chkOk y m d h i s c
  · by_cases hz : isZ z
    · by_cases ht : isT (msOf y m d h i s c z)
      · rw [if_pos H, if_pos ⟨H, hz, ht⟩, if_pos ⟨hz, ht⟩]; exact millis_yes y m d h i s c z H hz ht w hT
      · rw [if_pos H, if_neg (fun x => ht x.2.2), if_neg (fun x => ht x.2)]; exact millis_range y m d h i s c z H hz ht w hT
    · rw [if_pos H, if_neg (fun x => hz x.2.1), if_neg (fun x => hz x.1)]; exact millis_zone y m d h i s c z H hz w hT
  · rw [if_neg H, if_neg (fun x => H x.1)]; exact millis_no y m d h i s c z H w hT
theorem dates_any (ms z : Int) (w : World) (hT : DaysT w) :
    Calls Tryd.prog 11 #[.int .i64 ms, .int .i64 z] w fun e w' => e = .returned (.tuple #[datesV ms z, .int .i64 (dE ms z)]) ∧ Below w.heap.size w w' := by
  by_cases h : okT ms z
  · refine (dates_yes ms z h.1 h.2.1 h.2.2 w hT).mono fun e w' ⟨y, m, d, he, hv, hn, hb⟩ => ?_
    obtain ⟨e1, e2, -⟩ := datesV_yes h hv hn
    rw [e1, e2]; exact ⟨he, hb⟩
  · obtain ⟨e1, e2, -⟩ := datesV_no h
    rw [e1, e2]; exact dates_no ms z h w
theorem rcheck_any (y m d h i s c : Int) (w : World) :
    Calls Tryd.prog 40 #[.agg #[.int .i64 y, .int .i64 m, .int .i64 d, .int .i64 h, .int .i64 i, .int .i64 s, .int .i64 c]] w fun e w' => e = .returned (.int .i64 (chkE y m d h i s c)) ∧ Below w.heap.size w w' := by
  unfold chkE
  by_cases H : chkOk y m d h i s c
  · rw [if_pos H]; exact rcheck_yes y m d h i s c H w
  · rw [if_neg H]; exact rcheck_no y m d h i s c H w
theorem rmillis_any (y m d h i s c z : Int) (w : World) :
    Calls Tryd.prog 18 #[.agg #[.int .i64 y, .int .i64 m, .int .i64 d, .int .i64 h, .int .i64 i, .int .i64 s, .int .i64 c], .int .i64 z] w fun e w' => e = .returned (.tuple #[.int .i64 (milV y m d h i s c z), .int .i64 (milE y m d h i s c z)]) ∧ Below w.heap.size w w' := by
  unfold milV milE
  by_cases H : chkOk y m d h i s c
  · by_cases hz : isZ z
    · by_cases ht : isT (msOf y m d h i s c z)
      · rw [if_pos H, if_pos ⟨H, hz, ht⟩, if_pos ⟨hz, ht⟩]; exact rmillis_yes y m d h i s c z H hz ht w
      · rw [if_pos H, if_neg (fun x => ht x.2.2), if_neg (fun x => ht x.2)]; exact rmillis_range y m d h i s c z H hz ht w
    · rw [if_pos H, if_neg (fun x => hz x.2.1), if_neg (fun x => hz x.1)]; exact rmillis_zone y m d h i s c z H hz w
  · rw [if_neg H, if_neg (fun x => H x.1)]; exact rmillis_no y m d h i s c z H w
theorem rdates_any (ms z : Int) (w : World) :
    Calls Tryd.prog 43 #[.int .i64 ms, .int .i64 z] w fun e w' => e = .returned (.tuple #[datesV ms z, .int .i64 (dE ms z)]) ∧ Below w.heap.size w w' := by
  by_cases h : okT ms z
  · refine (rdates_yes ms z h.1 h.2.1 h.2.2 w).mono fun e w' ⟨y, m, d, he, hv, hn, hb⟩ => ?_
    obtain ⟨e1, e2, -⟩ := datesV_yes h hv hn
    rw [e1, e2]; exact ⟨he, hb⟩
  · obtain ⟨e1, e2, -⟩ := datesV_no h
    rw [e1, e2]; exact rdates_no ms z h w
end Go.Proofs.YtpbfgafkoodeoaaDoor
