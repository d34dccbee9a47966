/- The contracts of package calendar's Check and Millis. -/
import Derived.Test.YtofomlbhbbhdjaaDoorCalDt
namespace Go.Proofs.YtofomlbhbbhdjaaDoor
open Go.RowKit

set_option maxRecDepth 100000 in
theorem below_yes (n k : Int) (h : 0 ≤ n ∧ n < k) (w : World) : Calls Tryd.prog 71 #[.int .i64 n, .int .i64 k] w fun e w' => e = .returned (.bool true) ∧ w = w' := by
  obtain ⟨h1, h2⟩ := h
  go_enter Tryd.func71, Tryd.ntmps71
  go_wp2
  go_ret
  exact ⟨rfl, rfl⟩
set_option maxRecDepth 100000 in
theorem below_no (n k : Int) (h : ¬ (0 ≤ n ∧ n < k)) (w : World) : Calls Tryd.prog 71 #[.int .i64 n, .int .i64 k] w fun e w' => e = .returned (.bool false) ∧ w = w' := by
  by_cases h1 : 0 ≤ n
  · have h2 : ¬ n < k := fun x => h ⟨h1, x⟩
    clear h
    go_enter Tryd.func71, Tryd.ntmps71
    go_wp2
    go_ret
    exact ⟨rfl, rfl⟩
  · clear h
    go_enter Tryd.func71, Tryd.ntmps71
    go_wp2
    go_ret
    exact ⟨rfl, rfl⟩

/-- The date and the time of day are valid. -/
def clockOk (h i s c : Int) : Prop := (0 ≤ h ∧ h < 24) ∧ (0 ≤ i ∧ i < 60) ∧ (0 ≤ s ∧ s < 60) ∧ (0 ≤ c ∧ c < 1000)
def chkOk (y m d h i s c : Int) : Prop := Cal.valid y m d ∧ clockOk h i s c

set_option maxRecDepth 100000 in
set_option maxHeartbeats 4000000 in
theorem check_yes (y m d h i s c : Int) (H : chkOk y m d h i s c) (w : World) (hT : DaysT w) :
    Calls Tryd.prog 48 #[.agg #[.int .i64 y, .int .i64 m, .int .i64 d, .int .i64 h, .int .i64 i, .int .i64 s, .int .i64 c]] w fun e w' => e = .returned (.int .i64 0) ∧ Below w.heap.size w w' := by
  obtain ⟨hv, hh, hi, hs, hc⟩ := H
  have HD := Lib.hid (fun W hW => days_yes y m d hv W hW)
  have Bh := Lib.hid (below_yes h 24 hh)
  have Bi := Lib.hid (below_yes i 60 hi)
  have Bs := Lib.hid (below_yes s 60 hs)
  have Bc := Lib.hid (below_yes c 1000 hc)
  have HT := Lib.hid hT
  clear hv hh hi hs hc hT
  go_enter Tryd.func48, Tryd.ntmps48
  go_wp2_with fail
  refine (HD.out _ (HT.out.alloc _)).mono ?_
  rintro e w' ⟨rfl, rfl⟩
  go_wp2_with fail
  refine (Bh.out _).mono ?_
  rintro e w' ⟨rfl, rfl⟩
  go_wp2_with fail
  refine (Bi.out _).mono ?_
  rintro e w' ⟨rfl, rfl⟩
  go_wp2_with fail
  refine (Bs.out _).mono ?_
  rintro e w' ⟨rfl, rfl⟩
  go_wp2_with fail
  refine (Bc.out _).mono ?_
  rintro e w' ⟨rfl, rfl⟩
  go_wp2
  go_ret
  exact ⟨rfl, (Below.refl _ _).alloc (Nat.le_refl _) _⟩

set_option maxRecDepth 100000 in
set_option maxHeartbeats 8000000 in
theorem check_no (y m d h i s c : Int) (H : ¬ chkOk y m d h i s c) (w : World) (hT : DaysT w) :
    Calls Tryd.prog 48 #[.agg #[.int .i64 y, .int .i64 m, .int .i64 d, .int .i64 h, .int .i64 i, .int .i64 s, .int .i64 c]] w fun e w' => e = .returned (.int .i64 10) ∧ Below w.heap.size w w' := by
  have HT := Lib.hid hT
  clear hT
  by_cases hv : Cal.valid y m d
  case neg =>
    have HD := Lib.hid (fun W hW => days_no y m d hv W hW)
    clear hv H
    go_enter Tryd.func48, Tryd.ntmps48
    go_wp2_with fail
    refine (HD.out _ (HT.out.alloc _)).mono ?_
    rintro e w' ⟨rfl, rfl⟩
    go_wp2
    go_ret
    exact ⟨rfl, (Below.refl _ _).alloc (Nat.le_refl _) _⟩
  have HD := Lib.hid (fun W hW => days_yes y m d hv W hW)
  by_cases hh : 0 ≤ h ∧ h < 24
  case neg =>
    have Bh := Lib.hid (below_no h 24 hh)
    clear hv hh H 
    go_enter Tryd.func48, Tryd.ntmps48
    go_wp2_with fail
    refine (HD.out _ (HT.out.alloc _)).mono ?_
    rintro e w' ⟨rfl, rfl⟩
    go_wp2_with fail
    refine (Bh.out _).mono ?_
    rintro e w' ⟨rfl, rfl⟩
    go_wp2
    go_ret
    exact ⟨rfl, (Below.refl _ _).alloc (Nat.le_refl _) _⟩
  have Bh := Lib.hid (below_yes h 24 hh)
  by_cases hi : 0 ≤ i ∧ i < 60
  case neg =>
    have Bi := Lib.hid (below_no i 60 hi)
    clear hv hi H hh
    go_enter Tryd.func48, Tryd.ntmps48
    go_wp2_with fail
    refine (HD.out _ (HT.out.alloc _)).mono ?_
    rintro e w' ⟨rfl, rfl⟩
    go_wp2_with fail
    refine (Bh.out _).mono ?_
    rintro e w' ⟨rfl, rfl⟩
    go_wp2_with fail
    refine (Bi.out _).mono ?_
    rintro e w' ⟨rfl, rfl⟩
    go_wp2
    go_ret
    exact ⟨rfl, (Below.refl _ _).alloc (Nat.le_refl _) _⟩
  have Bi := Lib.hid (below_yes i 60 hi)
  by_cases hs : 0 ≤ s ∧ s < 60
  case neg =>
    have Bs := Lib.hid (below_no s 60 hs)
    clear hv hs H hh hi
    go_enter Tryd.func48, Tryd.ntmps48
    go_wp2_with fail
    refine (HD.out _ (HT.out.alloc _)).mono ?_
    rintro e w' ⟨rfl, rfl⟩
    go_wp2_with fail
    refine (Bh.out _).mono ?_
    rintro e w' ⟨rfl, rfl⟩
    go_wp2_with fail
    refine (Bi.out _).mono ?_
    rintro e w' ⟨rfl, rfl⟩
    go_wp2_with fail
    refine (Bs.out _).mono ?_
    rintro e w' ⟨rfl, rfl⟩
    go_wp2
    go_ret
    exact ⟨rfl, (Below.refl _ _).alloc (Nat.le_refl _) _⟩
  have Bs := Lib.hid (below_yes s 60 hs)
  by_cases hc : 0 ≤ c ∧ c < 1000
  case neg =>
    have Bc := Lib.hid (below_no c 1000 hc)
    clear hv hc H hh hi hs
    go_enter Tryd.func48, Tryd.ntmps48
    go_wp2_with fail
    refine (HD.out _ (HT.out.alloc _)).mono ?_
    rintro e w' ⟨rfl, rfl⟩
    go_wp2_with fail
    refine (Bh.out _).mono ?_
    rintro e w' ⟨rfl, rfl⟩
    go_wp2_with fail
    refine (Bi.out _).mono ?_
    rintro e w' ⟨rfl, rfl⟩
    go_wp2_with fail
    refine (Bs.out _).mono ?_
    rintro e w' ⟨rfl, rfl⟩
    go_wp2_with fail
    refine (Bc.out _).mono ?_
    rintro e w' ⟨rfl, rfl⟩
    go_wp2
    go_ret
    exact ⟨rfl, (Below.refl _ _).alloc (Nat.le_refl _) _⟩
  have Bc := Lib.hid (below_yes c 1000 hc)
  exact absurd ⟨hv, hh, hi, hs, hc⟩ H

/-- The milliseconds of a date. -/
def msOf (y m d h i s c z : Int) : Int := ((Cal.num y m d * 24 + h) * 60 + i - z) * 60000 + s * 1000 + c
set_option maxRecDepth 100000 in
set_option maxHeartbeats 4000000 in
theorem millis_yes (y m d h i s c z : Int) (H : chkOk y m d h i s c) (hz : isZ z) (ht : isT (msOf y m d h i s c z)) (w : World) (hT : DaysT w) :
    Calls Tryd.prog 21 #[.agg #[.int .i64 y, .int .i64 m, .int .i64 d, .int .i64 h, .int .i64 i, .int .i64 s, .int .i64 c], .int .i64 z] w fun e w' => e = .returned (.tuple #[.int .i64 (msOf y m d h i s c z), .int .i64 0]) ∧ Below w.heap.size w w' := by
  have HC := Lib.hid (fun W hW => check_yes y m d h i s c H W hW)
  have HZ := Lib.hid (isZone_yes z hz)
  have HI := Lib.hid (isTime_yes _ ht)
  obtain ⟨hv, ⟨hh1, hh2⟩, ⟨hi1, hi2⟩, ⟨hs1, hs2⟩, hc1, hc2⟩ := H
  obtain ⟨hz1, hz2⟩ := hz
  have HD := Lib.hid (fun W hW => days_yes y m d hv W hW)
  have hn := Cal.num_bounds hv
  unfold msOf at HI ⊢
  obtain ⟨n, hnn⟩ : ∃ n, Cal.num y m d = n := ⟨_, rfl⟩
  rw [hnn] at hn HI HD ⊢
  have HT := Lib.hid hT
  clear hv hT ht hnn
  go_enter Tryd.func21, Tryd.ntmps21
  go_wp2_with fail
  refine (HC.out _ (HT.out.alloc _)).mono ?_
  rintro e w1 ⟨rfl, hb⟩
  have hb2 := ((Below.refl w.heap.size w).alloc (Nat.le_refl _) (.cells #[.int .i64 y, .int .i64 m, .int .i64 d, .int .i64 h, .int .i64 i, .int .i64 s, .int .i64 c] 36)).trans (hb.mono (by simp))
  have hdt : DtAt w.heap.size #[.int .i64 y, .int .i64 m, .int .i64 d, .int .i64 h, .int .i64 i, .int .i64 s, .int .i64 c] w1 := (show DtAt w.heap.size #[.int .i64 y, .int .i64 m, .int .i64 d, .int .i64 h, .int .i64 i, .int .i64 s, .int .i64 c] (w.alloc (.cells #[.int .i64 y, .int .i64 m, .int .i64 d, .int .i64 h, .int .i64 i, .int .i64 s, .int .i64 c] 36)) from heap_alloc_new _ _).below hb
  have a0 := hdt.cell 0
  have a1 := hdt.cell 1
  have a2 := hdt.cell 2
  have a3 := hdt.cell 3
  have a4 := hdt.cell 4
  have a5 := hdt.cell 5
  have a6 := hdt.cell 6
  simp only [List.getElem?_toArray, List.getElem?_cons_zero, List.getElem?_cons_succ] at a0 a1 a2 a3 a4 a5 a6
  have HB := Lib.hid hb2
  have HT1 := Lib.hid (HT.out.below hb2)
  clear hb hb2 hdt
  go_wp2_with fail
  refine (HZ.out _).mono ?_
  rintro e w' ⟨rfl, rfl⟩
  go_wp2_with fail
  refine (HD.out _ HT1.out).mono ?_
  rintro e w' ⟨rfl, rfl⟩
  go_wp2_with fail
  refine (HI.out _).mono ?_
  rintro e w' ⟨rfl, rfl⟩
  go_wp2
  go_ret2
  exact ⟨rfl, HB.out⟩

end Go.Proofs.YtofomlbhbbhdjaaDoor
