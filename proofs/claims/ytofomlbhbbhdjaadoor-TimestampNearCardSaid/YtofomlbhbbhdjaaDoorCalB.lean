/- The contracts of package calendar's Length and Days. -/
import Derived.Test.YtofomlbhbbhdjaaDoorCalA
namespace Go.Proofs.YtofomlbhbbhdjaaDoor
open Go.RowKit

theorem beforeI (y m : Int) (h0 : 0 ≤ y) (h1 : y ≤ 20000) (hm0 : 1 ≤ m) (hm1 : m ≤ 13) (w : World) (hT : DaysT w) :
    Calls Tryd.prog 69 #[.int .i64 y, .int .i64 m] w fun e w' => e = .returned (.int .i64 (Cal.cum y m)) ∧ w = w' := by
  have h := before_any y m.toNat h0 h1 (by omega) (by omega) w hT
  rwa [show ((m.toNat : Nat) : Int) = m by omega] at h
theorem cum_bd {y m : Int} : 0 ≤ Cal.cum y m ∧ Cal.cum y m ≤ 366 := by
  have := cum0_bd m
  unfold Cal.cum; split <;> omega
theorem cum_len {y m : Int} (h1 : 1 ≤ m) (h2 : m ≤ 12) : Cal.cum y (m + 1) - Cal.cum y m = Cal.len y m := by
  by_cases h : m = 12
  · subst h
    have e := Cal.cum_last y
    have e2 : Cal.cum y (12 + 1) = 365 + (if Cal.leap y = true then 1 else 0) := by simp [Cal.cum, Cal.cum0]
    rw [Cal.len_twelve]; omega
  · rw [Cal.cum_succ h1 (by omega)]; omega
theorem len_out {y m : Int} (h : m < 1 ∨ 12 < m) : Cal.len y m = 0 := by
  unfold Cal.len
  rw [if_neg (by omega), if_neg (by omega), if_neg (by omega)]
theorem len_bd (y m : Int) : 0 ≤ Cal.len y m ∧ Cal.len y m ≤ 31 := by
  by_cases h : 1 ≤ m ∧ m ≤ 12
  · have := Cal.len_pos (y := y) h.1 h.2; omega
  · rw [len_out (by omega)]; omega

set_option maxRecDepth 100000 in
set_option maxHeartbeats 1000000 in
theorem length_any (y m : Int) (h0 : 0 ≤ y) (h1 : y ≤ 20000) (w : World) (hT : DaysT w) :
    Calls Tryd.prog 72 #[.int .i64 y, .int .i64 m] w fun e w' => e = .returned (.int .i64 (Cal.len y m)) ∧ w = w' := by
  by_cases hm : 1 ≤ m ∧ m ≤ 12
  · obtain ⟨hm1, hm2⟩ := hm
    have b1 := fun W hW => beforeI y m h0 h1 hm1 (by omega) W hW
    have b2 := fun W hW => beforeI y (m + 1) h0 h1 (by omega) (by omega) W hW
    have c1 := cum_bd (y := y) (m := m)
    have c2 := cum_bd (y := y) (m := m + 1)
    have hl := Lib.hid (cum_len (y := y) hm1 hm2)
    obtain ⟨p, hp⟩ : ∃ x, Cal.cum y m = x := ⟨_, rfl⟩
    obtain ⟨q, hq⟩ : ∃ x, Cal.cum y (m + 1) = x := ⟨_, rfl⟩
    rw [hp] at b1 c1 hl
    rw [hq] at b2 c2 hl
    have B1 := Lib.hid b1
    have B2 := Lib.hid b2
    have HT := Lib.hid hT
    clear b1 b2 hp hq hT
    go_enter Tryd.func72, Tryd.ntmps72
    go_wp2_with fail
    refine (B2.out _ HT.out).mono ?_
    rintro e w' ⟨rfl, rfl⟩
    go_wp2_with fail
    refine (B1.out _ HT.out).mono ?_
    rintro e w' ⟨rfl, rfl⟩
    go_wp2
    go_ret
    exact ⟨rt_int hl.out, rfl⟩
  · have hl := Lib.hid (len_out (y := y) (m := m) (by omega))
    by_cases h : m < 1
    all_goals
      go_enter Tryd.func72, Tryd.ntmps72
      go_wp2
      go_ret
      exact ⟨rt_int hl.out.symm, rfl⟩

theorem bef_bd {y : Int} (h0 : 1 ≤ y) (h1 : y ≤ 20000) : 0 ≤ Cal.bef y ∧ Cal.bef y ≤ 8000000 := by unfold Cal.bef; omega

set_option maxRecDepth 100000 in
set_option maxHeartbeats 1000000 in
theorem days_yes (y m d : Int) (h : Cal.valid y m d) (w : World) (hT : DaysT w) :
    Calls Tryd.prog 49 #[.int .i64 y, .int .i64 m, .int .i64 d] w fun e w' => e = .returned (.tuple #[.int .i64 (Cal.num y m d), .bool true]) ∧ w = w' := by
  obtain ⟨hy1, hy2, hm1, hm2, hd1, hd2⟩ := h
  have b1 := fun W hW => beforeI y m (by omega) (by omega) hm1 (by omega) W hW
  have b2 := fun W hW => length_any y m (by omega) (by omega) W hW
  have b3 := fun W => newYear_any y hy1 (by omega) W
  have c1 := cum_bd (y := y) (m := m)
  have c2 := len_bd y m
  have c3 := bef_bd hy1 (by omega)
  have hn : Hid (Cal.num y m d = Cal.bef y + Cal.cum y m + d - 719163) := rfl
  obtain ⟨p, hp⟩ : ∃ x, Cal.cum y m = x := ⟨_, rfl⟩
  obtain ⟨q, hq⟩ : ∃ x, Cal.len y m = x := ⟨_, rfl⟩
  obtain ⟨r, hr⟩ : ∃ x, Cal.bef y = x := ⟨_, rfl⟩
  rw [hp] at b1 c1 hn
  rw [hq] at b2 c2 hd2
  rw [hr] at b3 c3 hn
  have B1 := Lib.hid b1
  have B2 := Lib.hid b2
  have B3 := Lib.hid b3
  have HT := Lib.hid hT
  clear b1 b2 b3 hp hq hr hT
  go_enter Tryd.func49, Tryd.ntmps49
  go_wp2_with fail
  refine (B2.out _ HT.out).mono ?_
  rintro e w' ⟨rfl, rfl⟩
  go_wp2_with fail
  refine (B3.out _).mono ?_
  rintro e w' ⟨rfl, rfl⟩
  go_wp2_with fail
  refine (B1.out _ HT.out).mono ?_
  rintro e w' ⟨rfl, rfl⟩
  go_wp2
  go_ret2
  exact ⟨by rw [hn.out]; exact congrArg (fun x => Ending.returned (.tuple #[.int .i64 x, .bool true])) (by omega), rfl⟩

set_option maxRecDepth 100000 in
set_option maxHeartbeats 1000000 in
theorem days_no (y m d : Int) (h : ¬ Cal.valid y m d) (w : World) (hT : DaysT w) :
    Calls Tryd.prog 49 #[.int .i64 y, .int .i64 m, .int .i64 d] w fun e w' => e = .returned (.tuple #[.int .i64 0, .bool false]) ∧ w = w' := by
  by_cases h1 : y < 1
  · go_enter Tryd.func49, Tryd.ntmps49
    go_wp2
    go_ret2
    exact ⟨rfl, rfl⟩
  by_cases h2 : 9999 < y
  · go_enter Tryd.func49, Tryd.ntmps49
    go_wp2
    go_ret2
    exact ⟨rfl, rfl⟩
  by_cases h3 : d < 1
  · go_enter Tryd.func49, Tryd.ntmps49
    go_wp2
    go_ret2
    exact ⟨rfl, rfl⟩
  have h4 : Cal.len y m < d := by
    by_cases hm : 1 ≤ m ∧ m ≤ 12
    · by_cases hd : d ≤ Cal.len y m
      · exact absurd ⟨by omega, by omega, hm.1, hm.2, by omega, hd⟩ h
      · omega
    · rw [len_out (by omega)]; omega
  have b2 := fun W hW => length_any y m (by omega) (by omega) W hW
  have c2 := len_bd y m
  obtain ⟨q, hq⟩ : ∃ x, Cal.len y m = x := ⟨_, rfl⟩
  rw [hq] at b2 c2 h4
  have B2 := Lib.hid b2
  have HT := Lib.hid hT
  clear b2 hq hT h
  go_enter Tryd.func49, Tryd.ntmps49
  go_wp2_with fail
  refine (B2.out _ HT.out).mono ?_
  rintro e w' ⟨rfl, rfl⟩
  go_wp2
  go_ret2
  exact ⟨rfl, rfl⟩
end Go.Proofs.YtofomlbhbbhdjaaDoor
