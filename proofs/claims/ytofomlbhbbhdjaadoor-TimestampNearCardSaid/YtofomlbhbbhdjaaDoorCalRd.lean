/- The contracts of the reference's Length, Days and Civil. -/
import Derived.Test.YtofomlbhbbhdjaaDoorCalC
namespace Go.Proofs.YtofomlbhbbhdjaaDoor
open Go.RowKit

theorem len_val (y : Int) : Cal.len y 1 = 31 ∧ Cal.len y 3 = 31 ∧ Cal.len y 4 = 30 ∧ Cal.len y 5 = 31 ∧ Cal.len y 6 = 30 ∧ Cal.len y 7 = 31 ∧ Cal.len y 8 = 31 ∧ Cal.len y 9 = 30 ∧ Cal.len y 10 = 31 ∧ Cal.len y 11 = 30 ∧ Cal.len y 12 = 31 := by
  simp [Cal.len]
theorem len_feb (y : Int) : (Cal.leap y = true → Cal.len y 2 = 29) ∧ (Cal.leap y = false → Cal.len y 2 = 28) := by
  refine ⟨fun h => by simp [Cal.len, h], fun h => by simp [Cal.len, h]⟩

set_option maxRecDepth 100000 in
set_option maxHeartbeats 2000000 in
theorem rlength_feb (y : Int) (h0 : 0 ≤ y) (h1 : y ≤ 20000) (w : World) :
    Calls Tryd.prog 83 #[.int .i64 y, .int .i64 2] w fun e w' => e = .returned (.int .i64 (Cal.len y 2)) ∧ w = w' := by
  have hl := rleap_any y h0 h1 w
  have hf := len_feb y
  obtain ⟨L, hL⟩ : ∃ L, Cal.leap y = L := ⟨_, rfl⟩
  rw [hL] at hl hf
  have HL := Lib.hid hl
  have HF := Lib.hid hf
  clear hl hL hf h0 h1
  cases L with
  | true =>
    rw [HF.out.1 rfl]
    go_enter Tryd.func83, Tryd.ntmps83
    go_wp2_with fail
    refine (HL.out).mono ?_
    rintro e w' ⟨rfl, rfl⟩
    go_wp2
    go_ret
    exact ⟨rfl, rfl⟩
  | false =>
    rw [HF.out.2 rfl]
    go_enter Tryd.func83, Tryd.ntmps83
    go_wp2_with fail
    refine (HL.out).mono ?_
    rintro e w' ⟨rfl, rfl⟩
    go_wp2
    go_ret
    exact ⟨rfl, rfl⟩
set_option maxRecDepth 100000 in
set_option maxHeartbeats 8000000 in
theorem rlength_any (y m : Int) (h0 : 0 ≤ y) (h1 : y ≤ 20000) (w : World) :
    Calls Tryd.prog 83 #[.int .i64 y, .int .i64 m] w fun e w' => e = .returned (.int .i64 (Cal.len y m)) ∧ w = w' := by
  by_cases hm : 1 ≤ m ∧ m ≤ 12
  · obtain ⟨v1, v3, v4, v5, v6, v7, v8, v9, v10, v11, v12⟩ := len_val y
    have : m = 2 ∨ m = 1 ∨ m = 3 ∨ m = 4 ∨ m = 5 ∨ m = 6 ∨ m = 7 ∨ m = 8 ∨ m = 9 ∨ m = 10 ∨ m = 11 ∨ m = 12 := by omega
    rcases this with rfl | rfl | rfl | rfl | rfl | rfl | rfl | rfl | rfl | rfl | rfl | rfl
    · exact rlength_feb y h0 h1 w
    · rw [v1]; clear v1 v3 v4 v5 v6 v7 v8 v9 v10 v11 v12; go_enter Tryd.func83, Tryd.ntmps83; go_wp2; go_ret; exact ⟨rfl, rfl⟩
    · rw [v3]; clear v1 v3 v4 v5 v6 v7 v8 v9 v10 v11 v12; go_enter Tryd.func83, Tryd.ntmps83; go_wp2; go_ret; exact ⟨rfl, rfl⟩
    · rw [v4]; clear v1 v3 v4 v5 v6 v7 v8 v9 v10 v11 v12; go_enter Tryd.func83, Tryd.ntmps83; go_wp2; go_ret; exact ⟨rfl, rfl⟩
    · rw [v5]; clear v1 v3 v4 v5 v6 v7 v8 v9 v10 v11 v12; go_enter Tryd.func83, Tryd.ntmps83; go_wp2; go_ret; exact ⟨rfl, rfl⟩
    · rw [v6]; clear v1 v3 v4 v5 v6 v7 v8 v9 v10 v11 v12; go_enter Tryd.func83, Tryd.ntmps83; go_wp2; go_ret; exact ⟨rfl, rfl⟩
    · rw [v7]; clear v1 v3 v4 v5 v6 v7 v8 v9 v10 v11 v12; go_enter Tryd.func83, Tryd.ntmps83; go_wp2; go_ret; exact ⟨rfl, rfl⟩
    · rw [v8]; clear v1 v3 v4 v5 v6 v7 v8 v9 v10 v11 v12; go_enter Tryd.func83, Tryd.ntmps83; go_wp2; go_ret; exact ⟨rfl, rfl⟩
    · rw [v9]; clear v1 v3 v4 v5 v6 v7 v8 v9 v10 v11 v12; go_enter Tryd.func83, Tryd.ntmps83; go_wp2; go_ret; exact ⟨rfl, rfl⟩
    · rw [v10]; clear v1 v3 v4 v5 v6 v7 v8 v9 v10 v11 v12; go_enter Tryd.func83, Tryd.ntmps83; go_wp2; go_ret; exact ⟨rfl, rfl⟩
    · rw [v11]; clear v1 v3 v4 v5 v6 v7 v8 v9 v10 v11 v12; go_enter Tryd.func83, Tryd.ntmps83; go_wp2; go_ret; exact ⟨rfl, rfl⟩
    · rw [v12]; clear v1 v3 v4 v5 v6 v7 v8 v9 v10 v11 v12; go_enter Tryd.func83, Tryd.ntmps83; go_wp2; go_ret; exact ⟨rfl, rfl⟩
  · rw [len_out (by omega)]
    have e1 : (m == 1) = false := by rw [beq_eq_false_iff_ne]; omega
    have e2 : (m == 2) = false := by rw [beq_eq_false_iff_ne]; omega
    have e3 : (m == 3) = false := by rw [beq_eq_false_iff_ne]; omega
    have e4 : (m == 4) = false := by rw [beq_eq_false_iff_ne]; omega
    have e5 : (m == 5) = false := by rw [beq_eq_false_iff_ne]; omega
    have e6 : (m == 6) = false := by rw [beq_eq_false_iff_ne]; omega
    have e7 : (m == 7) = false := by rw [beq_eq_false_iff_ne]; omega
    have e8 : (m == 8) = false := by rw [beq_eq_false_iff_ne]; omega
    have e9 : (m == 9) = false := by rw [beq_eq_false_iff_ne]; omega
    have e10 : (m == 10) = false := by rw [beq_eq_false_iff_ne]; omega
    have e11 : (m == 11) = false := by rw [beq_eq_false_iff_ne]; omega
    have e12 : (m == 12) = false := by rw [beq_eq_false_iff_ne]; omega
    clear hm
    go_enter Tryd.func83, Tryd.ntmps83
    go_wp2
    go_ret
    exact ⟨rfl, rfl⟩

theorem rb1970 (w : World) : Calls Tryd.prog 84 #[.int .i64 1970] w fun e w' => e = .returned (.int .i64 719162) ∧ w = w' := by
  have h := rbefore_any 1970 (by decide) (by decide) w
  rwa [Cal.bef_1970] at h
theorem rb10000 (w : World) : Calls Tryd.prog 84 #[.int .i64 10000] w fun e w' => e = .returned (.int .i64 3652059) ∧ w = w' := by
  have h := rbefore_any 10000 (by decide) (by decide) w
  rwa [Cal.bef_10000] at h

set_option maxRecDepth 100000 in
set_option maxHeartbeats 2000000 in
theorem rdays_yes (y m d : Int) (h : Cal.valid y m d) (w : World) :
    Calls Tryd.prog 60 #[.int .i64 y, .int .i64 m, .int .i64 d] w fun e w' => e = .returned (.tuple #[.int .i64 (Cal.num y m d), .bool true]) ∧ w = w' := by
  obtain ⟨hy1, hy2, hm1, hm2, hd1, hd2⟩ := h
  have b2 := Lib.hid (fun m => rlength_any y m (by omega) (by omega) w)
  have b2m := rlength_any y m (by omega) (by omega) w
  have b3 := rbefore_any y hy1 (by omega) w
  have c2 := len_bd y m
  have c3 := bef_bd hy1 (by omega)
  have hn : Hid (Cal.num y m d = Cal.bef y + Cal.cum y m + d - 719163) := rfl
  obtain ⟨q, hq⟩ : ∃ x, Cal.len y m = x := ⟨_, rfl⟩
  obtain ⟨r, hr⟩ : ∃ x, Cal.bef y = x := ⟨_, rfl⟩
  rw [hq] at b2m c2 hd2
  rw [hr] at b3 c3 hn
  have B2 := Lib.hid b2m
  have B3 := Lib.hid b3
  clear b2m b3 hq hr
  go_enter Tryd.func60, Tryd.ntmps60
  go_wp2_with fail
  refine (B2.out).mono ?_
  rintro e w' ⟨rfl, rfl⟩
  go_wp2_with fail
  refine (B3.out).mono ?_
  rintro e w' ⟨rfl, rfl⟩
  go_wp2_with fail
  refine (rb1970 _).mono ?_
  rintro e w' ⟨rfl, rfl⟩
  go_wp2_with fail
  go_loop [8, 9] (fun t u => ∃ k : Int, 1 ≤ k ∧ k ≤ m ∧ u = .int .i64 k ∧ t = .int .i64 (r - 719162 + d - 1 + Cal.cum y k)) (fun _ u => (m - intOf u).toNat)
  case atStart => exact ⟨1, by omega, by omega, rfl, by rw [Cal.cum_one, Int.add_zero]⟩
  case round =>
    obtain ⟨k, hk1, hk2, rfl, rfl⟩ := hrel
    have cb := cum_bd (y := y) (m := k)
    have cl := len_bd y k
    have hb := b2.out k
    by_cases hlt : k < m
    · have cs := Lib.hid (Cal.cum_succ (y := y) hk1 (by omega))
      obtain ⟨C, hC⟩ : ∃ x, Cal.cum y k = x := ⟨_, rfl⟩
      obtain ⟨E, hE⟩ : ∃ x, Cal.len y k = x := ⟨_, rfl⟩
      rw [hC] at cs cb ⊢
      rw [hE] at cs cl hb
      have HB := Lib.hid hb
      clear hC hE hb
      go_wp2_with fail
      refine (HB.out).mono ?_
      rintro e w' ⟨rfl, rfl⟩
      go_wp2
      go_round
      case rel => exact ⟨k + 1, by omega, by omega, rfl, by rw [cs.out]; congr 1; omega⟩
      case measure => simp [intOf]; omega
    · obtain rfl : k = m := by omega
      clear hb
      obtain ⟨C, hC⟩ : ∃ x, Cal.cum y k = x := ⟨_, rfl⟩
      rw [hC] at cb hn ⊢
      clear hC
      go_wp2
      go_ret2
      exact ⟨by rw [hn.out]; exact congrArg (fun x => Ending.returned (.tuple #[.int .i64 x, .bool true])) (by omega), rfl⟩

set_option maxRecDepth 100000 in
set_option maxHeartbeats 1000000 in
theorem rdays_no (y m d : Int) (h : ¬ Cal.valid y m d) (w : World) :
    Calls Tryd.prog 60 #[.int .i64 y, .int .i64 m, .int .i64 d] w fun e w' => e = .returned (.tuple #[.int .i64 0, .bool false]) ∧ w = w' := by
  by_cases h1 : y < 1
  · go_enter Tryd.func60, Tryd.ntmps60
    go_wp2
    go_ret2
    exact ⟨rfl, rfl⟩
  by_cases h2 : 9999 < y
  · go_enter Tryd.func60, Tryd.ntmps60
    go_wp2
    go_ret2
    exact ⟨rfl, rfl⟩
  by_cases h3 : d < 1
  · go_enter Tryd.func60, Tryd.ntmps60
    go_wp2
    go_ret2
    exact ⟨rfl, rfl⟩
  have h4 : Cal.len y m < d := by
    by_cases hm : 1 ≤ m ∧ m ≤ 12
    · by_cases hd : d ≤ Cal.len y m
      · exact absurd ⟨by omega, by omega, hm.1, hm.2, by omega, hd⟩ h
      · omega
    · rw [len_out (by omega)]; omega
  have b2 := rlength_any y m (by omega) (by omega) w
  have c2 := len_bd y m
  obtain ⟨q, hq⟩ : ∃ x, Cal.len y m = x := ⟨_, rfl⟩
  rw [hq] at b2 c2 h4
  have B2 := Lib.hid b2
  clear b2 hq h
  go_enter Tryd.func60, Tryd.ntmps60
  go_wp2_with fail
  refine (B2.out).mono ?_
  rintro e w' ⟨rfl, rfl⟩
  go_wp2
  go_ret2
  exact ⟨rfl, rfl⟩
end Go.Proofs.YtofomlbhbbhdjaaDoor
