/- The contract of package calendar's Civil. -/
import Derived.Test.YtofomlbhbbhdjaaDoorCalB
namespace Go.Proofs.YtofomlbhbbhdjaaDoor
open Go.RowKit

/-- The year of a day, as its number. -/
def InYear (n y : Int) : Prop := 1 ≤ y ∧ y ≤ 9999 ∧ Cal.bef y ≤ n ∧ n < Cal.bef (y + 1)
theorem guess_lo {n p : Int} (hp : p = n * 400 / 146097) : Cal.bef (1 + p) ≤ n := by unfold Cal.bef; omega
theorem guess_hi {n p : Int} (hp : p = n * 400 / 146097) : n < Cal.bef (1 + p + 1 + 1) := by unfold Cal.bef; omega
theorem year_top {n y : Int} (h : n ≤ 3652058) (h2 : Cal.bef y ≤ n) : y ≤ 9999 := by
  have e := Cal.bef_10000
  rcases Int.lt_or_le 9999 y with l | l
  · have := Cal.bef_mono (a := 10000) (b := y) (by omega); omega
  · exact l

def YearOut (n : Int) (w : World) (e : Ending) (w' : World) : Prop := ∃ y, e = .returned (.int .i64 y) ∧ InYear n y ∧ w = w'
set_option maxRecDepth 100000 in
set_option maxHeartbeats 1000000 in
theorem yearOf_any (k : Int) (h0 : -719162 ≤ k) (h1 : k ≤ 2932896) (w : World) :
    Calls Tryd.prog 67 #[.int .i64 k] w (YearOut (k + 719162) w) := by
  obtain ⟨p, hp⟩ : ∃ p, p = (k + 719162) * 400 / 146097 := ⟨_, rfl⟩
  have g1 := guess_lo (n := k + 719162) hp
  have g2 := guess_hi (n := k + 719162) hp
  have g3 := year_top (n := k + 719162) (by omega) g1
  have hp0 : 0 ≤ p := by omega
  have b3 := fun W => newYear_any (1 + p + 1) (by omega) (by omega) W
  obtain ⟨r, hr⟩ : ∃ x, Cal.bef (1 + p + 1) = x := ⟨_, rfl⟩
  rw [hr] at b3
  have B3 := Lib.hid b3
  have HR := Lib.hid hr
  have G := Lib.hid (And.intro g1 (And.intro g2 hp0))
  have HP := Lib.hid hp
  clear b3 hr g1 g2
  have e2 : (k + 719162) * 400 / 146097 = p := hp.symm
  have hpb : p ≤ 9998 := by omega
  clear hp
  by_cases hle : r - 719162 ≤ k
  · go_enter Tryd.func67, Tryd.ntmps67
    go_wp2_with fail
    refine (B3.out _).mono ?_
    rintro e w' ⟨rfl, rfl⟩
    go_wp2
    go_ret
    refine ⟨1 + p + 1, rfl, ⟨by have := G.out; omega, ?_, by rw [HR.out]; omega, G.out.2.1⟩, rfl⟩
    exact year_top (n := k + 719162) (by omega) (by rw [HR.out]; omega)
  · go_enter Tryd.func67, Tryd.ntmps67
    go_wp2_with fail
    refine (B3.out _).mono ?_
    rintro e w' ⟨rfl, rfl⟩
    go_wp2
    go_ret
    exact ⟨1 + p, rfl, ⟨by have := G.out; omega, g3, G.out.1, by rw [HR.out]; omega⟩, rfl⟩

def CivilOut (n : Int) (w : World) (e : Ending) (w' : World) : Prop := ∃ y m d, e = .returned (.tuple #[.int .i64 y, .int .i64 m, .int .i64 d, .bool true]) ∧ Cal.valid y m d ∧ Cal.num y m d = n ∧ w = w'
theorem civil_valid {k y m : Int} (hy : InYear (k + 719162) y) (h1 : 1 ≤ m) (h2 : m ≤ 12) (hlo : Cal.cum y m ≤ k - (Cal.bef y - 719162)) (hhi : m = 12 ∨ k - (Cal.bef y - 719162) < Cal.cum y (m + 1)) :
    Cal.valid y m (k - (Cal.bef y - 719162) - Cal.cum y m + 1) ∧ Cal.num y m (k - (Cal.bef y - 719162) - Cal.cum y m + 1) = k := by
  obtain ⟨a1, a2, a3, a4⟩ := hy
  have s := Cal.bef_succ y
  have c := cum_len (y := y) h1 h2
  refine ⟨⟨a1, a2, h1, h2, by omega, ?_⟩, by unfold Cal.num; omega⟩
  rcases hhi with rfl | hhi
  · have e := Cal.cum_last y
    have := Cal.len_twelve y
    omega
  · omega

set_option maxRecDepth 100000 in
set_option maxHeartbeats 2000000 in
theorem civil_yes (k : Int) (h0 : -719162 ≤ k) (h1 : k ≤ 2932896) (w : World) (hT : DaysT w) :
    Calls Tryd.prog 46 #[.int .i64 k] w (CivilOut k w) := by
  have HY := Lib.hid (fun W => yearOf_any k h0 h1 W)
  have HT := Lib.hid hT
  clear hT
  go_enter Tryd.func46, Tryd.ntmps46
  go_wp2_with fail
  refine (HY.out _).mono ?_
  rintro e w' ⟨y, rfl, hy, rfl⟩
  have b1 := bef_bd (y := y) hy.1 (by have := hy.2.1; omega)
  have b2 := hy.1
  have b3 := hy.2.1
  have b4 := fun W => newYear_any y b2 (by omega) W
  have b5 : 0 ≤ k - (Cal.bef y - 719162) ∧ k - (Cal.bef y - 719162) ≤ 366 := by
    have s := Cal.bef_succ y
    obtain ⟨_, _, a3, a4⟩ := hy
    split at s <;> omega
  have HV := Lib.hid (fun m => civil_valid (k := k) (y := y) (m := m) hy)
  obtain ⟨r, hr⟩ : ∃ x, Cal.bef y = x := ⟨_, rfl⟩
  rw [hr] at b1 b4 b5 HV
  have B := Lib.hid b4
  have HB := Lib.hid (fun m h2 h3 => beforeI y m (by omega) (by omega) h2 h3 w HT.out)
  have c1 := Cal.cum_one y
  have c12 := cum_bd (y := y) (m := 12)
  clear b4 hr hy h0 h1
  go_wp2_with fail
  refine (B.out _).mono ?_
  rintro e w' ⟨rfl, rfl⟩
  go_wp2_with fail
  obtain ⟨q, hq⟩ : ∃ x, k - (r - 719162) = x := ⟨_, rfl⟩
  rw [hq] at b5 HV ⊢
  have HQ := Lib.hid hq
  clear hq
  go_loop [3] (fun t => ∃ m : Int, 1 ≤ m ∧ m ≤ 12 ∧ t = .int .i64 m ∧ (m = 12 ∨ q < Cal.cum y (m + 1))) (fun t => (intOf t).toNat)
  case atStart => exact ⟨12, by omega, by omega, rfl, .inl rfl⟩
  case round =>
    obtain ⟨m, hm1, hm2, rfl, hm3⟩ := hrel
    have cb := cum_bd (y := y) (m := m)
    have HM := Lib.hid hm3
    have hcall := HB.out m hm1 (by omega)
    obtain ⟨z, hz⟩ : ∃ x, Cal.cum y m = x := ⟨_, rfl⟩
    rw [hz] at cb hcall
    have HK := Lib.hid hcall
    have HZ := Lib.hid hz
    clear hm3 hcall hz
    by_cases hgt : q < z
    · go_wp2_with fail
      refine (HK.out).mono ?_
      rintro e w' ⟨rfl, rfl⟩
      have hm1' : 1 < m := by
        rcases Int.lt_or_le 1 m with l | l
        · exact l
        · obtain rfl : m = 1 := by omega
          have := HZ.out; omega
      go_wp2
      go_round
      case rel => exact ⟨m - 1, by omega, by omega, rfl, .inr (by rw [show m - 1 + 1 = m by omega, HZ.out]; omega)⟩
      case measure => simp [intOf]; omega
    · go_wp2_with fail
      refine (HK.out).mono ?_
      rintro e w' ⟨rfl, rfl⟩
      go_wp2_with fail
      refine (HK.out).mono ?_
      rintro e w' ⟨rfl, rfl⟩
      go_wp2
      have hv := HV.out m hm1 hm2 (by rw [HZ.out]; omega) HM.out
      rw [HZ.out] at hv
      exact bodyPost_ret (v := .tuple #[.int .i64 y, .int .i64 m, .int .i64 (q - z + 1), .bool true]) (by simp [results, Tryd.results46, go_sem]) rfl ⟨y, m, _, rfl, hv.1, hv.2, rfl⟩

set_option maxRecDepth 100000 in
set_option maxHeartbeats 1000000 in
theorem civil_no (k : Int) (h : k < -719162 ∨ 2932896 < k) (w : World) :
    Calls Tryd.prog 46 #[.int .i64 k] w fun e w' => e = .returned (.tuple #[.int .i64 0, .int .i64 0, .int .i64 0, .bool false]) ∧ w = w' := by
  rcases h with h | h
  · go_enter Tryd.func46, Tryd.ntmps46
    go_wp2
    exact bodyPost_ret (v := .tuple #[.int .i64 0, .int .i64 0, .int .i64 0, .bool false]) (by simp [results, Tryd.results46, go_sem]) rfl ⟨rfl, rfl⟩
  · have h' : ¬ k < -719162 := by omega
    go_enter Tryd.func46, Tryd.ntmps46
    go_wp2
    exact bodyPost_ret (v := .tuple #[.int .i64 0, .int .i64 0, .int .i64 0, .bool false]) (by simp [results, Tryd.results46, go_sem]) rfl ⟨rfl, rfl⟩
end Go.Proofs.YtofomlbhbbhdjaaDoor
