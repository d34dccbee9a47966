/- The contract of the reference's Dates. -/
import Derived.Test.YtofomlbhbbhdjaaDoorCalRc
import Derived.Test.YtofomlbhbbhdjaaDoorCalDt
namespace Go.Proofs.YtofomlbhbbhdjaaDoor
open Go.RowKit

theorem clock_eq {p rs : Int} (h : p % 86400000 = rs) : p / 3600000 % 24 = rs / 3600000 ∧ p / 60000 % 60 = rs / 60000 % 60 ∧ p / 1000 % 60 = rs / 1000 % 60 ∧ p % 1000 = rs % 1000 := by
  omega
theorem tdiv_neg {n : Int} (h : n < 0) : n = n.tdiv 86400000 * 86400000 + n.tmod 86400000 ∧ -86400000 < n.tmod 86400000 ∧ n.tmod 86400000 ≤ 0 := by
  have h1 := Int.mul_tdiv_add_tmod n 86400000
  obtain ⟨u, rfl⟩ : ∃ u, n = -u := ⟨-n, by omega⟩
  rw [Int.neg_tmod, Int.tmod_eq_emod_of_nonneg (by omega)] at *
  omega

set_option maxRecDepth 100000 in
set_option maxHeartbeats 4000000 in
theorem rdates_yes (ms z : Int) (h1 : isT ms) (h2 : isZ z) (h3 : isT (ms + z * 60000)) (w : World) :
    Calls Tryd.prog 35 #[.int .i64 ms, .int .i64 z] w (DatesOut (ms + z * 60000 + 62135596800000) w) := by
  obtain ⟨b1, b2⟩ := h1
  obtain ⟨b3, b4⟩ := h2
  obtain ⟨n, hn⟩ : ∃ n, ms + z * 60000 = n := ⟨_, rfl⟩
  have hn1 : -62135596800000 - 86400000 ≤ n := by omega
  have hn2 : n ≤ 253402300799999 + 86400000 := by omega
  rw [hn] at h3 ⊢
  by_cases hneg : 0 ≤ n
  · obtain ⟨dy, hdy⟩ : ∃ x, n / 86400000 = x := ⟨_, rfl⟩
    obtain ⟨rs, hrs⟩ : ∃ x, n % 86400000 = x := ⟨_, rfl⟩
    have r1 : 0 ≤ rs := by omega
    have r2 : rs < 86400000 := by omega
    have hday : (n + 62135596800000) / 86400000 - 719162 = dy := by omega
    have hrst : (n + 62135596800000) % 86400000 = rs := by omega
    have hb1 : -10000000 ≤ dy := by omega
    have hb2 : dy ≤ 10000000 := by omega
    have hc := Lib.hid (fun W => rcivil_yes dy (by have := h3.1; have := h3.2; omega) (by have := h3.1; have := h3.2; omega) W)
    have HD := Lib.hid hday
    have HE := Lib.hid (clock_eq hrst)
    clear hday hrst h3
    go_enter Tryd.func35, Tryd.ntmps35
    go_wp2_with fail
    refine (hc.out _).mono ?_
    rintro e w' ⟨y, m, d, rfl, hv, hnn, rfl⟩
    have HV := Lib.hid (And.intro hv hnn)
    clear hv hnn
    go_wp2
    refine bodyPost_ret (v := .tuple #[.agg #[.int .i64 y, .int .i64 m, .int .i64 d, .int .i64 (rs / 3600000), .int .i64 (rs / 60000 % 60), .int .i64 (rs / 1000 % 60), .int .i64 (rs % 1000)], .int .i64 0]) (by simp [results, Tryd.results35, go_sem]) rfl ⟨y, m, d, ?_, HV.out.1, by rw [HV.out.2, HD.out], ?_⟩
    · unfold dateV
      rw [HE.out.1, HE.out.2.1, HE.out.2.2.1, HE.out.2.2.2]
    · exact (Below.refl _ _).alloc (Nat.le_refl _) _
  · have hq := tdiv_neg (n := n) (by omega)
    obtain ⟨q, hdy⟩ : ∃ x, n.tdiv 86400000 = x := ⟨_, rfl⟩
    obtain ⟨t, hrs⟩ : ∃ x, n.tmod 86400000 = x := ⟨_, rfl⟩
    rw [hdy, hrs] at hq
    obtain ⟨q1, q2, q3⟩ := hq
    by_cases ht : t < 0
    · obtain ⟨dy, hd2⟩ : ∃ x, q - 1 = x := ⟨_, rfl⟩
      obtain ⟨rs, hr2⟩ : ∃ x, t + 86400000 = x := ⟨_, rfl⟩
      have r1 : 0 ≤ rs := by omega
      have r2 : rs < 86400000 := by omega
      have hday : (n + 62135596800000) / 86400000 - 719162 = dy := by omega
      have hrst : (n + 62135596800000) % 86400000 = rs := by omega
      have hb1 : -10000000 ≤ dy := by omega
      have hb2 : dy ≤ 10000000 := by omega
      have hc := Lib.hid (fun W => rcivil_yes dy (by have := h3.1; have := h3.2; omega) (by have := h3.1; have := h3.2; omega) W)
      have HD := Lib.hid hday
      have HE := Lib.hid (clock_eq hrst)
      clear hday hrst h3 q1 q2 q3
      go_enter Tryd.func35, Tryd.ntmps35
      go_wp2_with fail
      refine (hc.out _).mono ?_
      rintro e w' ⟨y, m, d, rfl, hv, hnn, rfl⟩
      have HV := Lib.hid (And.intro hv hnn)
      clear hv hnn
      go_wp2
      refine bodyPost_ret (v := .tuple #[.agg #[.int .i64 y, .int .i64 m, .int .i64 d, .int .i64 (rs / 3600000), .int .i64 (rs / 60000 % 60), .int .i64 (rs / 1000 % 60), .int .i64 (rs % 1000)], .int .i64 0]) (by simp [results, Tryd.results35, go_sem]) rfl ⟨y, m, d, ?_, HV.out.1, by rw [HV.out.2, HD.out], ?_⟩
      · unfold dateV
        rw [HE.out.1, HE.out.2.1, HE.out.2.2.1, HE.out.2.2.2]
      · exact (Below.refl _ _).alloc (Nat.le_refl _) _
    · obtain rfl : t = 0 := by omega
      have hday : (n + 62135596800000) / 86400000 - 719162 = q := by omega
      have hrst : (n + 62135596800000) % 86400000 = 0 := by omega
      have hb1 : -10000000 ≤ q := by omega
      have hb2 : q ≤ 10000000 := by omega
      have r1 : (0 : Int) ≤ 0 := by omega
      have r2 : (0 : Int) < 86400000 := by omega
      have hc := Lib.hid (fun W => rcivil_yes q (by have := h3.1; have := h3.2; omega) (by have := h3.1; have := h3.2; omega) W)
      have HD := Lib.hid hday
      have HE := Lib.hid (clock_eq hrst)
      clear hday hrst h3 q1 q2 q3
      go_enter Tryd.func35, Tryd.ntmps35
      go_wp2_with fail
      refine (hc.out _).mono ?_
      rintro e w' ⟨y, m, d, rfl, hv, hnn, rfl⟩
      have HV := Lib.hid (And.intro hv hnn)
      clear hv hnn
      go_wp2
      refine bodyPost_ret (v := .tuple #[.agg #[.int .i64 y, .int .i64 m, .int .i64 d, .int .i64 (0 / 3600000), .int .i64 (0 / 60000 % 60), .int .i64 (0 / 1000 % 60), .int .i64 (0 % 1000)], .int .i64 0]) (by simp [results, Tryd.results35, go_sem]) rfl ⟨y, m, d, ?_, HV.out.1, by rw [HV.out.2, HD.out], ?_⟩
      · unfold dateV
        rw [HE.out.1, HE.out.2.1, HE.out.2.2.1, HE.out.2.2.2]
      · exact (Below.refl _ _).alloc (Nat.le_refl _) _

set_option maxRecDepth 100000 in
set_option maxHeartbeats 4000000 in
theorem rdates_no3 (ms z : Int) (h1 : isT ms) (h2 : isZ z) (h3 : ¬ isT (ms + z * 60000)) (w : World) :
    Calls Tryd.prog 35 #[.int .i64 ms, .int .i64 z] w (dErr 2 w) := by
  obtain ⟨b1, b2⟩ := h1
  obtain ⟨b3, b4⟩ := h2
  obtain ⟨n, hn⟩ : ∃ n, ms + z * 60000 = n := ⟨_, rfl⟩
  have hn1 : -62135596800000 - 86400000 ≤ n := by omega
  have hn2 : n ≤ 253402300799999 + 86400000 := by omega
  rw [hn] at h3
  by_cases hneg : 0 ≤ n
  · obtain ⟨dy, hdy⟩ : ∃ x, n / 86400000 = x := ⟨_, rfl⟩
    obtain ⟨rs, hrs⟩ : ∃ x, n % 86400000 = x := ⟨_, rfl⟩
    have r1 : 0 ≤ rs := by omega
    have r2 : rs < 86400000 := by omega
    have hday : (n + 62135596800000) / 86400000 - 719162 = dy := by omega
    have hrst : (n + 62135596800000) % 86400000 = rs := by omega
    have hb1 : -10000000 ≤ dy := by omega
    have hb2 : dy ≤ 10000000 := by omega
    have hc := Lib.hid (fun W => rcivil_no dy (by
      rcases Int.lt_or_le dy (-719162) with l | l
      · exact .inl l
      · rcases Int.lt_or_le 2932896 dy with l2 | l2
        · exact .inr l2
        · exact absurd ⟨by omega, by omega⟩ h3) W)
    clear hday hrst h3
    go_enter Tryd.func35, Tryd.ntmps35
    go_wp2_with fail
    refine (hc.out _).mono ?_
    rintro e w' ⟨rfl, rfl⟩
    go_wp2
    exact bodyPost_ret (v := .tuple #[zeroDate, .int .i64 2]) (by simp [results, Tryd.results35, go_sem, zeroDate]) rfl ⟨rfl, (Below.refl _ _).alloc (Nat.le_refl _) _⟩
  · have hq := tdiv_neg (n := n) (by omega)
    obtain ⟨q, hdy⟩ : ∃ x, n.tdiv 86400000 = x := ⟨_, rfl⟩
    obtain ⟨t, hrs⟩ : ∃ x, n.tmod 86400000 = x := ⟨_, rfl⟩
    rw [hdy, hrs] at hq
    obtain ⟨q1, q2, q3⟩ := hq
    by_cases ht : t < 0
    · obtain ⟨dy, hd2⟩ : ∃ x, q - 1 = x := ⟨_, rfl⟩
      obtain ⟨rs, hr2⟩ : ∃ x, t + 86400000 = x := ⟨_, rfl⟩
      have r1 : 0 ≤ rs := by omega
      have r2 : rs < 86400000 := by omega
      have hday : (n + 62135596800000) / 86400000 - 719162 = dy := by omega
      have hrst : (n + 62135596800000) % 86400000 = rs := by omega
      have hb1 : -10000000 ≤ dy := by omega
      have hb2 : dy ≤ 10000000 := by omega
      have hc := Lib.hid (fun W => rcivil_no dy (by
        rcases Int.lt_or_le dy (-719162) with l | l
        · exact .inl l
        · rcases Int.lt_or_le 2932896 dy with l2 | l2
          · exact .inr l2
          · exact absurd ⟨by omega, by omega⟩ h3) W)
      clear hday hrst h3 q1 q2 q3
      go_enter Tryd.func35, Tryd.ntmps35
      go_wp2_with fail
      refine (hc.out _).mono ?_
      rintro e w' ⟨rfl, rfl⟩
      go_wp2
      exact bodyPost_ret (v := .tuple #[zeroDate, .int .i64 2]) (by simp [results, Tryd.results35, go_sem, zeroDate]) rfl ⟨rfl, (Below.refl _ _).alloc (Nat.le_refl _) _⟩
    · obtain rfl : t = 0 := by omega
      have hday : (n + 62135596800000) / 86400000 - 719162 = q := by omega
      have hrst : (n + 62135596800000) % 86400000 = 0 := by omega
      have hb1 : -10000000 ≤ q := by omega
      have hb2 : q ≤ 10000000 := by omega
      have r1 : (0 : Int) ≤ 0 := by omega
      have r2 : (0 : Int) < 86400000 := by omega
      have hc := Lib.hid (fun W => rcivil_no q (by
        rcases Int.lt_or_le q (-719162) with l | l
        · exact .inl l
        · rcases Int.lt_or_le 2932896 q with l2 | l2
          · exact .inr l2
          · exact absurd ⟨by omega, by omega⟩ h3) W)
      clear hday hrst h3 q1 q2 q3
      go_enter Tryd.func35, Tryd.ntmps35
      go_wp2_with fail
      refine (hc.out _).mono ?_
      rintro e w' ⟨rfl, rfl⟩
      go_wp2
      exact bodyPost_ret (v := .tuple #[zeroDate, .int .i64 2]) (by simp [results, Tryd.results35, go_sem, zeroDate]) rfl ⟨rfl, (Below.refl _ _).alloc (Nat.le_refl _) _⟩

set_option maxRecDepth 100000 in
set_option maxHeartbeats 4000000 in
theorem rdates_no (ms z : Int) (h : ¬ (isT ms ∧ isZ z ∧ isT (ms + z * 60000))) (w : World) :
    Calls Tryd.prog 35 #[.int .i64 ms, .int .i64 z] w (dErr 2 w) := by
  by_cases a1 : ms < -62135596800000
  · clear h
    go_enter Tryd.func35, Tryd.ntmps35
    go_wp2
    exact bodyPost_ret (v := .tuple #[zeroDate, .int .i64 2]) (by simp [results, Tryd.results35, go_sem, zeroDate]) rfl ⟨rfl, (Below.refl _ _).alloc (Nat.le_refl _) _⟩
  by_cases a2 : 253402300799999 < ms
  · clear h
    go_enter Tryd.func35, Tryd.ntmps35
    go_wp2
    exact bodyPost_ret (v := .tuple #[zeroDate, .int .i64 2]) (by simp [results, Tryd.results35, go_sem, zeroDate]) rfl ⟨rfl, (Below.refl _ _).alloc (Nat.le_refl _) _⟩
  by_cases a3 : z < -1440
  · clear h
    go_enter Tryd.func35, Tryd.ntmps35
    go_wp2
    exact bodyPost_ret (v := .tuple #[zeroDate, .int .i64 2]) (by simp [results, Tryd.results35, go_sem, zeroDate]) rfl ⟨rfl, (Below.refl _ _).alloc (Nat.le_refl _) _⟩
  by_cases a4 : 1440 < z
  · clear h
    go_enter Tryd.func35, Tryd.ntmps35
    go_wp2
    exact bodyPost_ret (v := .tuple #[zeroDate, .int .i64 2]) (by simp [results, Tryd.results35, go_sem, zeroDate]) rfl ⟨rfl, (Below.refl _ _).alloc (Nat.le_refl _) _⟩
  exact rdates_no3 ms z ⟨by omega, by omega⟩ ⟨by omega, by omega⟩ (fun x => h ⟨⟨by omega, by omega⟩, ⟨by omega, by omega⟩, x⟩) w

end Go.Proofs.YtofomlbhbbhdjaaDoor
