/- The contracts of the maker's Mod, of near and of package calendar's Weekday. -/
import Derived.Test.YtnegfiiecegbbaaDoorCalA
namespace Go.Proofs.YtnegfiiecegbbaaDoor
open Go.RowKit

theorem tmod_neg_bd {x n : Int} (hx : x < 0) (hn : 1 ≤ n) : -n < x.tmod n ∧ x.tmod n ≤ 0 := by
  obtain ⟨u, rfl⟩ : ∃ u, x = -u := ⟨-x, by omega⟩
  rw [Int.neg_tmod, Int.tmod_eq_emod_of_nonneg (by omega)]
  have h1 := Int.emod_nonneg u (show n ≠ 0 by omega)
  have h2 := Int.emod_lt_of_pos u (show 0 < n by omega)
  omega
/-- Some number from lo to hi. -/
def NearOut (lo hi : Int) (w : World) (e : Ending) (w' : World) : Prop := ∃ r : Int, e = .returned (.int .i64 r) ∧ lo ≤ r ∧ r ≤ hi ∧ w = w'

set_option maxRecDepth 100000 in
set_option maxHeartbeats 1000000 in
theorem mod_any (x n : Int) (h0 : -9223372036854775808 ≤ x) (h1 : x ≤ 9223372036854775807) (hn : 1 ≤ n) (hn2 : n ≤ 4611686018427387904) (w : World) :
    Calls Tryd.prog 20 #[.int .i64 x, .int .i64 n] w (NearOut 0 (n - 1) w) := by
  by_cases hx : 0 ≤ x
  · have m1 := Int.emod_nonneg x (show n ≠ 0 by omega)
    have m2 := Int.emod_lt_of_pos x (show 0 < n by omega)
    have e1 : x.tmod n = x % n := Int.tmod_eq_emod_of_nonneg hx
    obtain ⟨t, ht⟩ : ∃ t, x % n = t := ⟨_, rfl⟩
    rw [ht] at m1 m2 e1
    go_enter Tryd.func20, Tryd.ntmps20
    go_wp2
    go_ret
    exact ⟨t, rfl, by omega, by omega, rfl⟩
  · have hb := tmod_neg_bd (x := x) (n := n) (by omega) hn
    obtain ⟨t, ht⟩ : ∃ t, x.tmod n = t := ⟨_, rfl⟩
    rw [ht] at hb
    by_cases h : t < 0
    all_goals
      go_enter Tryd.func20, Tryd.ntmps20
      go_wp2
      go_ret
      exact ⟨_, rfl, by omega, by omega, rfl⟩
set_option maxRecDepth 100000 in
set_option maxHeartbeats 1000000 in
theorem near_any (x lo hi : Int) (h0 : -9223372036854775808 ≤ x) (h1 : x ≤ 9223372036854775807) (hl : lo ≤ hi) (hlo : -1152921504606846976 ≤ lo) (hhi : hi ≤ 1152921504606846976) (w : World) :
    Calls Tryd.prog 7 #[.int .i64 x, .int .i64 lo, .int .i64 hi] w (NearOut lo hi w) := by
  have hm := Lib.hid (mod_any x (hi - lo + 1) h0 h1 (by omega) (by omega) w)
  clear h0 h1
  go_enter Tryd.func7, Tryd.ntmps7
  go_wp2_with fail
  refine (hm.out).mono ?_
  rintro e w' ⟨r, rfl, hr0, hr1, rfl⟩
  go_wp2
  go_ret
  exact ⟨lo + r, rfl, by omega, by omega, rfl⟩

/-- The day of the week, 0 for Monday. -/
def wday (k : Int) : Int := (k + 3) % 7
set_option maxRecDepth 100000 in
set_option maxHeartbeats 1000000 in
theorem weekday_any (k : Int) (h0 : -4000000 ≤ k) (h1 : k ≤ 4000000) (w : World) :
    Calls Tryd.prog 18 #[.int .i64 k] w fun e w' => e = .returned (.int .i64 (wday k)) ∧ w = w' := by
  by_cases hk : 0 ≤ k
  · go_enter Tryd.func18, Tryd.ntmps18
    go_wp2
    go_ret
    exact ⟨rt_int (by unfold wday; omega), rfl⟩
  · have hb := tmod_neg_bd (x := k) (n := 7) (by omega) (by omega)
    have he : wday k = (k.tmod 7 + 7 + 3) % 7 := by
      obtain ⟨u, rfl⟩ : ∃ u, k = -u := ⟨-k, by omega⟩
      rw [Int.neg_tmod, Int.tmod_eq_emod_of_nonneg (by omega)]
      unfold wday; omega
    obtain ⟨t, ht⟩ : ∃ t, k.tmod 7 = t := ⟨_, rfl⟩
    rw [ht] at hb he
    have HE := Lib.hid he
    clear he
    go_enter Tryd.func18, Tryd.ntmps18
    go_wp2
    go_ret
    exact ⟨rt_int (by rw [HE.out]), rfl⟩
end Go.Proofs.YtnegfiiecegbbaaDoor
