/- The sanity check of layer 6; near of its statements. -/
import Derived.Test.YtofomlbhbbhdjaaDoorTsRec
import Derived.Test.YtofomlbhbbhdjaaDoorTsPick
namespace Go.Proofs.YtofomlbhbbhdjaaDoor
open Go.RowKit

theorem tmod_neg_bd6 {x n : Int} (hx : x < 0) (hn : 1 ≤ n) : -n < x.tmod n ∧ x.tmod n ≤ 0 := by
  obtain ⟨u, rfl⟩ : ∃ u, x = -u := ⟨-x, by omega⟩
  rw [Int.neg_tmod, Int.tmod_eq_emod_of_nonneg (by omega)]
  have h1 := Int.emod_nonneg u (show n ≠ 0 by omega)
  have h2 := Int.emod_lt_of_pos u (show 0 < n by omega)
  omega
/-- Some number from lo to hi, the same at each call. -/
def modN (x n : Int) : Int := if 0 ≤ x.tmod n then x.tmod n else x.tmod n + n
def nearN (x lo hi : Int) : Int := lo + modN x (hi - lo + 1)
theorem modN_bd {x n : Int} (hn : 1 ≤ n) : 0 ≤ modN x n ∧ modN x n ≤ n - 1 := by
  unfold modN
  by_cases hx : 0 ≤ x
  · rw [Int.tmod_eq_emod_of_nonneg hx]
    have h1 := Int.emod_nonneg x (show n ≠ 0 by omega)
    have h2 := Int.emod_lt_of_pos x (show 0 < n by omega)
    rw [if_pos h1]; omega
  · have := tmod_neg_bd6 (x := x) (n := n) (by omega) hn
    split <;> omega
theorem nearN_bd {x lo hi : Int} (h : lo ≤ hi) : lo ≤ nearN x lo hi ∧ nearN x lo hi ≤ hi := by
  have := modN_bd (x := x) (n := hi - lo + 1) (by omega)
  unfold nearN; omega
set_option maxRecDepth 100000 in
set_option maxHeartbeats 1000000 in
theorem mod6_any (x n : Int) (h0 : -9223372036854775808 ≤ x) (h1 : x ≤ 9223372036854775807) (hn : 1 ≤ n) (hn2 : n ≤ 4611686018427387904) (w : World) :
    Calls Tryd.prog 15 #[.int .i64 x, .int .i64 n] w fun e w' => e = .returned (.int .i64 (modN x n)) ∧ w = w' := by
  by_cases hx : 0 ≤ x
  · have m1 := Int.emod_nonneg x (show n ≠ 0 by omega)
    have m2 := Int.emod_lt_of_pos x (show 0 < n by omega)
    have e1 : x.tmod n = x % n := Int.tmod_eq_emod_of_nonneg hx
    have hv : modN x n = x % n := by unfold modN; rw [e1, if_pos m1]
    rw [hv]
    obtain ⟨t, ht⟩ : ∃ t, x % n = t := ⟨_, rfl⟩
    rw [ht] at m1 m2 e1 ⊢
    clear hv
    go_enter Tryd.func15, Tryd.ntmps15
    go_wp2
    go_ret
    exact ⟨rfl, rfl⟩
  · have hb := tmod_neg_bd6 (x := x) (n := n) (by omega) hn
    have hv : modN x n = (if 0 ≤ x.tmod n then x.tmod n else x.tmod n + n) := rfl
    obtain ⟨t, ht⟩ : ∃ t, x.tmod n = t := ⟨_, rfl⟩
    rw [ht] at hb hv
    rw [hv]
    clear hv
    by_cases h : t < 0
    · rw [if_neg (by omega)]
      go_enter Tryd.func15, Tryd.ntmps15
      go_wp2
      go_ret
      exact ⟨rfl, rfl⟩
    · rw [if_pos (by omega)]
      go_enter Tryd.func15, Tryd.ntmps15
      go_wp2
      go_ret
      exact ⟨rfl, rfl⟩
set_option maxRecDepth 100000 in
set_option maxHeartbeats 1000000 in
theorem near6_any (x lo hi : Int) (h0 : -9223372036854775808 ≤ x) (h1 : x ≤ 9223372036854775807) (hl : lo ≤ hi) (hlo : -1152921504606846976 ≤ lo) (hhi : hi ≤ 1152921504606846976) (w : World) :
    Calls Tryd.prog 10 #[.int .i64 x, .int .i64 lo, .int .i64 hi] w fun e w' => e = .returned (.int .i64 (nearN x lo hi)) ∧ w = w' := by
  have hm := mod6_any x (hi - lo + 1) h0 h1 (by omega) (by omega) w
  have hb := modN_bd (x := x) (n := hi - lo + 1) (by omega)
  have hv : nearN x lo hi = lo + modN x (hi - lo + 1) := rfl
  obtain ⟨r, hr⟩ : ∃ r, modN x (hi - lo + 1) = r := ⟨_, rfl⟩
  rw [hr] at hm hb hv
  rw [hv]
  have HM := Lib.hid hm
  clear h0 h1 hm hr hv
  go_enter Tryd.func10, Tryd.ntmps10
  go_wp2_with fail
  refine (HM.out).mono ?_
  rintro e w' ⟨rfl, rfl⟩
  go_wp2
  go_ret
  exact ⟨rfl, rfl⟩

theorem ex_recover (w : World) (hT : DaysT w) (hM : MonT w) :
    Calls Tryd.prog 11 #[.string exS, .int .i64 exRef, .int .i64 0, .int .i64 0, .bool false] w fun e w' => e = .returned (.tuple #[.int .i64 exT, .int .i64 15, .int .i64 0]) ∧ Below w.heap.size w w' := by
  have hV : syV exS exRef 0 0 = exT := by unfold syV; rw [ex_bad, if_neg (by simp), if_pos rfl, ex_near]
  have hE : syE exS exRef 0 0 = 0 := by unfold syE; rw [ex_bad, if_neg (by simp), if_pos rfl, ex_near]
  have h := recover_at exS (by decide) exRef 0 0 false 1 (by omega) exT 0 15
    (fun k hk => ⟨_, fun B W hc hg => by
      obtain rfl : k = 0 := by omega
      have hv : fuV exS 0 = 0 ∧ fuE exS 0 = 20 := ⟨if_pos ex_full, if_pos ex_full⟩
      have := full_any exS B exRef 0 0 false W hc hg
      rw [hv.1, hv.2] at this
      exact this⟩)
    (fun B W hc hg => by
      have := syslog_any exS B exRef 0 0 false W hc hg
      rw [hV, hE, ex_pos] at this
      exact this) (by omega) w hT hM
  exact h
theorem ex_dates (w : World) (hT : DaysT w) :
    Calls Tryd.prog 19 #[.int .i64 exT, .int .i64 0] w fun e w' => (∃ m d : Int, e = .returned (.tuple #[dateV 2025 m d 63902822399000, .int .i64 0])) ∧ Below w.heap.size w w' := by
  refine (dates_yes exT 0 ⟨by decide, by decide⟩ ⟨by decide, by decide⟩ ⟨by decide, by decide⟩ w hT).mono fun e w' ⟨y, m, d, he, hv, hn, hb⟩ => ?_
  obtain ⟨rfl, rfl, rfl⟩ := Cal.num_inj hv (show Cal.valid 2025 12 31 by unfold Cal.valid; decide) (by rw [hn, ex_num.2.1]; decide)
  exact ⟨⟨12, 31, he⟩, hb⟩

set_option maxRecDepth 100000 in
set_option maxHeartbeats 4000000 in
theorem awake6_any (w : World) (hT : DaysT w) (hM : MonT w) :
    Calls Tryd.prog 7 #[] w fun e w' => e = .returned (.bool true) ∧ Below w.heap.size w w' := by
  have h1 := mil_any ⟨2026, 1, 2, 0, 0, 0, 0⟩ 0 w hT
  rw [ex_ref.1, ex_ref.2] at h1
  have H1 := Lib.hid h1
  have H2 := Lib.hid (fun W h h' => ex_recover W h h')
  have H3 := Lib.hid (fun W h => ex_dates W h)
  have HT := Lib.hid (And.intro hT hM)
  obtain ⟨R, hR⟩ : ∃ R, exRef = R := ⟨_, rfl⟩
  obtain ⟨T, hTT⟩ : ∃ T, exT = T := ⟨_, rfl⟩
  rw [hR] at H1 H2
  rw [hTT] at H2 H3
  unfold exS at H2
  clear h1 hT hM hR hTT
  go_enter Tryd.func7, Tryd.ntmps7
  go_wp2_with fail
  refine (H1.out).mono ?_
  rintro e w1 ⟨rfl, hb1⟩
  have HB1 := Lib.hid hb1
  clear hb1
  go_wp2_with fail
  refine (H2.out _ (HT.out.1.below HB1.out) (HT.out.2.below HB1.out)).mono ?_
  rintro e w2 ⟨rfl, hb2⟩
  have HB2 := Lib.hid (bl_trans HB1.out hb2)
  clear hb2
  go_wp2_with fail
  refine (H3.out _ (HT.out.1.below HB2.out)).mono ?_
  rintro e w3 ⟨⟨m, d, rfl⟩, hb3⟩
  have HB3 := Lib.hid (bl_trans HB2.out hb3)
  clear hb3
  unfold dateV
  go_wp2
  go_ret
  exact ⟨rfl, bl_trans HB3.out (below_alloc _ _)⟩
end Go.Proofs.YtofomlbhbbhdjaaDoor
