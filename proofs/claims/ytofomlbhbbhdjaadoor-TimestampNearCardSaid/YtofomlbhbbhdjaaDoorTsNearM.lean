/- A time without a year that lies within 180 days of the reference is the nearest; so is one without a date within 11 hours. -/
import Derived.Test.YtofomlbhbbhdjaaDoorTsTrip2
namespace Go.Proofs.YtofomlbhbbhdjaaDoor

theorem day_exists (n : Nat) : n ≤ 3652058 → ∃ y m d, Cal.valid y m d ∧ Cal.num y m d = -719162 + n := by
  induction n with
  | zero => intro _; exact ⟨1, 1, 1, by unfold Cal.valid; decide, by decide⟩
  | succ n ih =>
    intro h
    obtain ⟨y, m, d, hv, hn⟩ := ih (by omega)
    obtain ⟨h1, h2, h3⟩ := Cal.next_day hv (by omega)
    obtain ⟨-, -, -, hm, -, hd⟩ := id hv
    rcases Int.lt_or_eq_of_le hd with l | l
    · exact ⟨y, m, d + 1, (h1 l).1, by rw [(h1 l).2]; omega⟩
    · rcases Int.lt_or_eq_of_le hm with l2 | l2
      · exact ⟨y, m + 1, 1, (h2 l l2).1, by rw [(h2 l l2).2]; omega⟩
      · exact ⟨y + 1, 1, 1, (h3 l l2).1, by rw [(h3 l l2).2]; omega⟩
theorem civ_in {n : Int} (h0 : -719162 ≤ n) (h1 : n ≤ 2932896) : Cal.valid (civT n).1 (civT n).2.1 (civT n).2.2 ∧ Cal.num (civT n).1 (civT n).2.1 (civT n).2.2 = n := by
  obtain ⟨y, m, d, hv, hn⟩ := day_exists (n + 719162).toNat (by omega)
  rw [civT_is hv (by rw [hn]; omega)]
  exact ⟨hv, by rw [hn]; omega⟩
theorem civ_num {n : Int} (h : Cal.valid (civT n).1 (civT n).2.1 (civT n).2.2) : Cal.num (civT n).1 (civT n).2.1 (civT n).2.2 = n := by
  by_cases hr : n < -719162 ∨ 2932896 < n
  · rw [civT_no hr] at h
    obtain ⟨-, -, hm, -⟩ := h
    simp at hm
  · exact (civ_in (by omega) (by omega)).2
/-- The milliseconds of a clock. -/
def clkMs (h i c : Int) : Int := h * 3600000 + i * 60000 + c * 1000
theorem ms_day {y m d h i c : Int} : msOf y m d h i c 0 0 = Cal.num y m d * 86400000 + clkMs h i c := by unfold msOf clkMs; omega
theorem clkMs_bd {h i c : Int} (hc : clockOk h i c 0) : 0 ≤ clkMs h i c ∧ clkMs h i c < 86400000 := by
  obtain ⟨a, b, d, -⟩ := hc
  unfold clkMs; omega
theorem okT_small {r : Int} (h0 : 0 ≤ r) (h1 : r ≤ 4000000000000) : okT r 0 := ⟨⟨by omega, by omega⟩, ⟨by decide, by decide⟩, ⟨by omega, by omega⟩⟩
theorem pOf_small (r : Int) : pOf r 0 = r + 62135596800000 := by unfold pOf; omega

theorem neB_pick {y m d h i c r k : Int} (h0 : 0 ≤ r) (h1 : r ≤ 4000000000000) (hk0 : -180 ≤ k) (hk1 : k ≤ 180) (hv : Cal.valid y m d) (hc : clockOk h i c 0) (ht : msOf y m d h i c 0 0 = r + 86400000 * k) (ht0 : 0 ≤ r + 86400000 * k) :
    neB ⟨0, m, d, h, i, c, 0⟩ r 0 = (r + 86400000 * k, 0) := by
  have hcb := clkMs_bd hc
  rw [ms_day] at ht
  unfold neB
  rw [if_pos (okT_small h0 h1), pOf_small]
  obtain ⟨N, hN⟩ : ∃ N, (r + 62135596800000) / 86400000 - 719162 = N := ⟨_, rfl⟩
  rw [hN]
  obtain ⟨cv, cn⟩ := civ_in (n := N) (by omega) (by omega)
  have hnum : Cal.num y m d = N + k := by omega
  have a1 := Cal.cum_day hv
  have a2 := Cal.cum_day cv
  have b0 := Cal.bef_succ (civT N).1
  have b1 := Cal.bef_succ y
  obtain ⟨Y, hY⟩ : ∃ Y, (civT N).1 = Y := ⟨_, rfl⟩
  have hy : Y - 1 ≤ y ∧ y ≤ Y + 1 := by
    unfold Cal.num at hnum cn
    rw [hY] at cn a2 b0
    constructor
    · rcases Int.lt_or_le y (Y - 1) with l | l
      · have m1 := Cal.bef_mono (show y + 1 ≤ Y - 1 by omega)
        have m2 := Cal.bef_lt (show Y - 1 < Y by omega)
        omega
      · exact l
    · rcases Int.lt_or_le (Y + 1) y with l | l
      · have m1 := Cal.bef_mono (show Y + 1 + 1 ≤ y by omega)
        have m2 := Cal.bef_lt (show Y + 1 < Y + 1 + 1 by omega)
        omega
      · exact l
  rw [hY]
  obtain ⟨j, hj⟩ : ∃ j : Nat, y = Y - 1 + j := ⟨(y - (Y - 1)).toNat, by omega⟩
  have hxs : ∀ n : Nat, yrs Y ⟨0, m, d, h, i, c, 0⟩ n = ⟨Y - 1 + n, m, d, h, i, c, 0⟩ := fun n => rfl
  have hmj := mil_val (x := ⟨y, m, d, h, i, c, 0⟩) (z := 0) ⟨hv, hc⟩ ⟨by decide, by decide⟩ (by simp only; rw [ms_day]; exact ⟨by omega, by omega⟩)
  rw [ms_day] at hmj
  refine (near_pick r 0 (r + 86400000 * k) _ j (by rw [hxs, ← hj]; exact hmj.2) (by rw [hxs, ← hj, hmj.1]; exact ht) (fun n hn he => ?_) 3).2 (by omega)
  rw [hxs] at he ⊢
  rw [(mil_is he).2.2]
  simp only
  rw [ms_day]
  unfold dist
  rcases Int.lt_trichotomy (Y - 1 + (n : Int)) y with l | l | l
  · have := num_apart (m := m) (d := d) l
    omega
  · omega
  · have := num_apart (m := m) (d := d) l
    omega
theorem dyB_pick {h i c r u n : Int} (h0 : 0 ≤ r) (h1 : r ≤ 4000000000000) (hu0 : -39600000 ≤ u - r) (hu1 : u - r ≤ 39600000) (hc : clockOk h i c 0) (hn : u = n * 86400000 + clkMs h i c) :
    dyB ⟨0, 0, 0, h, i, c, 0⟩ r 0 = (u, 0) := by
  have hcb := clkMs_bd hc
  unfold dyB
  rw [if_pos (okT_small h0 h1), pOf_small]
  obtain ⟨N, hN⟩ : ∃ N, (r + 62135596800000) / 86400000 - 719162 = N := ⟨_, rfl⟩
  rw [hN]
  obtain ⟨j, hj⟩ : ∃ j : Nat, n = N - 1 + j := ⟨(n - (N - 1)).toNat, by omega⟩
  have hj3 : j < 3 := by omega
  have hxs : ∀ k : Nat, dys N ⟨0, 0, 0, h, i, c, 0⟩ k = ⟨(civT (N - 1 + k)).1, (civT (N - 1 + k)).2.1, (civT (N - 1 + k)).2.2, h, i, c, 0⟩ := fun k => rfl
  obtain ⟨cv, cn⟩ := civ_in (n := N - 1 + j) (by omega) (by omega)
  have hmj := mil_val (x := ⟨(civT (N - 1 + j)).1, (civT (N - 1 + j)).2.1, (civT (N - 1 + j)).2.2, h, i, c, 0⟩) (z := 0) ⟨cv, hc⟩ ⟨by decide, by decide⟩ (by simp only; rw [ms_day, cn]; exact ⟨by omega, by omega⟩)
  rw [ms_day] at hmj
  simp only at hmj
  rw [cn] at hmj
  refine (near_pick r 0 u _ j (by rw [hxs]; exact hmj.2) (by rw [hxs, hmj.1, hn, hj]) (fun k hk he => ?_) 3).2 hj3
  rw [hxs] at he ⊢
  obtain ⟨hck, -, hmv⟩ := mil_is he
  rw [hmv]
  simp only
  rw [ms_day, civ_num hck.1]
  unfold dist
  omega
end Go.Proofs.YtofomlbhbbhdjaaDoor
