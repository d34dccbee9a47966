/- Plain mathematics of the calendar: the number of a date, its inverse, the day after a day. -/
namespace Go.Proofs.YtofomlbhbbhdjaaDoor.Cal
/-- The years that have 366 days. -/
def leap (y : Int) : Bool := decide (y % 4 = 0) && (decide (y % 100 ≠ 0) || decide (y % 400 = 0))
/-- The number of days of a month. -/
def len (y m : Int) : Int :=
  if m = 2 then (if leap y then 29 else 28)
  else if m = 4 ∨ m = 6 ∨ m = 9 ∨ m = 11 then 30
  else if 1 ≤ m ∧ m ≤ 12 then 31 else 0
/-- The days before a month of a year without a leap day. -/
def cum0 (m : Int) : Int :=
  if m ≤ 1 then 0 else if m = 2 then 31 else if m = 3 then 59 else if m = 4 then 90 else if m = 5 then 120 else if m = 6 then 151
  else if m = 7 then 181 else if m = 8 then 212 else if m = 9 then 243 else if m = 10 then 273 else if m = 11 then 304 else if m = 12 then 334 else 365
def cum (y m : Int) : Int := cum0 m + (if 3 ≤ m ∧ leap y = true then 1 else 0)
/-- The days before a year, from the year 1 on. -/
def bef (y : Int) : Int := 365 * (y - 1) + (y - 1) / 4 - (y - 1) / 100 + (y - 1) / 400
def valid (y m d : Int) : Prop := 1 ≤ y ∧ y ≤ 9999 ∧ 1 ≤ m ∧ m ≤ 12 ∧ 1 ≤ d ∧ d ≤ len y m
def num (y m d : Int) : Int := bef y + cum y m + d - 719163
theorem bef_succ (y : Int) : bef (y + 1) = bef y + 365 + (if leap y = true then 1 else 0) := by
  unfold bef leap
  by_cases h4 : y % 4 = 0 <;> by_cases h100 : y % 100 = 0 <;> by_cases h400 : y % 400 = 0 <;> simp [h4, h100, h400] <;> omega
theorem bef_mono {a b : Int} (h : a ≤ b) : bef a ≤ bef b := by unfold bef; omega
theorem bef_lt {a b : Int} (h : a < b) : bef a + 365 ≤ bef b := by unfold bef; omega
theorem bef_1970 : bef 1970 = 719162 := by decide
theorem bef_10000 : bef 10000 = 3652059 := by decide
theorem bef_1 : bef 1 = 0 := by decide
theorem len_pos {y m : Int} (h1 : 1 ≤ m) (h2 : m ≤ 12) : 28 ≤ len y m ∧ len y m ≤ 31 := by
  unfold len; split
  · split <;> omega
  · split
    · omega
    · split <;> omega
theorem cum_succ {y m : Int} (h1 : 1 ≤ m) (h2 : m ≤ 11) : cum y (m + 1) = cum y m + len y m := by
  have : m = 1 ∨ m = 2 ∨ m = 3 ∨ m = 4 ∨ m = 5 ∨ m = 6 ∨ m = 7 ∨ m = 8 ∨ m = 9 ∨ m = 10 ∨ m = 11 := by omega
  rcases this with rfl | rfl | rfl | rfl | rfl | rfl | rfl | rfl | rfl | rfl | rfl <;> simp [cum, cum0, len] <;> cases leap y <;> simp
theorem cum_last (y : Int) : cum y 12 + 31 = 365 + (if leap y = true then 1 else 0) := by simp [cum, cum0]; cases leap y <;> simp
theorem cum_one (y : Int) : cum y 1 = 0 := by simp [cum, cum0]
theorem len_twelve (y : Int) : len y 12 = 31 := by simp [len]
theorem cum_lt {y a b : Int} (h1 : 1 ≤ a) (h : a < b) (h2 : b ≤ 12) : cum y a + len y a ≤ cum y b := by
  obtain ⟨n, hn⟩ : ∃ n : Nat, b = a + 1 + n := ⟨(b - a - 1).toNat, by omega⟩
  induction n generalizing b with
  | zero => rw [show b = a + 1 by omega, cum_succ h1 (by omega)]; omega
  | succ n ih =>
    have := ih (b := a + 1 + n) (by omega) (by omega) rfl
    have e : b = (a + 1 + n) + 1 := by omega
    have l := len_pos (y := y) (m := a + 1 + n) (by omega) (by omega)
    rw [e, cum_succ (by omega) (by omega)]; omega
theorem cum_day {y m d : Int} (h : valid y m d) : 1 ≤ cum y m + d ∧ cum y m + d ≤ 365 + (if leap y = true then 1 else 0) := by
  obtain ⟨-, -, hm1, hm2, hd1, hd2⟩ := h
  have e := cum_last y
  have c1 := cum_one y
  by_cases hm : m = 12
  · subst hm; rw [len_twelve] at hd2
    have := cum_lt (y := y) (a := 1) (b := 12) (by omega) (by omega) (by omega)
    have := len_pos (y := y) (m := 1) (by omega) (by omega)
    omega
  · have := cum_lt (y := y) (a := m) (b := 12) hm1 (by omega) (by omega)
    have h0 : 0 ≤ cum y m := by
      by_cases h1 : m = 1
      · subst h1; omega
      · have := cum_lt (y := y) (a := 1) (b := m) (by omega) (by omega) (by omega)
        have := len_pos (y := y) (m := 1) (by omega) (by omega)
        omega
    omega
/-- A date is known by its number. -/
theorem num_inj {y m d y' m' d' : Int} (h : valid y m d) (h' : valid y' m' d') (e : num y m d = num y' m' d') : y = y' ∧ m = m' ∧ d = d' := by
  have k := cum_day h
  have k' := cum_day h'
  have s := bef_succ y
  have s' := bef_succ y'
  unfold num at e
  have hy : y = y' := by
    rcases Int.lt_trichotomy y y' with l | l | l
    · have := bef_mono (show y + 1 ≤ y' by omega); omega
    · exact l
    · have := bef_mono (show y' + 1 ≤ y by omega); omega
  subst hy
  obtain ⟨-, -, hm1, hm2, hd1, hd2⟩ := h
  obtain ⟨-, -, hm1', hm2', hd1', hd2'⟩ := h'
  have hm : m = m' := by
    rcases Int.lt_trichotomy m m' with l | l | l
    · have := cum_lt (y := y) hm1 l hm2'; omega
    · exact l
    · have := cum_lt (y := y) hm1' l hm2; omega
  subst hm
  exact ⟨rfl, rfl, by omega⟩
/-- The day after a day. -/
theorem next_day {y m d : Int} (h : valid y m d) (hn : num y m d < 2932896) :
    (d < len y m → valid y m (d + 1) ∧ num y m (d + 1) = num y m d + 1) ∧
    (d = len y m → m < 12 → valid y (m + 1) 1 ∧ num y (m + 1) 1 = num y m d + 1) ∧
    (d = len y m → m = 12 → valid (y + 1) 1 1 ∧ num (y + 1) 1 1 = num y m d + 1) := by
  have h0 := h
  obtain ⟨hy1, hy2, hm1, hm2, hd1, hd2⟩ := h
  refine ⟨fun hl => ⟨⟨hy1, hy2, hm1, hm2, by omega, by omega⟩, by unfold num; omega⟩, fun hl hm => ?_, fun hl hm => ?_⟩
  · have := len_pos (y := y) (m := m + 1) (by omega) (by omega)
    refine ⟨⟨hy1, hy2, by omega, by omega, by omega, by omega⟩, ?_⟩
    unfold num; rw [cum_succ hm1 (by omega)]; omega
  · subst hm
    have e := cum_last y
    have s := bef_succ y
    rw [len_twelve] at hl
    have hy : y + 1 ≤ 9999 := by
      by_cases h9 : y = 9999
      · have b := bef_10000
        rw [show (10000 : Int) = 9999 + 1 from rfl, ← h9] at b
        unfold num at hn; omega
      · omega
    have l := len_pos (y := y + 1) (m := 1) (by omega) (by omega)
    refine ⟨⟨by omega, hy, by omega, by omega, by omega, by omega⟩, ?_⟩
    unfold num; rw [cum_one]; omega
theorem num_bounds {y m d : Int} (h : valid y m d) : -719162 ≤ num y m d ∧ num y m d ≤ 2932896 := by
  have k := cum_day h
  have s := bef_succ y
  have a := bef_mono h.1
  have b := bef_mono (show y + 1 ≤ 10000 by have := h.2.1; omega)
  rw [bef_1] at a
  rw [bef_10000] at b
  unfold num; omega
end Go.Proofs.YtofomlbhbbhdjaaDoor.Cal
