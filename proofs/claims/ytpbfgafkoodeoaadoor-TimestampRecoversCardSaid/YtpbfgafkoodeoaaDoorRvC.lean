/- Plain mathematics of the calendar: the number of a date, its inverse, the day after a day. The contracts of package calendar's small functions and of their references: leap years, the days of a month, the days before a month and a year. The contracts of package calendar's Length and Days. The contract of package calendar's Civil. The contract of package calendar's Dates. -/
import Derived.Test.YtpbfgafkoodeoaaDoorProg
import Derived.WalkKit
import Derived.ProofKit
import Derived.Below
import Derived.Lib.Hide
import Derived.Lib.LaidTab
import Derived.Lib.AppendIntMem
import Derived.Outline
import Derived.BigQuiet
import Derived.Deep.QuietTactic
import Derived.LoopTactic
import Derived.IntWalk
import Derived.Lib.Builder
namespace Go.Proofs.YtpbfgafkoodeoaaDoor.Cal
/-- The years that have 366 days. -/
def leap (y : Int) : Bool := decide (y % 4 = 0) && (decide (y % 100 ≠ 0) || decide (y % 400 = 0))
/-- The number of days of a month. -/
def len (y m : Int) : Int :=
  if m = 2 then (if leap y then 29 else 28)
  else if m = 4 ∨ m = 6 ∨ m = 9 ∨ m = 11 then 30
  else if 1 ≤ m ∧ m ≤ 12 then 31 else 0
/-- The days before a month of a year without a leap day. -/
def cum0 (m : Int) : Int :=
  if m ≤ 1 then 0 else if m = 2 then 31 else if m = 3 then 59 else if m = 4 then 90 else if m = 5 then 120 else if m = 6 then 151
  else if m = 7 then 181 else if m = 8 then 212 else if m = 9 then 243 else if m = 10 then 273 else if m = 11 then 304 else if m = 12 then 334 else 365
def cum (y m : Int) : Int := cum0 m + (if 3 ≤ m ∧ leap y = true then 1 else 0)
/-- The days before a year, from the year 1 on. -/
def bef (y : Int) : Int := 365 * (y - 1) + (y - 1) / 4 - (y - 1) / 100 + (y - 1) / 400
def valid (y m d : Int) : Prop := 1 ≤ y ∧ y ≤ 9999 ∧ 1 ≤ m ∧ m ≤ 12 ∧ 1 ≤ d ∧ d ≤ len y m
def num (y m d : Int) : Int := bef y + cum y m + d - 719163
theorem bef_succ (y : Int) : bef (y + 1) = bef y + 365 + (if leap y = true then 1 else 0) := by
  unfold bef leap
  by_cases h4 : y % 4 = 0 <;> by_cases h100 : y % 100 = 0 <;> by_cases h400 : y % 400 = 0 <;> simp [h4, h100, h400] <;> omega
theorem bef_mono {a b : Int} (h : a ≤ b) : bef a ≤ bef b := by unfold bef; omega
theorem bef_lt {a b : Int} (h : a < b) : bef a + 365 ≤ bef b := by unfold bef; omega
theorem bef_1970 : bef 1970 = 719162 := by decide
theorem bef_10000 : bef 10000 = 3652059 := by decide
theorem bef_1 : bef 1 = 0 := by decide
theorem len_pos {y m : Int} (h1 : 1 ≤ m) (h2 : m ≤ 12) : 28 ≤ len y m ∧ len y m ≤ 31 := by
  unfold len; split
  · split <;> omega
  · split
    · omega
    · split <;> omega
theorem cum_succ {y m : Int} (h1 : 1 ≤ m) (h2 : m ≤ 11) : cum y (m + 1) = cum y m + len y m := by
  have : m = 1 ∨ m = 2 ∨ m = 3 ∨ m = 4 ∨ m = 5 ∨ m = 6 ∨ m = 7 ∨ m = 8 ∨ m = 9 ∨ m = 10 ∨ m = 11 := by omega
  rcases this with rfl | rfl | rfl | rfl | rfl | rfl | rfl | rfl | rfl | rfl | rfl <;> simp [cum, cum0, len] <;> cases leap y <;> simp
theorem cum_last (y : Int) : cum y 12 + 31 = 365 + (if leap y = true then 1 else 0) := by simp [cum, cum0]; cases leap y <;> simp
theorem cum_one (y : Int) : cum y 1 = 0 := by simp [cum, cum0]
theorem len_twelve (y : Int) : len y 12 = 31 := by simp [len]
theorem cum_lt {y a b : Int} (h1 : 1 ≤ a) (h : a < b) (h2 : b ≤ 12) : cum y a + len y a ≤ cum y b := by
  obtain ⟨n, hn⟩ : ∃ n : Nat, b = a + 1 + n := ⟨(b - a - 1).toNat, by omega⟩
  induction n generalizing b with
  | zero => rw [show b = a + 1 by omega, cum_succ h1 (by omega)]; omega
  | succ n ih =>
    have := ih (b := a + 1 + n) (by omega) (by omega) rfl
    have e : b = (a + 1 + n) + 1 := by omega
    have l := len_pos (y := y) (m := a + 1 + n) (by omega) (by omega)
    rw [e, cum_succ (by omega) (by omega)]; omega
theorem cum_day {y m d : Int} (h : valid y m d) : 1 ≤ cum y m + d ∧ cum y m + d ≤ 365 + (if leap y = true then 1 else 0) := by
  obtain ⟨-, -, hm1, hm2, hd1, hd2⟩ := h
  have e := cum_last y
  have c1 := cum_one y
  by_cases hm : m = 12
  · subst hm; rw [len_twelve] at hd2
    have := cum_lt (y := y) (a := 1) (b := 12) (by omega) (by omega) (by omega)
    have := len_pos (y := y) (m := 1) (by omega) (by omega)
    omega
  · have := cum_lt (y := y) (a := m) (b := 12) hm1 (by omega) (by omega)
    have h0 : 0 ≤ cum y m := by
      by_cases h1 : m = 1
      · subst h1; omega
      · have := cum_lt (y := y) (a := 1) (b := m) (by omega) (by omega) (by omega)
        have := len_pos (y := y) (m := 1) (by omega) (by omega)
        omega
    omega
/-- A date is known by its number. -/
theorem num_inj {y m d y' m' d' : Int} (h : valid y m d) (h' : valid y' m' d') (e : num y m d = num y' m' d') : y = y' ∧ m = m' ∧ d = d' := by
  have k := cum_day h
  have k' := cum_day h'
  have s := bef_succ y
  have s' := bef_succ y'
  unfold num at e
  have hy : y = y' := by
    rcases Int.lt_trichotomy y y' with l | l | l
    · have := bef_mono (show y + 1 ≤ y' by omega); omega
    · exact l
    · have := bef_mono (show y' + 1 ≤ y by omega); omega
  subst hy
  obtain ⟨-, -, hm1, hm2, hd1, hd2⟩ := h
  obtain ⟨-, -, hm1', hm2', hd1', hd2'⟩ := h'
  have hm : m = m' := by
    rcases Int.lt_trichotomy m m' with l | l | l
    · have := cum_lt (y := y) hm1 l hm2'; omega
    · exact l
    · have := cum_lt (y := y) hm1' l hm2; omega
  subst hm
  exact ⟨rfl, rfl, by omega⟩
/-- The day after a day. -/
theorem next_day {y m d : Int} (h : valid y m d) (hn : num y m d < 2932896) :
    (d < len y m → valid y m (d + 1) ∧ num y m (d + 1) = num y m d + 1) ∧
    (d = len y m → m < 12 → valid y (m + 1) 1 ∧ num y (m + 1) 1 = num y m d + 1) ∧
    (d = len y m → m = 12 → valid (y + 1) 1 1 ∧ num (y + 1) 1 1 = num y m d + 1) := by
  have h0 := h
  obtain ⟨hy1, hy2, hm1, hm2, hd1, hd2⟩ := h
  refine ⟨fun hl => ⟨⟨hy1, hy2, hm1, hm2, by omega, by omega⟩, by unfold num; omega⟩, fun hl hm => ?_, fun hl hm => ?_⟩
  · have := len_pos (y := y) (m := m + 1) (by omega) (by omega)
    refine ⟨⟨hy1, hy2, by omega, by omega, by omega, by omega⟩, ?_⟩
    unfold num; rw [cum_succ hm1 (by omega)]; omega
  · subst hm
    have e := cum_last y
    have s := bef_succ y
    rw [len_twelve] at hl
    have hy : y + 1 ≤ 9999 := by
      by_cases h9 : y = 9999
      · have b := bef_10000
        rw [show (10000 : Int) = 9999 + 1 from rfl, ← h9] at b
        unfold num at hn; omega
      · omega
    have l := len_pos (y := y + 1) (m := 1) (by omega) (by omega)
    refine ⟨⟨by omega, hy, by omega, by omega, by omega, by omega⟩, ?_⟩
    unfold num; rw [cum_one]; omega
theorem num_bounds {y m d : Int} (h : valid y m d) : -719162 ≤ num y m d ∧ num y m d ≤ 2932896 := by
  have k := cum_day h
  have s := bef_succ y
  have a := bef_mono h.1
  have b := bef_mono (show y + 1 ≤ 10000 by have := h.2.1; omega)
  rw [bef_1] at a
  rw [bef_10000] at b
  unfold num; omega
end Go.Proofs.YtpbfgafkoodeoaaDoor.Cal

namespace Go.Proofs.YtpbfgafkoodeoaaDoor
open Go.RowKit

theorem rt_bool {a b : Bool} (h : a = b) : Ending.returned (.bool a) = .returned (.bool b) := by rw [h]
theorem rt_int {k : IntKind} {a b : Int} (h : a = b) : Ending.returned (.int k a) = .returned (.int k b) := by rw [h]

theorem leap_if {y : Int} {L : Bool} (H : Hid (L = (decide (y % 4 = 0) && (decide (y % 100 ≠ 0) || decide (y % 400 = 0))))) :
    (¬ y % 4 = 0 → L = false) ∧ (y % 4 = 0 → ¬ y % 100 = 0 → L = true) ∧ (y % 4 = 0 → y % 100 = 0 → L = (y % 400 == 0)) := by
  rw [H.out]
  refine ⟨fun h => by simp [h], fun h h' => by simp [h, h'], fun h h' => by rw [Bool.eq_iff_iff]; simp [h, h']⟩

set_option maxRecDepth 100000 in
set_option maxHeartbeats 1000000 in
theorem leap_any (y : Int) (h0 : 0 ≤ y) (h1 : y ≤ 20000) (w : World) :
    Calls Tryd.prog 68 #[.int .i64 y] w fun e w' => e = .returned (.bool (Cal.leap y)) ∧ w = w' := by
  have H : Hid (Cal.leap y = (decide (y % 4 = 0) && (decide (y % 100 ≠ 0) || decide (y % 400 = 0)))) := rfl
  obtain ⟨L, hL⟩ : ∃ L, Cal.leap y = L := ⟨_, rfl⟩
  rw [hL] at H ⊢
  clear hL
  go_enter Tryd.func68, Tryd.ntmps68
  go_wp2
  all_goals go_ret
  · exact ⟨rt_bool ((leap_if H).2.2 ‹_› ‹_›).symm, rfl⟩
  · exact ⟨rt_bool ((leap_if H).2.1 ‹_› ‹_›).symm, rfl⟩
  · exact ⟨rt_bool ((leap_if H).1 ‹_›).symm, rfl⟩

set_option maxRecDepth 100000 in
set_option maxHeartbeats 1000000 in
theorem rleap_any (y : Int) (h0 : 0 ≤ y) (h1 : y ≤ 20000) (w : World) :
    Calls Tryd.prog 76 #[.int .i64 y] w fun e w' => e = .returned (.bool (Cal.leap y)) ∧ w = w' := by
  have H : Hid (Cal.leap y = (decide (y % 4 = 0) && (decide (y % 100 ≠ 0) || decide (y % 400 = 0)))) := rfl
  obtain ⟨L, hL⟩ : ∃ L, Cal.leap y = L := ⟨_, rfl⟩
  rw [hL] at H ⊢
  clear hL
  go_enter Tryd.func76, Tryd.ntmps76
  go_wp2
  all_goals go_ret
  · exact ⟨rt_bool ((leap_if H).2.2 ‹_› ‹_›).symm, rfl⟩
  · exact ⟨rt_bool ((leap_if H).2.1 ‹_› ‹_›).symm, rfl⟩
  · exact ⟨rt_bool ((leap_if H).1 ‹_›).symm, rfl⟩

/-- The table of the days before a month. -/
def daysTab : List Int := [0, 0, 31, 59, 90, 120, 151, 181, 212, 243, 273, 304, 334, 365]
abbrev DaysT (w : World) : Prop := Lib.TabIs Tryd.prog w "logtide/calendar.daysBefore" .i64 daysTab
theorem DaysT.below {w W : World} (h : DaysT w) (hb : Below w.heap.size w W) : DaysT W := (Lib.tabBelow_of_tabIs h) W hb
theorem cum0_bd (m : Int) : 0 ≤ Cal.cum0 m ∧ Cal.cum0 m ≤ 365 := by
  unfold Cal.cum0; repeat' split
  all_goals omega
theorem tab_at (m : Nat) (h : m < 14) : daysTab[m]? = some (Cal.cum0 (m : Int)) := by
  have : ∀ i : Fin 14, daysTab[i.1]? = some (Cal.cum0 (i.1 : Int)) := by decide
  exact this ⟨m, h⟩
theorem DaysT.cell {w : World} (h : DaysT w) (m : Nat) (hm : m < 14) : w.cell? ⟨0, m, none⟩ = some (.int .i64 (Cal.cum0 (m : Int))) := by
  have hl : m < daysTab.length := hm
  have e := Lib.TabIs.cell (g := 0) h (by kernel_rfl) m hl
  have t := tab_at m hm
  rw [e, List.getD_eq_getElem?_getD, t]; rfl

set_option maxRecDepth 100000 in
set_option maxHeartbeats 1000000 in
theorem before_any (y : Int) (m : Nat) (h0 : 0 ≤ y) (h1 : y ≤ 20000) (hm0 : 1 ≤ m) (hm1 : m ≤ 13) (w : World) (hT : DaysT w) :
    Calls Tryd.prog 51 #[.int .i64 y, .int .i64 m] w fun e w' => e = .returned (.int .i64 (Cal.cum y m)) ∧ w = w' := by
  have hc := hT.cell m (by omega)
  have hb := cum0_bd (m : Int)
  have HC : Hid (Cal.cum y m = Cal.cum0 m + (if 3 ≤ (m : Int) ∧ Cal.leap y = true then 1 else 0)) := rfl
  have hl := fun W => leap_any y h0 h1 W
  obtain ⟨C, hC⟩ : ∃ C, Cal.cum y m = C := ⟨_, rfl⟩
  obtain ⟨Z, hZ⟩ : ∃ Z, Cal.cum0 m = Z := ⟨_, rfl⟩
  obtain ⟨L, hL⟩ : ∃ L, Cal.leap y = L := ⟨_, rfl⟩
  rw [hC, hZ, hL] at HC
  rw [hZ] at hc hb
  rw [hL] at hl
  rw [hC]
  have HL := Lib.hid hl
  clear hC hZ hL hl
  by_cases h3 : 3 ≤ m
  · cases L with
    | true =>
      obtain rfl : C = Z + 1 := by rw [HC.out, if_pos ⟨by omega, rfl⟩]
      go_enter Tryd.func51, Tryd.ntmps51
      go_wp2_with (go_at_call 68; refine (HL.out _).mono ?_; rintro e w' ⟨rfl, rfl⟩)
      go_ret
      exact ⟨rfl, rfl⟩
    | false =>
      obtain rfl : C = Z := by rw [HC.out, if_neg (by simp)]; omega
      go_enter Tryd.func51, Tryd.ntmps51
      go_wp2_with (go_at_call 68; refine (HL.out _).mono ?_; rintro e w' ⟨rfl, rfl⟩)
      go_ret
      exact ⟨rfl, rfl⟩
  · obtain rfl : C = Z := by rw [HC.out, if_neg (by omega)]; omega
    go_enter Tryd.func51, Tryd.ntmps51
    go_wp2_with (go_at_call 68; refine (HL.out _).mono ?_; rintro e w' ⟨rfl, rfl⟩)
    go_ret
    exact ⟨rfl, rfl⟩

set_option maxRecDepth 100000 in
set_option maxHeartbeats 1000000 in
theorem newYear_any (y : Int) (h0 : 1 ≤ y) (h1 : y ≤ 20000) (w : World) :
    Calls Tryd.prog 50 #[.int .i64 y] w fun e w' => e = .returned (.int .i64 (Cal.bef y - 719162)) ∧ w = w' := by
  go_enter Tryd.func50, Tryd.ntmps50
  go_wp2
  go_ret
  exact ⟨rt_int (by unfold Cal.bef; omega), rfl⟩
set_option maxRecDepth 100000 in
set_option maxHeartbeats 1000000 in
theorem rbefore_any (y : Int) (h0 : 1 ≤ y) (h1 : y ≤ 20000) (w : World) :
    Calls Tryd.prog 65 #[.int .i64 y] w fun e w' => e = .returned (.int .i64 (Cal.bef y)) ∧ w = w' := by
  go_enter Tryd.func65, Tryd.ntmps65
  go_wp2
  go_ret
  exact ⟨rt_int (by unfold Cal.bef; omega), rfl⟩
end Go.Proofs.YtpbfgafkoodeoaaDoor

namespace Go.Proofs.YtpbfgafkoodeoaaDoor
open Go.RowKit

theorem beforeI (y m : Int) (h0 : 0 ≤ y) (h1 : y ≤ 20000) (hm0 : 1 ≤ m) (hm1 : m ≤ 13) (w : World) (hT : DaysT w) :
    Calls Tryd.prog 51 #[.int .i64 y, .int .i64 m] w fun e w' => e = .returned (.int .i64 (Cal.cum y m)) ∧ w = w' := by
  have h := before_any y m.toNat h0 h1 (by omega) (by omega) w hT
  rwa [show ((m.toNat : Nat) : Int) = m by omega] at h
theorem cum_bd {y m : Int} : 0 ≤ Cal.cum y m ∧ Cal.cum y m ≤ 366 := by
  have := cum0_bd m
  unfold Cal.cum; split <;> omega
theorem cum_len {y m : Int} (h1 : 1 ≤ m) (h2 : m ≤ 12) : Cal.cum y (m + 1) - Cal.cum y m = Cal.len y m := by
  by_cases h : m = 12
  · subst h
    have e := Cal.cum_last y
    have e2 : Cal.cum y (12 + 1) = 365 + (if Cal.leap y = true then 1 else 0) := by simp [Cal.cum, Cal.cum0]
    rw [Cal.len_twelve]; omega
  · rw [Cal.cum_succ h1 (by omega)]; omega
theorem len_out {y m : Int} (h : m < 1 ∨ 12 < m) : Cal.len y m = 0 := by
  unfold Cal.len
  rw [if_neg (by omega), if_neg (by omega), if_neg (by omega)]
theorem len_bd (y m : Int) : 0 ≤ Cal.len y m ∧ Cal.len y m ≤ 31 := by
  by_cases h : 1 ≤ m ∧ m ≤ 12
  · have := Cal.len_pos (y := y) h.1 h.2; omega
  · rw [len_out (by omega)]; omega

set_option maxRecDepth 100000 in
set_option maxHeartbeats 1000000 in
theorem length_any (y m : Int) (h0 : 0 ≤ y) (h1 : y ≤ 20000) (w : World) (hT : DaysT w) :
    Calls Tryd.prog 49 #[.int .i64 y, .int .i64 m] w fun e w' => e = .returned (.int .i64 (Cal.len y m)) ∧ w = w' := by
  by_cases hm : 1 ≤ m ∧ m ≤ 12
  · obtain ⟨hm1, hm2⟩ := hm
    have b1 := fun W hW => beforeI y m h0 h1 hm1 (by omega) W hW
    have b2 := fun W hW => beforeI y (m + 1) h0 h1 (by omega) (by omega) W hW
    have c1 := cum_bd (y := y) (m := m)
    have c2 := cum_bd (y := y) (m := m + 1)
    have hl := Lib.hid (cum_len (y := y) hm1 hm2)
    obtain ⟨p, hp⟩ : ∃ x, Cal.cum y m = x := ⟨_, rfl⟩
    obtain ⟨q, hq⟩ : ∃ x, Cal.cum y (m + 1) = x := ⟨_, rfl⟩
    rw [hp] at b1 c1 hl
    rw [hq] at b2 c2 hl
    have B1 := Lib.hid b1
    have B2 := Lib.hid b2
    have HT := Lib.hid hT
    clear b1 b2 hp hq hT
    go_enter Tryd.func49, Tryd.ntmps49
    go_wp2_with fail
    refine (B2.out _ HT.out).mono ?_
    rintro e w' ⟨rfl, rfl⟩
    go_wp2_with fail
    refine (B1.out _ HT.out).mono ?_
    rintro e w' ⟨rfl, rfl⟩
    go_wp2
    go_ret
    exact ⟨rt_int hl.out, rfl⟩
  · have hl := Lib.hid (len_out (y := y) (m := m) (by omega))
    by_cases h : m < 1
    all_goals
      go_enter Tryd.func49, Tryd.ntmps49
      go_wp2
      go_ret
      exact ⟨rt_int hl.out.symm, rfl⟩

theorem bef_bd {y : Int} (h0 : 1 ≤ y) (h1 : y ≤ 20000) : 0 ≤ Cal.bef y ∧ Cal.bef y ≤ 8000000 := by unfold Cal.bef; omega

set_option maxRecDepth 100000 in
set_option maxHeartbeats 1000000 in
theorem days_yes (y m d : Int) (h : Cal.valid y m d) (w : World) (hT : DaysT w) :
    Calls Tryd.prog 28 #[.int .i64 y, .int .i64 m, .int .i64 d] w fun e w' => e = .returned (.tuple #[.int .i64 (Cal.num y m d), .bool true]) ∧ w = w' := by
  obtain ⟨hy1, hy2, hm1, hm2, hd1, hd2⟩ := h
  have b1 := fun W hW => beforeI y m (by omega) (by omega) hm1 (by omega) W hW
  have b2 := fun W hW => length_any y m (by omega) (by omega) W hW
  have b3 := fun W => newYear_any y hy1 (by omega) W
  have c1 := cum_bd (y := y) (m := m)
  have c2 := len_bd y m
  have c3 := bef_bd hy1 (by omega)
  have hn : Hid (Cal.num y m d = Cal.bef y + Cal.cum y m + d - 719163) := rfl
  obtain ⟨p, hp⟩ : ∃ x, Cal.cum y m = x := ⟨_, rfl⟩
  obtain ⟨q, hq⟩ : ∃ x, Cal.len y m = x := ⟨_, rfl⟩
  obtain ⟨r, hr⟩ : ∃ x, Cal.bef y = x := ⟨_, rfl⟩
  rw [hp] at b1 c1 hn
  rw [hq] at b2 c2 hd2
  rw [hr] at b3 c3 hn
  have B1 := Lib.hid b1
  have B2 := Lib.hid b2
  have B3 := Lib.hid b3
  have HT := Lib.hid hT
  clear b1 b2 b3 hp hq hr hT
  go_enter Tryd.func28, Tryd.ntmps28
  go_wp2_with fail
  refine (B2.out _ HT.out).mono ?_
  rintro e w' ⟨rfl, rfl⟩
  go_wp2_with fail
  refine (B3.out _).mono ?_
  rintro e w' ⟨rfl, rfl⟩
  go_wp2_with fail
  refine (B1.out _ HT.out).mono ?_
  rintro e w' ⟨rfl, rfl⟩
  go_wp2
  go_ret2
  exact ⟨by rw [hn.out]; exact congrArg (fun x => Ending.returned (.tuple #[.int .i64 x, .bool true])) (by omega), rfl⟩

set_option maxRecDepth 100000 in
set_option maxHeartbeats 1000000 in
theorem days_no (y m d : Int) (h : ¬ Cal.valid y m d) (w : World) (hT : DaysT w) :
    Calls Tryd.prog 28 #[.int .i64 y, .int .i64 m, .int .i64 d] w fun e w' => e = .returned (.tuple #[.int .i64 0, .bool false]) ∧ w = w' := by
  by_cases h1 : y < 1
  · go_enter Tryd.func28, Tryd.ntmps28
    go_wp2
    go_ret2
    exact ⟨rfl, rfl⟩
  by_cases h2 : 9999 < y
  · go_enter Tryd.func28, Tryd.ntmps28
    go_wp2
    go_ret2
    exact ⟨rfl, rfl⟩
  by_cases h3 : d < 1
  · go_enter Tryd.func28, Tryd.ntmps28
    go_wp2
    go_ret2
    exact ⟨rfl, rfl⟩
  have h4 : Cal.len y m < d := by
    by_cases hm : 1 ≤ m ∧ m ≤ 12
    · by_cases hd : d ≤ Cal.len y m
      · exact absurd ⟨by omega, by omega, hm.1, hm.2, by omega, hd⟩ h
      · omega
    · rw [len_out (by omega)]; omega
  have b2 := fun W hW => length_any y m (by omega) (by omega) W hW
  have c2 := len_bd y m
  obtain ⟨q, hq⟩ : ∃ x, Cal.len y m = x := ⟨_, rfl⟩
  rw [hq] at b2 c2 h4
  have B2 := Lib.hid b2
  have HT := Lib.hid hT
  clear b2 hq hT h
  go_enter Tryd.func28, Tryd.ntmps28
  go_wp2_with fail
  refine (B2.out _ HT.out).mono ?_
  rintro e w' ⟨rfl, rfl⟩
  go_wp2
  go_ret2
  exact ⟨rfl, rfl⟩
end Go.Proofs.YtpbfgafkoodeoaaDoor

namespace Go.Proofs.YtpbfgafkoodeoaaDoor
open Go.RowKit

/-- The year of a day, as its number. -/
def InYear (n y : Int) : Prop := 1 ≤ y ∧ y ≤ 9999 ∧ Cal.bef y ≤ n ∧ n < Cal.bef (y + 1)
theorem guess_lo {n p : Int} (hp : p = n * 400 / 146097) : Cal.bef (1 + p) ≤ n := by unfold Cal.bef; omega
theorem guess_hi {n p : Int} (hp : p = n * 400 / 146097) : n < Cal.bef (1 + p + 1 + 1) := by unfold Cal.bef; omega
theorem year_top {n y : Int} (h : n ≤ 3652058) (h2 : Cal.bef y ≤ n) : y ≤ 9999 := by
  have e := Cal.bef_10000
  rcases Int.lt_or_le 9999 y with l | l
  · have := Cal.bef_mono (a := 10000) (b := y) (by omega); omega
  · exact l

def YearOut (n : Int) (w : World) (e : Ending) (w' : World) : Prop := ∃ y, e = .returned (.int .i64 y) ∧ InYear n y ∧ w = w'
set_option maxRecDepth 100000 in
set_option maxHeartbeats 1000000 in
theorem yearOf_any (k : Int) (h0 : -719162 ≤ k) (h1 : k ≤ 2932896) (w : World) :
    Calls Tryd.prog 52 #[.int .i64 k] w (YearOut (k + 719162) w) := by
  obtain ⟨p, hp⟩ : ∃ p, p = (k + 719162) * 400 / 146097 := ⟨_, rfl⟩
  have g1 := guess_lo (n := k + 719162) hp
  have g2 := guess_hi (n := k + 719162) hp
  have g3 := year_top (n := k + 719162) (by omega) g1
  have hp0 : 0 ≤ p := by omega
  have b3 := fun W => newYear_any (1 + p + 1) (by omega) (by omega) W
  obtain ⟨r, hr⟩ : ∃ x, Cal.bef (1 + p + 1) = x := ⟨_, rfl⟩
  rw [hr] at b3
  have B3 := Lib.hid b3
  have HR := Lib.hid hr
  have G := Lib.hid (And.intro g1 (And.intro g2 hp0))
  have HP := Lib.hid hp
  clear b3 hr g1 g2
  have e2 : (k + 719162) * 400 / 146097 = p := hp.symm
  have hpb : p ≤ 9998 := by omega
  clear hp
  by_cases hle : r - 719162 ≤ k
  · go_enter Tryd.func52, Tryd.ntmps52
    go_wp2_with fail
    refine (B3.out _).mono ?_
    rintro e w' ⟨rfl, rfl⟩
    go_wp2
    go_ret
    refine ⟨1 + p + 1, rfl, ⟨by have := G.out; omega, ?_, by rw [HR.out]; omega, G.out.2.1⟩, rfl⟩
    exact year_top (n := k + 719162) (by omega) (by rw [HR.out]; omega)
  · go_enter Tryd.func52, Tryd.ntmps52
    go_wp2_with fail
    refine (B3.out _).mono ?_
    rintro e w' ⟨rfl, rfl⟩
    go_wp2
    go_ret
    exact ⟨1 + p, rfl, ⟨by have := G.out; omega, g3, G.out.1, by rw [HR.out]; omega⟩, rfl⟩

def CivilOut (n : Int) (w : World) (e : Ending) (w' : World) : Prop := ∃ y m d, e = .returned (.tuple #[.int .i64 y, .int .i64 m, .int .i64 d, .bool true]) ∧ Cal.valid y m d ∧ Cal.num y m d = n ∧ w = w'
theorem civil_valid {k y m : Int} (hy : InYear (k + 719162) y) (h1 : 1 ≤ m) (h2 : m ≤ 12) (hlo : Cal.cum y m ≤ k - (Cal.bef y - 719162)) (hhi : m = 12 ∨ k - (Cal.bef y - 719162) < Cal.cum y (m + 1)) :
    Cal.valid y m (k - (Cal.bef y - 719162) - Cal.cum y m + 1) ∧ Cal.num y m (k - (Cal.bef y - 719162) - Cal.cum y m + 1) = k := by
  obtain ⟨a1, a2, a3, a4⟩ := hy
  have s := Cal.bef_succ y
  have c := cum_len (y := y) h1 h2
  refine ⟨⟨a1, a2, h1, h2, by omega, ?_⟩, by unfold Cal.num; omega⟩
  rcases hhi with rfl | hhi
  · have e := Cal.cum_last y
    have := Cal.len_twelve y
    omega
  · omega

set_option maxRecDepth 100000 in
set_option maxHeartbeats 2000000 in
theorem civil_yes (k : Int) (h0 : -719162 ≤ k) (h1 : k ≤ 2932896) (w : World) (hT : DaysT w) :
    Calls Tryd.prog 30 #[.int .i64 k] w (CivilOut k w) := by
  have HY := Lib.hid (fun W => yearOf_any k h0 h1 W)
  have HT := Lib.hid hT
  clear hT
  go_enter Tryd.func30, Tryd.ntmps30
  go_wp2_with fail
  refine (HY.out _).mono ?_
  rintro e w' ⟨y, rfl, hy, rfl⟩
  have b1 := bef_bd (y := y) hy.1 (by have := hy.2.1; omega)
  have b2 := hy.1
  have b3 := hy.2.1
  have b4 := fun W => newYear_any y b2 (by omega) W
  have b5 : 0 ≤ k - (Cal.bef y - 719162) ∧ k - (Cal.bef y - 719162) ≤ 366 := by
    have s := Cal.bef_succ y
    obtain ⟨_, _, a3, a4⟩ := hy
    split at s <;> omega
  have HV := Lib.hid (fun m => civil_valid (k := k) (y := y) (m := m) hy)
  obtain ⟨r, hr⟩ : ∃ x, Cal.bef y = x := ⟨_, rfl⟩
  rw [hr] at b1 b4 b5 HV
  have B := Lib.hid b4
  have HB := Lib.hid (fun m h2 h3 => beforeI y m (by omega) (by omega) h2 h3 w HT.out)
  have c1 := Cal.cum_one y
  have c12 := cum_bd (y := y) (m := 12)
  clear b4 hr hy h0 h1
  go_wp2_with fail
  refine (B.out _).mono ?_
  rintro e w' ⟨rfl, rfl⟩
  go_wp2_with fail
  obtain ⟨q, hq⟩ : ∃ x, k - (r - 719162) = x := ⟨_, rfl⟩
  rw [hq] at b5 HV ⊢
  have HQ := Lib.hid hq
  clear hq
  go_loop [3] (fun t => ∃ m : Int, 1 ≤ m ∧ m ≤ 12 ∧ t = .int .i64 m ∧ (m = 12 ∨ q < Cal.cum y (m + 1))) (fun t => (intOf t).toNat)
  case atStart => exact ⟨12, by omega, by omega, rfl, .inl rfl⟩
  case round =>
    obtain ⟨m, hm1, hm2, rfl, hm3⟩ := hrel
    have cb := cum_bd (y := y) (m := m)
    have HM := Lib.hid hm3
    have hcall := HB.out m hm1 (by omega)
    obtain ⟨z, hz⟩ : ∃ x, Cal.cum y m = x := ⟨_, rfl⟩
    rw [hz] at cb hcall
    have HK := Lib.hid hcall
    have HZ := Lib.hid hz
    clear hm3 hcall hz
    by_cases hgt : q < z
    · go_wp2_with fail
      refine (HK.out).mono ?_
      rintro e w' ⟨rfl, rfl⟩
      have hm1' : 1 < m := by
        rcases Int.lt_or_le 1 m with l | l
        · exact l
        · obtain rfl : m = 1 := by omega
          have := HZ.out; omega
      go_wp2
      go_round
      case rel => exact ⟨m - 1, by omega, by omega, rfl, .inr (by rw [show m - 1 + 1 = m by omega, HZ.out]; omega)⟩
      case measure => simp [intOf]; omega
    · go_wp2_with fail
      refine (HK.out).mono ?_
      rintro e w' ⟨rfl, rfl⟩
      go_wp2_with fail
      refine (HK.out).mono ?_
      rintro e w' ⟨rfl, rfl⟩
      go_wp2
      have hv := HV.out m hm1 hm2 (by rw [HZ.out]; omega) HM.out
      rw [HZ.out] at hv
      exact bodyPost_ret (v := .tuple #[.int .i64 y, .int .i64 m, .int .i64 (q - z + 1), .bool true]) (by simp [results, Tryd.results30, go_sem]) rfl ⟨y, m, _, rfl, hv.1, hv.2, rfl⟩

set_option maxRecDepth 100000 in
set_option maxHeartbeats 1000000 in
theorem civil_no (k : Int) (h : k < -719162 ∨ 2932896 < k) (w : World) :
    Calls Tryd.prog 30 #[.int .i64 k] w fun e w' => e = .returned (.tuple #[.int .i64 0, .int .i64 0, .int .i64 0, .bool false]) ∧ w = w' := by
  rcases h with h | h
  · go_enter Tryd.func30, Tryd.ntmps30
    go_wp2
    exact bodyPost_ret (v := .tuple #[.int .i64 0, .int .i64 0, .int .i64 0, .bool false]) (by simp [results, Tryd.results30, go_sem]) rfl ⟨rfl, rfl⟩
  · have h' : ¬ k < -719162 := by omega
    go_enter Tryd.func30, Tryd.ntmps30
    go_wp2
    exact bodyPost_ret (v := .tuple #[.int .i64 0, .int .i64 0, .int .i64 0, .bool false]) (by simp [results, Tryd.results30, go_sem]) rfl ⟨rfl, rfl⟩
end Go.Proofs.YtpbfgafkoodeoaaDoor

namespace Go.Proofs.YtpbfgafkoodeoaaDoor
open Go.RowKit

/-- The date's block in memory. -/
def DtAt (D : Nat) (vs : Array Value) (w : World) : Prop := w.heap[D]? = some (.cells vs 38 (0, 0))
theorem DtAt.below {D : Nat} {vs : Array Value} {w w' : World} (h : DtAt D vs w) (hb : Below w.heap.size w w') : DtAt D vs w' :=
  (hb.block D (Array.getElem?_eq_some_iff.1 h).1).trans h
theorem DtAt.lt {D : Nat} {vs : Array Value} {w : World} (h : DtAt D vs w) : D < w.heap.size := (Array.getElem?_eq_some_iff.1 h).1
theorem DtAt.cell {D : Nat} {vs : Array Value} {w : World} (h : DtAt D vs w) (j : Nat) : w.cell? ⟨D, j, none⟩ = vs[j]? := Lib.cell_of_heap h j

def isT (n : Int) : Prop := -62135596800000 ≤ n ∧ n ≤ 253402300799999
def isZ (n : Int) : Prop := -1440 ≤ n ∧ n ≤ 1440
set_option maxRecDepth 100000 in
theorem isTime_yes (n : Int) (h : isT n) (w : World) : Calls Tryd.prog 29 #[.int .i64 n] w fun e w' => e = .returned (.bool true) ∧ w = w' := by
  obtain ⟨h1, h2⟩ := h
  go_enter Tryd.func29, Tryd.ntmps29
  go_wp2
  go_ret
  exact ⟨rfl, rfl⟩
set_option maxRecDepth 100000 in
theorem isTime_no (n : Int) (h : ¬ isT n) (w : World) : Calls Tryd.prog 29 #[.int .i64 n] w fun e w' => e = .returned (.bool false) ∧ w = w' := by
  by_cases h1 : -62135596800000 ≤ n
  · have h2 : ¬ n ≤ 253402300799999 := fun x => h ⟨h1, x⟩
    clear h
    go_enter Tryd.func29, Tryd.ntmps29
    go_wp2
    go_ret
    exact ⟨rfl, rfl⟩
  · clear h
    go_enter Tryd.func29, Tryd.ntmps29
    go_wp2
    go_ret
    exact ⟨rfl, rfl⟩
set_option maxRecDepth 100000 in
theorem isZone_yes (n : Int) (h : isZ n) (w : World) : Calls Tryd.prog 27 #[.int .i64 n] w fun e w' => e = .returned (.bool true) ∧ w = w' := by
  obtain ⟨h1, h2⟩ := h
  go_enter Tryd.func27, Tryd.ntmps27
  go_wp2
  go_ret
  exact ⟨rfl, rfl⟩
set_option maxRecDepth 100000 in
theorem isZone_no (n : Int) (h : ¬ isZ n) (w : World) : Calls Tryd.prog 27 #[.int .i64 n] w fun e w' => e = .returned (.bool false) ∧ w = w' := by
  by_cases h1 : -1440 ≤ n
  · have h2 : ¬ n ≤ 1440 := fun x => h ⟨h1, x⟩
    clear h
    go_enter Tryd.func27, Tryd.ntmps27
    go_wp2
    go_ret
    exact ⟨rfl, rfl⟩
  · clear h
    go_enter Tryd.func27, Tryd.ntmps27
    go_wp2
    go_ret
    exact ⟨rfl, rfl⟩

/-- The date of the milliseconds from the year 1 on. -/
def dateV (y m d p : Int) : Value := .agg #[.int .i64 y, .int .i64 m, .int .i64 d, .int .i64 (p / 3600000 % 24), .int .i64 (p / 60000 % 60), .int .i64 (p / 1000 % 60), .int .i64 (p % 1000)]
def zeroDate : Value := .agg #[.int .i64 0, .int .i64 0, .int .i64 0, .int .i64 0, .int .i64 0, .int .i64 0, .int .i64 0]
def DatesOut (p : Int) (w : World) (e : Ending) (w' : World) : Prop := ∃ y m d, e = .returned (.tuple #[dateV y m d p, .int .i64 0]) ∧ Cal.valid y m d ∧ Cal.num y m d = p / 86400000 - 719162 ∧ Below w.heap.size w w'
theorem DaysT.alloc {w : World} (h : DaysT w) (o : Obj) : DaysT (w.alloc o) := h.below ((Below.refl _ _).alloc (Nat.le_refl _) _)

set_option maxRecDepth 100000 in
set_option maxHeartbeats 2000000 in
theorem dates_yes (ms z : Int) (h1 : isT ms) (h2 : isZ z) (h3 : isT (ms + z * 60000)) (w : World) (hT : DaysT w) :
    Calls Tryd.prog 11 #[.int .i64 ms, .int .i64 z] w (DatesOut (ms + z * 60000 + 62135596800000) w) := by
  have a1 := Lib.hid (isTime_yes ms h1)
  have a2 := Lib.hid (isZone_yes z h2)
  have a3 := Lib.hid (isTime_yes (ms + z * 60000) h3)
  obtain ⟨b1, b2⟩ := h1
  obtain ⟨b3, b4⟩ := h2
  obtain ⟨b5, b6⟩ := h3
  have hc := Lib.hid (fun W hW => civil_yes (-719162 + (ms + z * 60000 + 62135596800000) / 86400000) (by omega) (by omega) W hW)
  have HT := Lib.hid hT
  clear hT
  go_enter Tryd.func11, Tryd.ntmps11
  go_wp2_with fail
  refine (a1.out _).mono ?_
  rintro e w' ⟨rfl, rfl⟩
  go_wp2_with fail
  refine (a2.out _).mono ?_
  rintro e w' ⟨rfl, rfl⟩
  go_wp2_with fail
  refine (a3.out _).mono ?_
  rintro e w' ⟨rfl, rfl⟩
  obtain ⟨p, hp⟩ : ∃ p, ms + z * 60000 + 62135596800000 = p := ⟨_, rfl⟩
  have hp1 : 0 ≤ p := by omega
  have hp2 : p ≤ 315537897599999 := by omega
  rw [hp] at hc ⊢
  go_wp2_with fail
  refine (hc.out _ (HT.out.alloc _)).mono ?_
  rintro e w' ⟨y, m, d, rfl, hv, hn, rfl⟩
  have HV := Lib.hid (And.intro hv hn)
  have HP := Lib.hid hp
  clear hv hn hp
  go_wp2
  have hp := HP.out
  subst hp
  refine bodyPost_ret (v := .tuple #[dateV y m d (ms + z * 60000 + 62135596800000), .int .i64 0]) (by simp [results, Tryd.results11, go_sem, dateV]) rfl ⟨y, m, d, rfl, HV.out.1, by rw [HV.out.2]; omega, ?_⟩
  exact (Below.refl _ _).alloc (Nat.le_refl _) _
def dErr (c : Int) (w : World) (e : Ending) (w' : World) : Prop := e = .returned (.tuple #[zeroDate, .int .i64 c]) ∧ Below w.heap.size w w'
set_option maxRecDepth 100000 in
set_option maxHeartbeats 2000000 in
theorem dates_no (ms z : Int) (h : ¬ (isT ms ∧ isZ z ∧ isT (ms + z * 60000))) (w : World) :
    Calls Tryd.prog 11 #[.int .i64 ms, .int .i64 z] w (dErr 2 w) := by
  by_cases h1 : isT ms
  · have a1 := Lib.hid (isTime_yes ms h1)
    by_cases h2 : isZ z
    · have a2 := Lib.hid (isZone_yes z h2)
      have a3 := Lib.hid (isTime_no (ms + z * 60000) (fun x => h ⟨h1, h2, x⟩))
      obtain ⟨b1, b2⟩ := h1
      obtain ⟨b3, b4⟩ := h2
      clear h
      go_enter Tryd.func11, Tryd.ntmps11
      go_wp2_with fail
      refine (a1.out _).mono ?_
      rintro e w' ⟨rfl, rfl⟩
      go_wp2_with fail
      refine (a2.out _).mono ?_
      rintro e w' ⟨rfl, rfl⟩
      go_wp2_with fail
      refine (a3.out _).mono ?_
      rintro e w' ⟨rfl, rfl⟩
      go_wp2
      exact bodyPost_ret (v := .tuple #[zeroDate, .int .i64 2]) (by simp [results, Tryd.results11, go_sem, zeroDate]) rfl ⟨rfl, (Below.refl _ _).alloc (Nat.le_refl _) _⟩
    · have a2 := Lib.hid (isZone_no z h2)
      clear h h1 h2
      go_enter Tryd.func11, Tryd.ntmps11
      go_wp2_with fail
      refine (a1.out _).mono ?_
      rintro e w' ⟨rfl, rfl⟩
      go_wp2_with fail
      refine (a2.out _).mono ?_
      rintro e w' ⟨rfl, rfl⟩
      go_wp2
      exact bodyPost_ret (v := .tuple #[zeroDate, .int .i64 2]) (by simp [results, Tryd.results11, go_sem, zeroDate]) rfl ⟨rfl, (Below.refl _ _).alloc (Nat.le_refl _) _⟩
  · have a1 := Lib.hid (isTime_no ms h1)
    clear h h1
    go_enter Tryd.func11, Tryd.ntmps11
    go_wp2_with fail
    refine (a1.out _).mono ?_
    rintro e w' ⟨rfl, rfl⟩
    go_wp2
    exact bodyPost_ret (v := .tuple #[zeroDate, .int .i64 2]) (by simp [results, Tryd.results11, go_sem, zeroDate]) rfl ⟨rfl, (Below.refl _ _).alloc (Nat.le_refl _) _⟩
end Go.Proofs.YtpbfgafkoodeoaaDoor
