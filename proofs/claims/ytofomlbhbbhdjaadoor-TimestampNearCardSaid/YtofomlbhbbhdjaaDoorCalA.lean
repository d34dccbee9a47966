/- The contracts of package calendar's small functions and of their references: leap years, the days of a month, the days before a month and a year. -/
import Derived.Test.YtofomlbhbbhdjaaDoorProg
import Derived.Test.YtofomlbhbbhdjaaDoorCal
import Derived.WalkKit
import Derived.ProofKit
import Derived.Below
import Derived.Lib.Hide
import Derived.Lib.LaidTab
import Derived.Lib.AppendIntMem
import Derived.Outline
import Derived.BigQuiet
import Derived.Deep.QuietTactic
import Derived.LoopTactic
import Derived.IntWalk
namespace Go.Proofs.YtofomlbhbbhdjaaDoor
open Go.RowKit

theorem rt_bool {a b : Bool} (h : a = b) : Ending.returned (.bool a) = .returned (.bool b) := by rw [h]
theorem rt_int {k : IntKind} {a b : Int} (h : a = b) : Ending.returned (.int k a) = .returned (.int k b) := by rw [h]

theorem leap_if {y : Int} {L : Bool} (H : Hid (L = (decide (y % 4 = 0) && (decide (y % 100 ≠ 0) || decide (y % 400 = 0))))) :
    (¬ y % 4 = 0 → L = false) ∧ (y % 4 = 0 → ¬ y % 100 = 0 → L = true) ∧ (y % 4 = 0 → y % 100 = 0 → L = (y % 400 == 0)) := by
  rw [H.out]
  refine ⟨fun h => by simp [h], fun h h' => by simp [h, h'], fun h h' => by rw [Bool.eq_iff_iff]; simp [h, h']⟩

set_option maxRecDepth 100000 in
set_option maxHeartbeats 1000000 in
theorem leap_any (y : Int) (h0 : 0 ≤ y) (h1 : y ≤ 20000) (w : World) :
    Calls Tryd.prog 91 #[.int .i64 y] w fun e w' => e = .returned (.bool (Cal.leap y)) ∧ w = w' := by
  have H : Hid (Cal.leap y = (decide (y % 4 = 0) && (decide (y % 100 ≠ 0) || decide (y % 400 = 0)))) := rfl
  obtain ⟨L, hL⟩ : ∃ L, Cal.leap y = L := ⟨_, rfl⟩
  rw [hL] at H ⊢
  clear hL
  go_enter Tryd.func91, Tryd.ntmps91
  go_wp2
  all_goals go_ret
  · exact ⟨rt_bool ((leap_if H).2.2 ‹_› ‹_›).symm, rfl⟩
  · exact ⟨rt_bool ((leap_if H).2.1 ‹_› ‹_›).symm, rfl⟩
  · exact ⟨rt_bool ((leap_if H).1 ‹_›).symm, rfl⟩

set_option maxRecDepth 100000 in
set_option maxHeartbeats 1000000 in
theorem rleap_any (y : Int) (h0 : 0 ≤ y) (h1 : y ≤ 20000) (w : World) :
    Calls Tryd.prog 98 #[.int .i64 y] w fun e w' => e = .returned (.bool (Cal.leap y)) ∧ w = w' := by
  have H : Hid (Cal.leap y = (decide (y % 4 = 0) && (decide (y % 100 ≠ 0) || decide (y % 400 = 0)))) := rfl
  obtain ⟨L, hL⟩ : ∃ L, Cal.leap y = L := ⟨_, rfl⟩
  rw [hL] at H ⊢
  clear hL
  go_enter Tryd.func98, Tryd.ntmps98
  go_wp2
  all_goals go_ret
  · exact ⟨rt_bool ((leap_if H).2.2 ‹_› ‹_›).symm, rfl⟩
  · exact ⟨rt_bool ((leap_if H).2.1 ‹_› ‹_›).symm, rfl⟩
  · exact ⟨rt_bool ((leap_if H).1 ‹_›).symm, rfl⟩

/-- The table of the days before a month. -/
def daysTab : List Int := [0, 0, 31, 59, 90, 120, 151, 181, 212, 243, 273, 304, 334, 365]
abbrev DaysT (w : World) : Prop := Lib.TabIs Tryd.prog w "logtide/calendar.daysBefore" .i64 daysTab
theorem DaysT.below {w W : World} (h : DaysT w) (hb : Below w.heap.size w W) : DaysT W := (Lib.tabBelow_of_tabIs h) W hb
theorem cum0_bd (m : Int) : 0 ≤ Cal.cum0 m ∧ Cal.cum0 m ≤ 365 := by
  unfold Cal.cum0; repeat' split
  all_goals omega
theorem tab_at (m : Nat) (h : m < 14) : daysTab[m]? = some (Cal.cum0 (m : Int)) := by
  have : ∀ i : Fin 14, daysTab[i.1]? = some (Cal.cum0 (i.1 : Int)) := by decide
  exact this ⟨m, h⟩
theorem DaysT.cell {w : World} (h : DaysT w) (m : Nat) (hm : m < 14) : w.cell? ⟨1, m, none⟩ = some (.int .i64 (Cal.cum0 (m : Int))) := by
  have hl : m < daysTab.length := hm
  have e := Lib.TabIs.cell (g := 1) h (by kernel_rfl) m hl
  have t := tab_at m hm
  rw [e, List.getD_eq_getElem?_getD, t]; rfl

set_option maxRecDepth 100000 in
set_option maxHeartbeats 1000000 in
theorem before_any (y : Int) (m : Nat) (h0 : 0 ≤ y) (h1 : y ≤ 20000) (hm0 : 1 ≤ m) (hm1 : m ≤ 13) (w : World) (hT : DaysT w) :
    Calls Tryd.prog 69 #[.int .i64 y, .int .i64 m] w fun e w' => e = .returned (.int .i64 (Cal.cum y m)) ∧ w = w' := by
  have hc := hT.cell m (by omega)
  have hb := cum0_bd (m : Int)
  have HC : Hid (Cal.cum y m = Cal.cum0 m + (if 3 ≤ (m : Int) ∧ Cal.leap y = true then 1 else 0)) := rfl
  have hl := fun W => leap_any y h0 h1 W
  obtain ⟨C, hC⟩ : ∃ C, Cal.cum y m = C := ⟨_, rfl⟩
  obtain ⟨Z, hZ⟩ : ∃ Z, Cal.cum0 m = Z := ⟨_, rfl⟩
  obtain ⟨L, hL⟩ : ∃ L, Cal.leap y = L := ⟨_, rfl⟩
  rw [hC, hZ, hL] at HC
  rw [hZ] at hc hb
  rw [hL] at hl
  rw [hC]
  have HL := Lib.hid hl
  clear hC hZ hL hl
  by_cases h3 : 3 ≤ m
  · cases L with
    | true =>
      obtain rfl : C = Z + 1 := by rw [HC.out, if_pos ⟨by omega, rfl⟩]
      go_enter Tryd.func69, Tryd.ntmps69
      go_wp2_with (go_at_call 91; refine (HL.out _).mono ?_; rintro e w' ⟨rfl, rfl⟩)
      go_ret
      exact ⟨rfl, rfl⟩
    | false =>
      obtain rfl : C = Z := by rw [HC.out, if_neg (by simp)]; omega
      go_enter Tryd.func69, Tryd.ntmps69
      go_wp2_with (go_at_call 91; refine (HL.out _).mono ?_; rintro e w' ⟨rfl, rfl⟩)
      go_ret
      exact ⟨rfl, rfl⟩
  · obtain rfl : C = Z := by rw [HC.out, if_neg (by omega)]; omega
    go_enter Tryd.func69, Tryd.ntmps69
    go_wp2_with (go_at_call 91; refine (HL.out _).mono ?_; rintro e w' ⟨rfl, rfl⟩)
    go_ret
    exact ⟨rfl, rfl⟩

set_option maxRecDepth 100000 in
set_option maxHeartbeats 1000000 in
theorem newYear_any (y : Int) (h0 : 1 ≤ y) (h1 : y ≤ 20000) (w : World) :
    Calls Tryd.prog 68 #[.int .i64 y] w fun e w' => e = .returned (.int .i64 (Cal.bef y - 719162)) ∧ w = w' := by
  go_enter Tryd.func68, Tryd.ntmps68
  go_wp2
  go_ret
  exact ⟨rt_int (by unfold Cal.bef; omega), rfl⟩
set_option maxRecDepth 100000 in
set_option maxHeartbeats 1000000 in
theorem rbefore_any (y : Int) (h0 : 1 ≤ y) (h1 : y ≤ 20000) (w : World) :
    Calls Tryd.prog 84 #[.int .i64 y] w fun e w' => e = .returned (.int .i64 (Cal.bef y)) ∧ w = w' := by
  go_enter Tryd.func84, Tryd.ntmps84
  go_wp2
  go_ret
  exact ⟨rt_int (by unfold Cal.bef; omega), rfl⟩
end Go.Proofs.YtofomlbhbbhdjaaDoor
