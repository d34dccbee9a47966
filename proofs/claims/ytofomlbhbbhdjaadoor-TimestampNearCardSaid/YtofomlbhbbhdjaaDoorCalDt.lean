/- The contract of package calendar's Dates. -/
import Derived.Test.YtofomlbhbbhdjaaDoorCalC
import Derived.Lib.Builder
namespace Go.Proofs.YtofomlbhbbhdjaaDoor
open Go.RowKit

/-- The date's block in memory. -/
def DtAt (D : Nat) (vs : Array Value) (w : World) : Prop := w.heap[D]? = some (.cells vs 36 (0, 0))
theorem DtAt.below {D : Nat} {vs : Array Value} {w w' : World} (h : DtAt D vs w) (hb : Below w.heap.size w w') : DtAt D vs w' :=
  (hb.block D (Array.getElem?_eq_some_iff.1 h).1).trans h
theorem DtAt.lt {D : Nat} {vs : Array Value} {w : World} (h : DtAt D vs w) : D < w.heap.size := (Array.getElem?_eq_some_iff.1 h).1
theorem DtAt.cell {D : Nat} {vs : Array Value} {w : World} (h : DtAt D vs w) (j : Nat) : w.cell? ⟨D, j, none⟩ = vs[j]? := Lib.cell_of_heap h j

def isT (n : Int) : Prop := -62135596800000 ≤ n ∧ n ≤ 253402300799999
def isZ (n : Int) : Prop := -1440 ≤ n ∧ n ≤ 1440
set_option maxRecDepth 100000 in
theorem isTime_yes (n : Int) (h : isT n) (w : World) : Calls Tryd.prog 44 #[.int .i64 n] w fun e w' => e = .returned (.bool true) ∧ w = w' := by
  obtain ⟨h1, h2⟩ := h
  go_enter Tryd.func44, Tryd.ntmps44
  go_wp2
  go_ret
  exact ⟨rfl, rfl⟩
set_option maxRecDepth 100000 in
theorem isTime_no (n : Int) (h : ¬ isT n) (w : World) : Calls Tryd.prog 44 #[.int .i64 n] w fun e w' => e = .returned (.bool false) ∧ w = w' := by
  by_cases h1 : -62135596800000 ≤ n
  · have h2 : ¬ n ≤ 253402300799999 := fun x => h ⟨h1, x⟩
    clear h
    go_enter Tryd.func44, Tryd.ntmps44
    go_wp2
    go_ret
    exact ⟨rfl, rfl⟩
  · clear h
    go_enter Tryd.func44, Tryd.ntmps44
    go_wp2
    go_ret
    exact ⟨rfl, rfl⟩
set_option maxRecDepth 100000 in
theorem isZone_yes (n : Int) (h : isZ n) (w : World) : Calls Tryd.prog 45 #[.int .i64 n] w fun e w' => e = .returned (.bool true) ∧ w = w' := by
  obtain ⟨h1, h2⟩ := h
  go_enter Tryd.func45, Tryd.ntmps45
  go_wp2
  go_ret
  exact ⟨rfl, rfl⟩
set_option maxRecDepth 100000 in
theorem isZone_no (n : Int) (h : ¬ isZ n) (w : World) : Calls Tryd.prog 45 #[.int .i64 n] w fun e w' => e = .returned (.bool false) ∧ w = w' := by
  by_cases h1 : -1440 ≤ n
  · have h2 : ¬ n ≤ 1440 := fun x => h ⟨h1, x⟩
    clear h
    go_enter Tryd.func45, Tryd.ntmps45
    go_wp2
    go_ret
    exact ⟨rfl, rfl⟩
  · clear h
    go_enter Tryd.func45, Tryd.ntmps45
    go_wp2
    go_ret
    exact ⟨rfl, rfl⟩

/-- The date of the milliseconds from the year 1 on. -/
def dateV (y m d p : Int) : Value := .agg #[.int .i64 y, .int .i64 m, .int .i64 d, .int .i64 (p / 3600000 % 24), .int .i64 (p / 60000 % 60), .int .i64 (p / 1000 % 60), .int .i64 (p % 1000)]
def zeroDate : Value := .agg #[.int .i64 0, .int .i64 0, .int .i64 0, .int .i64 0, .int .i64 0, .int .i64 0, .int .i64 0]
def DatesOut (p : Int) (w : World) (e : Ending) (w' : World) : Prop := ∃ y m d, e = .returned (.tuple #[dateV y m d p, .int .i64 0]) ∧ Cal.valid y m d ∧ Cal.num y m d = p / 86400000 - 719162 ∧ Below w.heap.size w w'
theorem DaysT.alloc {w : World} (h : DaysT w) (o : Obj) : DaysT (w.alloc o) := h.below ((Below.refl _ _).alloc (Nat.le_refl _) _)

set_option maxRecDepth 100000 in
set_option maxHeartbeats 2000000 in
theorem dates_yes (ms z : Int) (h1 : isT ms) (h2 : isZ z) (h3 : isT (ms + z * 60000)) (w : World) (hT : DaysT w) :
    Calls Tryd.prog 19 #[.int .i64 ms, .int .i64 z] w (DatesOut (ms + z * 60000 + 62135596800000) w) := by
  have a1 := Lib.hid (isTime_yes ms h1)
  have a2 := Lib.hid (isZone_yes z h2)
  have a3 := Lib.hid (isTime_yes (ms + z * 60000) h3)
  obtain ⟨b1, b2⟩ := h1
  obtain ⟨b3, b4⟩ := h2
  obtain ⟨b5, b6⟩ := h3
  have hc := Lib.hid (fun W hW => civil_yes (-719162 + (ms + z * 60000 + 62135596800000) / 86400000) (by omega) (by omega) W hW)
  have HT := Lib.hid hT
  clear hT
  go_enter Tryd.func19, Tryd.ntmps19
  go_wp2_with fail
  refine (a1.out _).mono ?_
  rintro e w' ⟨rfl, rfl⟩
  go_wp2_with fail
  refine (a2.out _).mono ?_
  rintro e w' ⟨rfl, rfl⟩
  go_wp2_with fail
  refine (a3.out _).mono ?_
  rintro e w' ⟨rfl, rfl⟩
  obtain ⟨p, hp⟩ : ∃ p, ms + z * 60000 + 62135596800000 = p := ⟨_, rfl⟩
  have hp1 : 0 ≤ p := by omega
  have hp2 : p ≤ 315537897599999 := by omega
  rw [hp] at hc ⊢
  go_wp2_with fail
  refine (hc.out _ (HT.out.alloc _)).mono ?_
  rintro e w' ⟨y, m, d, rfl, hv, hn, rfl⟩
  have HV := Lib.hid (And.intro hv hn)
  have HP := Lib.hid hp
  clear hv hn hp
  go_wp2
  have hp := HP.out
  subst hp
  refine bodyPost_ret (v := .tuple #[dateV y m d (ms + z * 60000 + 62135596800000), .int .i64 0]) (by simp [results, Tryd.results19, go_sem, dateV]) rfl ⟨y, m, d, rfl, HV.out.1, by rw [HV.out.2]; omega, ?_⟩
  exact (Below.refl _ _).alloc (Nat.le_refl _) _
def dErr (c : Int) (w : World) (e : Ending) (w' : World) : Prop := e = .returned (.tuple #[zeroDate, .int .i64 c]) ∧ Below w.heap.size w w'
set_option maxRecDepth 100000 in
set_option maxHeartbeats 2000000 in
theorem dates_no (ms z : Int) (h : ¬ (isT ms ∧ isZ z ∧ isT (ms + z * 60000))) (w : World) :
    Calls Tryd.prog 19 #[.int .i64 ms, .int .i64 z] w (dErr 2 w) := by
  by_cases h1 : isT ms
  · have a1 := Lib.hid (isTime_yes ms h1)
    by_cases h2 : isZ z
    · have a2 := Lib.hid (isZone_yes z h2)
      have a3 := Lib.hid (isTime_no (ms + z * 60000) (fun x => h ⟨h1, h2, x⟩))
      obtain ⟨b1, b2⟩ := h1
      obtain ⟨b3, b4⟩ := h2
      clear h
      go_enter Tryd.func19, Tryd.ntmps19
      go_wp2_with fail
      refine (a1.out _).mono ?_
      rintro e w' ⟨rfl, rfl⟩
      go_wp2_with fail
      refine (a2.out _).mono ?_
      rintro e w' ⟨rfl, rfl⟩
      go_wp2_with fail
      refine (a3.out _).mono ?_
      rintro e w' ⟨rfl, rfl⟩
      go_wp2
      exact bodyPost_ret (v := .tuple #[zeroDate, .int .i64 2]) (by simp [results, Tryd.results19, go_sem, zeroDate]) rfl ⟨rfl, (Below.refl _ _).alloc (Nat.le_refl _) _⟩
    · have a2 := Lib.hid (isZone_no z h2)
      clear h h1 h2
      go_enter Tryd.func19, Tryd.ntmps19
      go_wp2_with fail
      refine (a1.out _).mono ?_
      rintro e w' ⟨rfl, rfl⟩
      go_wp2_with fail
      refine (a2.out _).mono ?_
      rintro e w' ⟨rfl, rfl⟩
      go_wp2
      exact bodyPost_ret (v := .tuple #[zeroDate, .int .i64 2]) (by simp [results, Tryd.results19, go_sem, zeroDate]) rfl ⟨rfl, (Below.refl _ _).alloc (Nat.le_refl _) _⟩
  · have a1 := Lib.hid (isTime_no ms h1)
    clear h h1
    go_enter Tryd.func19, Tryd.ntmps19
    go_wp2_with fail
    refine (a1.out _).mono ?_
    rintro e w' ⟨rfl, rfl⟩
    go_wp2
    exact bodyPost_ret (v := .tuple #[zeroDate, .int .i64 2]) (by simp [results, Tryd.results19, go_sem, zeroDate]) rfl ⟨rfl, (Below.refl _ _).alloc (Nat.le_refl _) _⟩
end Go.Proofs.YtofomlbhbbhdjaaDoor
