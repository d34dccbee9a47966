/- The sanity check of layer 5; Format at what it refuses. -/
import Derived.Test.YtofomlbhbbhdjaaDoorCalFm
namespace Go.Proofs.YtofomlbhbbhdjaaDoor
open Go.RowKit

def fErr (c : Int) (w : World) (e : Ending) (w' : World) : Prop := e = .returned (.tuple #[.string ⟨#[]⟩, .int .i64 c]) ∧ Below w.heap.size w w'
set_option maxRecDepth 100000 in
set_option maxHeartbeats 2000000 in
theorem format_no (ms z : Int) (h : ¬ (isT ms ∧ isZ z ∧ isT (ms + z * 60000))) (w : World) :
    Calls Tryd.prog 18 #[.int .i64 ms, .int .i64 z] w (fErr 2 w) := by
  have HD := Lib.hid (dates_no ms z h w)
  clear h
  go_enter Tryd.func18, Tryd.ntmps18
  go_wp2_with fail
  refine (HD.out).mono ?_
  rintro e w1 ⟨rfl, hb⟩
  unfold zeroDate
  go_wp2
  go_ret2
  exact ⟨rfl, hb.alloc hb.size _⟩

def exText : List UInt8 := [49, 57, 55, 48, 45, 48, 49, 45, 48, 49, 84, 48, 49, 58, 48, 48, 58, 48, 48, 46, 48, 48, 48, 43, 48, 49, 58, 48, 48]
theorem ex_fmt : fmtL 1970 1 1 (0 + 60 * 60000 + 62135596800000) 60 = exText := by
  simp [fmtL, dayL, timeL, zoneL, zoneP, padL, Lib.decDigits, exText]
theorem ex_format (w : World) (hT : DaysT w) (hP : Pow10 w) :
    Calls Tryd.prog 18 #[.int .i64 0, .int .i64 60] w fun e w' => e = .returned (.tuple #[.string ⟨exText.toArray⟩, .int .i64 0]) ∧ Below w.heap.size w w' :=
  (format_yes 0 60 ⟨by decide, by decide⟩ ⟨by decide, by decide⟩ ⟨by decide, by decide⟩ w hT hP).mono fun e w' ⟨y, m, d, he, hv, hn, hb⟩ => by
    obtain ⟨rfl, rfl, rfl⟩ := Cal.num_inj hv (show Cal.valid 1970 1 1 by unfold Cal.valid; decide) (by rw [hn]; decide)
    exact ⟨by rw [he, ex_fmt], hb⟩
theorem ex_days (w : World) (hT : DaysT w) :
    Calls Tryd.prog 49 #[.int .i64 2000, .int .i64 3, .int .i64 1] w fun e w' => e = .returned (.tuple #[.int .i64 11017, .bool true]) ∧ w = w' :=
  (days_yes 2000 3 1 (by unfold Cal.valid; decide) w hT).mono fun e w' ⟨he, hw⟩ => ⟨by rw [he, show Cal.num 2000 3 1 = 11017 by decide +kernel], hw⟩

end Go.Proofs.YtofomlbhbbhdjaaDoor
