/- The statement that the day after a day has the next number and weekday and is the next day of the month, or the first of the next. -/
import Derived.Test.YtnegfiiecegbbaaDoorCalAw
import Derived.Test.YtnegfiiecegbbaaDoorCalW
namespace Go.Proofs.YtnegfiiecegbbaaDoor
open Go.RowKit

theorem wday_next (k : Int) : (wday k + 1) % 7 = wday (k + 1) := by unfold wday; omega
theorem wday_bd (k : Int) : 0 ≤ wday k ∧ wday k ≤ 6 := by unfold wday; omega

set_option maxRecDepth 100000 in
set_option maxHeartbeats 4000000 in
theorem lawFollows (n : Int) (h0 : -9223372036854775808 ≤ n) (h1 : n ≤ 9223372036854775807) (w : World) (hT : DaysT w) (hP : Pow10 w) :
    Calls Tryd.prog 5 #[.int .i64 n] w fun e w' => e = .returned (.bool true) ∧ Below w.heap.size w w' := by
  have hnr := Lib.hid (fun W => near_any n (-719162) 2932895 h0 h1 (by decide) (by decide) (by decide) W)
  have haw := Lib.hid (awake_any w hT hP)
  have HT := Lib.hid hT
  clear hT hP h0 h1
  go_enter Tryd.func5, Tryd.ntmps5
  go_wp2_with fail
  refine (haw.out).mono ?_
  rintro e w1 ⟨rfl, hb1⟩
  have HB := Lib.hid hb1
  have HT1 := Lib.hid (HT.out.below hb1)
  clear hb1
  go_wp2_with fail
  refine (hnr.out _).mono ?_
  rintro e w' ⟨k, rfl, hk0, hk1, rfl⟩
  go_wp2_with fail
  refine (civil_yes k (by omega) (by omega) _ HT1.out).mono ?_
  rintro e w' ⟨y, m, d, rfl, hv, hn, rfl⟩
  have hnx := Cal.next_day hv (by omega)
  rw [hn] at hnx
  go_wp2_with fail
  refine (civil_yes (k + 1) (by omega) (by omega) _ HT1.out).mono ?_
  rintro e w' ⟨y2, m2, d2, rfl, hv2, hn2, rfl⟩
  have hy1 := hv.1
  have hy2 := hv.2.1
  have hm1 := hv.2.2.1
  have hm2 := hv.2.2.2.1
  have hd1 := hv.2.2.2.2.1
  have hd2 := hv.2.2.2.2.2
  have hl := len_bd y m
  have HDY := Lib.hid (days_yes y m d hv w1 HT1.out)
  rw [hn] at HDY
  have hw1 := Lib.hid (weekday_any k (by omega) (by omega) w1)
  have hw2 := Lib.hid (weekday_any (k + 1) (by omega) (by omega) w1)
  have hlen := Lib.hid (length_any y m (by omega) (by omega) w1 HT1.out)
  have e1 := wday_next k
  have e2 := wday_bd k
  have e3 := wday_bd (k + 1)
  obtain ⟨p, hp⟩ : ∃ p, wday k = p := ⟨_, rfl⟩
  obtain ⟨q, hq⟩ : ∃ q, wday (k + 1) = q := ⟨_, rfl⟩
  rw [hp] at hw1 e1 e2
  rw [hq] at hw2 e1 e3
  obtain ⟨L, hL⟩ : ∃ L, Cal.len y m = L := ⟨_, rfl⟩
  rw [hL] at hlen hnx hd2 hl
  clear hp hq hL hn hnr haw HT hv
  have hcase : (y2 = y ∧ m2 = m ∧ d2 = d + 1 ∧ d < L) ∨ (d = L ∧ m < 12 ∧ y2 = y ∧ m2 = m + 1 ∧ d2 = 1) ∨ (d = L ∧ m = 12 ∧ y2 = y + 1 ∧ m2 = 1 ∧ d2 = 1) := by
    rcases Int.lt_or_le d L with l | l
    · obtain ⟨a1, a2⟩ := hnx.1 l
      obtain ⟨b1, b2, b3⟩ := Cal.num_inj hv2 a1 (by omega)
      exact .inl ⟨b1, b2, b3, l⟩
    · have e : d = L := by omega
      rcases Int.lt_or_le m 12 with l2 | l2
      · obtain ⟨a1, a2⟩ := hnx.2.1 e l2
        obtain ⟨b1, b2, b3⟩ := Cal.num_inj hv2 a1 (by omega)
        exact .inr (.inl ⟨e, l2, b1, b2, b3⟩)
      · have e2 : m = 12 := by omega
        obtain ⟨a1, a2⟩ := hnx.2.2 e e2
        obtain ⟨b1, b2, b3⟩ := Cal.num_inj hv2 a1 (by omega)
        exact .inr (.inr ⟨e, e2, b1, b2, b3⟩)
  clear hnx hn2 hv2
  have HE := Lib.hid e1
  clear e1
  rcases hcase with ⟨rfl, rfl, rfl, hc⟩ | ⟨rfl, hc, rfl, rfl, rfl⟩ | ⟨rfl, rfl, rfl, rfl, rfl⟩
  all_goals
    go_wp2_with fail
    refine (HDY.out).mono ?_
    rintro e w' ⟨rfl, rfl⟩
    go_wp2_with fail
    refine (hw2.out).mono ?_
    rintro e w' ⟨rfl, rfl⟩
    go_wp2_with fail
    refine (hw1.out).mono ?_
    rintro e w' ⟨rfl, rfl⟩
    have e1 := HE.out
    go_wp2_with (go_at_call 19; refine (hlen.out).mono ?_; rintro e w' ⟨rfl, rfl⟩)
    go_ret
    exact ⟨rfl, HB.out⟩
end Go.Proofs.YtnegfiiecegbbaaDoor
