/- The statement that times come back from their dates, and dates from their times. -/
import Derived.Test.YtnegfiiecegbbaaDoorCalAw
import Derived.Test.YtnegfiiecegbbaaDoorCalW
import Derived.Test.YtnegfiiecegbbaaDoorCalCk
namespace Go.Proofs.YtnegfiiecegbbaaDoor
open Go.RowKit

theorem clock_of (p : Int) : clockOk (p / 3600000 % 24) (p / 60000 % 60) (p / 1000 % 60) (p % 1000) := by unfold clockOk; omega
theorem ms_back {y m d k z p : Int} (hp : k + z * 60000 + 62135596800000 = p) (hn : Cal.num y m d = p / 86400000 - 719162) :
    msOf y m d (p / 3600000 % 24) (p / 60000 % 60) (p / 1000 % 60) (p % 1000) z = k := by
  unfold msOf; rw [hn]; omega

set_option maxRecDepth 100000 in
set_option maxHeartbeats 4000000 in
theorem lawReturns (ms zone : Int) (h0 : -9223372036854775808 ≤ ms) (h1 : ms ≤ 9223372036854775807) (h2 : -9223372036854775808 ≤ zone) (h3 : zone ≤ 9223372036854775807) (w : World) (hT : DaysT w) (hP : Pow10 w) :
    Calls Tryd.prog 4 #[.int .i64 ms, .int .i64 zone] w fun e w' => e = .returned (.bool true) ∧ Below w.heap.size w w' := by
  have hnr := Lib.hid (fun W => near_any ms (-62135596800000) 253402300799999 h0 h1 (by decide) (by decide) (by decide) W)
  have hnz := Lib.hid (fun W => near_any zone (-1440) 1440 h2 h3 (by decide) (by decide) (by decide) W)
  have haw := Lib.hid (awake_any w hT hP)
  have HT := Lib.hid hT
  clear hT hP h0 h1 h2 h3
  go_enter Tryd.func4, Tryd.ntmps4
  go_wp2_with fail
  refine (haw.out).mono ?_
  rintro e w1 ⟨rfl, hb1⟩
  have HB := Lib.hid hb1
  have HT1 := Lib.hid (HT.out.below hb1)
  clear hb1
  go_wp2_with fail
  refine (hnr.out _).mono ?_
  rintro e w' ⟨k, rfl, hk0, hk1, rfl⟩
  go_wp2_with fail
  refine (hnz.out _).mono ?_
  rintro e w' ⟨z, rfl, hz0, hz1, rfl⟩
  clear hnr hnz haw
  by_cases ht : isT (k + z * 60000)
  · have hd := dates_yes k z ⟨hk0, hk1⟩ ⟨hz0, hz1⟩ ht
    obtain ⟨p, hp⟩ : ∃ p, k + z * 60000 + 62135596800000 = p := ⟨_, rfl⟩
    have hp0 : 0 ≤ p := by have := ht.1; omega
    rw [hp] at hd
    have HD := Lib.hid hd
    have HP := Lib.hid hp
    clear hd hp ht
    have hcl := clock_of p
    go_wp2_with fail
    refine (HD.out _ HT1.out).mono ?_
    rintro e w2 ⟨y, m, d, rfl, hv, hn, hb2⟩
    have hm := ms_back HP.out hn
    have HDV : Hid (∀ y m d : Int, dateV y m d p = .agg #[.int .i64 y, .int .i64 m, .int .i64 d, .int .i64 (p / 3600000 % 24), .int .i64 (p / 60000 % 60), .int .i64 (p / 1000 % 60), .int .i64 (p % 1000)]) := fun _ _ _ => rfl
    rw [HDV.out]
    obtain ⟨h, hh⟩ : ∃ x, p / 3600000 % 24 = x := ⟨_, rfl⟩
    obtain ⟨i, hi⟩ : ∃ x, p / 60000 % 60 = x := ⟨_, rfl⟩
    obtain ⟨s, hs⟩ : ∃ x, p / 1000 % 60 = x := ⟨_, rfl⟩
    obtain ⟨c, hc⟩ : ∃ x, p % 1000 = x := ⟨_, rfl⟩
    rw [hh, hi, hs, hc] at hcl hm HDV
    rw [hh, hi, hs, hc]
    have HM := Lib.hid (fun W hW => millis_yes y m d h i s c z ⟨hv, hcl⟩ ⟨hz0, hz1⟩ (by rw [hm]; exact ⟨hk0, hk1⟩) W hW)
    rw [hm] at HM
    have HC := Lib.hid (fun W hW => check_yes y m d h i s c ⟨hv, hcl⟩ W hW)
    have HV := Lib.hid (And.intro hv hn)
    have hb3 := HB.out.trans (hb2.mono HB.out.size)
    have HB2 := Lib.hid hb3
    have HT2 := Lib.hid (HT.out.below hb3)
    clear hh hi hs hc hcl hm hv hn hb2 hb3 HP
    have hdt : DtAt w2.heap.size #[.int .i64 y, .int .i64 m, .int .i64 d, .int .i64 h, .int .i64 i, .int .i64 s, .int .i64 c] (w2.alloc (.cells #[.int .i64 y, .int .i64 m, .int .i64 d, .int .i64 h, .int .i64 i, .int .i64 s, .int .i64 c] 23)) := heap_alloc_new _ _
    have HDT := Lib.hid hdt
    clear hdt
    go_wp2_with fail
    refine (HM.out _ (HT2.out.alloc _)).mono ?_
    rintro e w3 ⟨rfl, hb3⟩
    have hq := HDT.out.below hb3
    have hq0 := hq.cell 0
    have hq1 := hq.cell 1
    have hq2 := hq.cell 2
    have hq3 := hq.cell 3
    have hq4 := hq.cell 4
    have hq5 := hq.cell 5
    have hq6 := hq.cell 6
    simp only [List.getElem?_toArray, List.getElem?_cons_zero, List.getElem?_cons_succ] at hq0 hq1 hq2 hq3 hq4 hq5 hq6
    have h3 : Below w.heap.size w w3 := (HB2.out.alloc HB2.out.size _).trans (hb3.mono (by simp; have := HB2.out.size; omega))
    have HB3 := Lib.hid h3
    have HT3 := Lib.hid (HT.out.below h3)
    have HQ := Lib.hid hq
    clear hb3 hq h3
    go_wp2_with fail
    refine (HD.out _ HT3.out).mono ?_
    rintro e w4 ⟨y', m', d', rfl, hv', hn', hb4⟩
    obtain ⟨rfl, rfl, rfl⟩ := Cal.num_inj hv' HV.out.1 (hn'.trans HV.out.2.symm)
    rw [HDV.out]
    clear hq0 hq1 hq2 hq3 hq4 hq5 hq6 hv' hn'
    have hq := HQ.out.below hb4
    have hq0 := hq.cell 0
    have hq1 := hq.cell 1
    have hq2 := hq.cell 2
    have hq3 := hq.cell 3
    have hq4 := hq.cell 4
    have hq5 := hq.cell 5
    have hq6 := hq.cell 6
    simp only [List.getElem?_toArray, List.getElem?_cons_zero, List.getElem?_cons_succ] at hq0 hq1 hq2 hq3 hq4 hq5 hq6
    have hlt : w2.heap.size < w4.heap.size := hq.lt
    have h4 : Below w.heap.size w w4 := HB3.out.trans (hb4.mono HB3.out.size)
    have HB4 := Lib.hid h4
    have HT4 := Lib.hid (HT.out.below h4)
    clear hb4 hq h4
    go_wp2_with fail
    refine (HC.out _ (HT4.out.alloc _)).mono ?_
    rintro e w5 ⟨rfl, hb5⟩
    have HB5 := Lib.hid hb5
    clear hb5
    go_wp2
    go_ret
    exact ⟨rfl, (HB4.out.alloc HB4.out.size _).trans (HB5.out.mono (by simp; have := HB4.out.size; omega))⟩
  · have HD := Lib.hid (dates_no k z (fun x => ht x.2.2))
    clear ht
    go_wp2_with fail
    refine (HD.out _).mono ?_
    rintro e w2 ⟨rfl, hb2⟩
    unfold zeroDate
    go_wp2
    go_ret
    exact ⟨rfl, (HB.out.trans (hb2.mono HB.out.size)).alloc (by have := HB.out.size; have := hb2.size; omega) _⟩
end Go.Proofs.YtnegfiiecegbbaaDoor
