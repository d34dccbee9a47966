/- When the nearest of three times is known; the chapter's example. -/
import Derived.Test.YtofomlbhbbhdjaaDoorTsForm2
namespace Go.Proofs.YtofomlbhbbhdjaaDoor

theorem mil_val {x : D7} {z : Int} (h : chkOk x.y x.m x.d x.h x.i x.s x.c) (hz : isZ z) (ht : isT (msOf x.y x.m x.d x.h x.i x.s x.c z)) : x.mV z = msOf x.y x.m x.d x.h x.i x.s x.c z ∧ x.mE z = 0 := by
  unfold D7.mV D7.mE milV milE
  rw [if_pos ⟨h, hz, ht⟩, if_pos h, if_pos ⟨hz, ht⟩]
  exact ⟨rfl, rfl⟩
theorem mil_is {x : D7} {z : Int} (h : x.mE z = 0) : chkOk x.y x.m x.d x.h x.i x.s x.c ∧ isZ z ∧ x.mV z = msOf x.y x.m x.d x.h x.i x.s x.c z := by
  unfold D7.mE milE at h
  by_cases H : chkOk x.y x.m x.d x.h x.i x.s x.c
  · rw [if_pos H] at h
    by_cases H2 : isZ z ∧ isT (msOf x.y x.m x.d x.h x.i x.s x.c z)
    · refine ⟨H, H2.1, ?_⟩
      unfold D7.mV milV
      rw [if_pos ⟨H, H2.1, H2.2⟩]
    · rw [if_neg H2] at h; omega
  · rw [if_neg H] at h; omega
/-- The time that is nearer than all others is found. -/
theorem near_pick (ref z t : Int) (xs : Nat → D7) (j : Nat) (he : (xs j).mE z = 0) (hv : (xs j).mV z = t)
    (hf : ∀ k, k ≠ j → (xs k).mE z = 0 → dist t ref < dist ((xs k).mV z) ref) :
    ∀ n, (n ≤ j → (nfold ref z xs n).2 ≠ 0 ∨ dist t ref < dist (nfold ref z xs n).1 ref) ∧ (j < n → nfold ref z xs n = (t, 0)) := by
  intro n
  induction n with
  | zero => exact ⟨fun _ => .inl (by unfold nfold; simp), fun h => by omega⟩
  | succ n ih =>
    unfold nfold nstep
    refine ⟨fun h => ?_, fun h => ?_⟩
    · have ih1 := ih.1 (by omega)
      by_cases e : (xs n).mE z = 0
      · rw [if_neg (by simpa using e)]
        split
        · exact .inr (hf n (by omega) e)
        · exact ih1
      · rw [if_pos e]; exact ih1
    · rcases Nat.lt_or_ge j n with l | l
      · rw [ih.2 l]
        by_cases e : (xs n).mE z = 0
        · have := hf n (by omega) e
          rw [if_neg (by simpa using e), if_neg (by simp; omega)]
        · rw [if_pos e]
      · obtain rfl : n = j := by omega
        have ih1 := ih.1 (Nat.le_refl _)
        rw [if_neg (by simpa using he), hv, if_pos ih1]

/-- The same day of a later year is at least 365 days later. -/
theorem num_apart {y y' m d : Int} (h : y < y') : Cal.num y m d + 365 ≤ Cal.num y' m d := by
  have h1 := Cal.bef_succ y
  have h2 := Cal.bef_mono (show y + 1 ≤ y' by omega)
  unfold Cal.num Cal.cum
  by_cases h3 : 3 ≤ m <;> cases hl : Cal.leap y <;> cases hl' : Cal.leap y' <;> rw [hl] at h1 <;> simp [h3] at h1 ⊢ <;> omega

/-- The chapter's example. -/
def exS : ByteArray := ⟨#[68, 101, 99, 32, 51, 49, 32, 50, 51, 58, 53, 57, 58, 53, 57, 32, 120]⟩
theorem ex_full : (fu8 exS).bad = true := by decide +kernel
theorem ex_bad : (sy6 exS).bad = false := by decide +kernel
theorem ex_pos : (sy6 exS).pos = 15 := by decide +kernel
theorem ex_date : (syD exS 0).m = 12 ∧ (syD exS 0).d = 31 ∧ (syD exS 0).h = 23 ∧ (syD exS 0).i = 59 ∧ (syD exS 0).s = 59 ∧ (syD exS 0).c = 0 := by decide +kernel
def exRef : Int := 1767312000000
def exT : Int := 1767225599000
theorem ex_num : Cal.num 2026 1 2 = 20455 ∧ Cal.num 2025 12 31 = 20453 ∧ Cal.num 2026 12 31 = 20818 ∧ Cal.num 2027 12 31 = 21183 := by decide +kernel
theorem ex_ref : D7.mV ⟨2026, 1, 2, 0, 0, 0, 0⟩ 0 = exRef ∧ D7.mE ⟨2026, 1, 2, 0, 0, 0, 0⟩ 0 = 0 := by
  have h := mil_val (x := ⟨2026, 1, 2, 0, 0, 0, 0⟩) (z := 0) (by unfold chkOk Cal.valid clockOk; decide) ⟨by decide, by decide⟩ (by unfold msOf isT; rw [ex_num.1]; decide)
  rw [h.1, h.2]
  unfold msOf exRef
  rw [ex_num.1]
  decide
theorem ex_near : neB (syD exS 0) exRef 0 = (exT, 0) := by
  have hok : okT exRef 0 := ⟨⟨by decide, by decide⟩, ⟨by decide, by decide⟩, ⟨by decide, by decide⟩⟩
  unfold neB
  rw [if_pos hok]
  have hc : civT (pOf exRef 0 / 86400000 - 719162) = (2026, 1, 2) := civT_is (by unfold Cal.valid; decide) (by rw [ex_num.1]; decide)
  rw [hc]
  obtain ⟨e1, e2, e3, e4, e5, e6⟩ := ex_date
  have hy : ∀ k : Nat, yrs 2026 (syD exS 0) k = ⟨2026 - 1 + k, 12, 31, 23, 59, 59, 0⟩ := fun k => by unfold yrs; rw [e1, e2, e3, e4, e5, e6]
  have h0 := mil_val (x := ⟨2025, 12, 31, 23, 59, 59, 0⟩) (z := 0) (by unfold chkOk Cal.valid clockOk; decide) ⟨by decide, by decide⟩ (by unfold msOf isT; rw [ex_num.2.1]; decide)
  refine (near_pick exRef 0 exT _ 0 (by rw [hy]; exact h0.2) (by rw [hy]; exact h0.1.trans (by unfold msOf exT; rw [ex_num.2.1]; decide)) (fun k hk he => ?_) 3).2 (by omega)
  rw [hy] at he ⊢
  have hm := mil_is he
  rw [hm.2.2]
  have hn := num_apart (y := 2025) (y' := 2026 - 1 + k) (m := 12) (d := 31) (by omega)
  rw [ex_num.2.1] at hn
  unfold msOf dist exT exRef
  simp only
  omega
end Go.Proofs.YtofomlbhbbhdjaaDoor
