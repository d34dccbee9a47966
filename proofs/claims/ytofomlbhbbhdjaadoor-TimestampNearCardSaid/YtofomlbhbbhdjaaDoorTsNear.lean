/- The contracts of package timestamp's distance and nearestOf. -/
import Derived.Test.YtofomlbhbbhdjaaDoorTsZone
import Derived.Test.YtofomlbhbbhdjaaDoorCalAny
namespace Go.Proofs.YtofomlbhbbhdjaaDoor
open Go.RowKit

/-- A date's seven numbers. -/
structure D7 where
  (y m d h i s c : Int)
def D7.cs (x : D7) : Array Value := date7 x.y x.m x.d x.h x.i x.s x.c
noncomputable def D7.mV (x : D7) (z : Int) : Int := milV x.y x.m x.d x.h x.i x.s x.c z
noncomputable def D7.mE (x : D7) (z : Int) : Int := milE x.y x.m x.d x.h x.i x.s x.c z
theorem mil_isT {x : D7} {z : Int} (h : x.mE z = 0) : isT (x.mV z) := by
  unfold D7.mE milE at h
  unfold D7.mV milV
  by_cases H : chkOk x.y x.m x.d x.h x.i x.s x.c
  · rw [if_pos H] at h
    by_cases H2 : isZ z ∧ isT (msOf x.y x.m x.d x.h x.i x.s x.c z)
    · rw [if_pos ⟨H, H2.1, H2.2⟩]; exact H2.2
    · rw [if_neg H2] at h; omega
  · rw [if_neg H] at h; omega
def dist (a b : Int) : Int := max (a - b) (b - a)
open Classical in
noncomputable def nstep (ref z : Int) (b : Int × Int) (x : D7) : Int × Int :=
  if x.mE z ≠ 0 then b else if b.2 ≠ 0 ∨ dist (x.mV z) ref < dist b.1 ref then (x.mV z, 0) else b
noncomputable def nfold (ref z : Int) (xs : Nat → D7) : Nat → Int × Int
  | 0 => (0, 10)
  | k + 1 => nstep ref z (nfold ref z xs k) (xs k)
theorem nfold_ok (ref z : Int) (xs : Nat → D7) : ∀ k, ((nfold ref z xs k).2 = 0 ∧ isT (nfold ref z xs k).1) ∨ nfold ref z xs k = (0, 10)
  | 0 => .inr rfl
  | k + 1 => by
    have ih := nfold_ok ref z xs k
    unfold nfold nstep
    by_cases he : (xs k).mE z = 0
    · rw [if_neg (by simpa using he)]
      split
      · exact .inl ⟨rfl, mil_isT he⟩
      · exact ih
    · rw [if_pos he]; exact ih

set_option maxRecDepth 100000 in
theorem distance_any (a b : Int) (ha : isT a) (hb : isT b) (w : World) :
    Calls Tryd.prog 64 #[.int .i64 a, .int .i64 b] w fun e w' => e = .returned (.int .i64 (dist a b)) ∧ w = w' := by
  obtain ⟨a1, a2⟩ := ha
  obtain ⟨b1, b2⟩ := hb
  go_enter Tryd.func64, Tryd.ntmps64
  go_wp2
  go_ret
  exact ⟨rt_int (by unfold dist; omega), rfl⟩

/-- Three dates as one value. -/
def arr3 (xs : Nat → D7) : Array Value := (xs 0).cs ++ (xs 1).cs ++ (xs 2).cs
theorem sizeDate : (Tryd.prog.info? 36).map (·.size) = some 7 := by kernel_rfl
theorem run_index_date (xs : Nat → D7) (k : IntKind) (i : Nat) (h : i < 3) (w : World) :
    (Instr.index 77 (.agg (arr3 xs)) (.int k i)).run Tryd.prog w = .ok (.agg (xs i).cs) w := by
  have hz := sizeDate
  unfold Instr.index
  cases hq : Tryd.prog.info? 36 with
  | none => simp [hq] at hz
  | some j =>
    have hj : j.size = 7 := by simpa [hq] using hz
    have h3 : i = 0 ∨ i = 1 ∨ i = 2 := by omega
    rcases h3 with rfl | rfl | rfl <;>
    (simp [go_sem, asIntOf, run_underlying Tryd.underlying77, sizeOf, typeInfo, hq, hj, arr3, D7.cs, date7, Array.extract]; rfl)
theorem arr3_size (xs : Nat → D7) : (arr3 xs).size = 21 := by simp [arr3, D7.cs, date7]
theorem sizeArr3 : (Tryd.prog.info? 77).map (·.size) = some 21 := by kernel_rfl
theorem mil_any (x : D7) (z : Int) (w : World) (hT : DaysT w) :
    Calls Tryd.prog 21 #[.agg #[.int .i64 x.y, .int .i64 x.m, .int .i64 x.d, .int .i64 x.h, .int .i64 x.i, .int .i64 x.s, .int .i64 x.c], .int .i64 z] w fun e w' => e = .returned (.tuple #[.int .i64 (x.mV z), .int .i64 (x.mE z)]) ∧ Below w.heap.size w w' :=
  millis_any x.y x.m x.d x.h x.i x.s x.c z w hT
/-- What a round does. -/
inductive Round (ref : Int) (b : Int × Int) (v e : Int) (b' : Int × Int) : Prop where
  | skip (h : e ≠ 0) (hb : b' = b)
  | first (h : e = 0) (h2 : b.2 ≠ 0) (hb : b' = (v, 0))
  | near (h : e = 0) (h2 : b.2 = 0) (hv : isT v) (ht : isT b.1) (hd : dist v ref < dist b.1 ref) (hb : b' = (v, 0))
  | far (h : e = 0) (h2 : b.2 = 0) (hv : isT v) (ht : isT b.1) (hd : ¬ dist v ref < dist b.1 ref) (hb : b' = b)
theorem round_of (ref z : Int) (xs : Nat → D7) (k : Nat) : Round ref (nfold ref z xs k) ((xs k).mV z) ((xs k).mE z) (nfold ref z xs (k + 1)) := by
  have hok := nfold_ok ref z xs k
  show Round _ _ _ _ (nstep ref z (nfold ref z xs k) (xs k))
  unfold nstep
  by_cases he : (xs k).mE z = 0
  · rw [if_neg (by simpa using he)]
    have hv := mil_isT he
    by_cases h2 : (nfold ref z xs k).2 = 0
    · have ht : isT (nfold ref z xs k).1 := by
        rcases hok with h | h
        · exact h.2
        · rw [h] at h2; simp at h2
      by_cases hd : dist ((xs k).mV z) ref < dist (nfold ref z xs k).1 ref
      · rw [if_pos (.inr hd)]; exact .near he h2 hv ht hd rfl
      · rw [if_neg (fun x => x.elim (fun y => y h2) hd)]; exact .far he h2 hv ht hd rfl
    · rw [if_pos (.inl h2)]; exact .first he h2 rfl
  · rw [if_pos he]; exact .skip he rfl

set_option maxRecDepth 100000 in
set_option maxHeartbeats 8000000 in
theorem nearestOf_any (xs : Nat → D7) (ref z : Int) (hr : isT ref) (w : World) (hT : DaysT w) :
    Calls Tryd.prog 34 #[.agg (arr3 xs), .int .i64 ref, .int .i64 z] w fun e w' => e = .returned (.tuple #[.int .i64 (nfold ref z xs 3).1, .int .i64 (nfold ref z xs 3).2]) ∧ Below w.heap.size w w' := by
  have HT := Lib.hid hT
  have HR := Lib.hid hr
  have hsz := arr3_size xs
  have hix := fun k (hk : k < 3) kk W => run_index_date xs kk k hk W
  obtain ⟨A, hA⟩ : ∃ A, arr3 xs = A := ⟨_, rfl⟩
  rw [hA] at hsz hix ⊢
  have HI := Lib.hid hix
  have HS := Lib.hid hsz
  clear hT hr hA hix hsz
  go_enter Tryd.func34, Tryd.ntmps34
  go_wp2_with (with_reducible refine wpList_load_row rfl 77 (.tmp 3) rfl w.heap.size rfl 77 A (0, 0) _ (heap_alloc_new _ _) Tryd.underlying77 rfl (by rw [HS.out]; exact sizeArr3) ?_)
  have hb0 : Below w.heap.size w (w.alloc (.cells A 77)) := (Below.refl _ _).alloc (Nat.le_refl _) _
  obtain ⟨X, hX⟩ : ∃ X, w.alloc (.cells A 77) = X := ⟨_, rfl⟩
  rw [hX] at hb0 ⊢
  have HB0 := Lib.hid hb0
  clear hb0 hX
  go_loopw [8, 9, 15] (fun n er i wr => ∃ k : Nat, k ≤ 3 ∧ i = .int .i64 k ∧ n = .int .i64 (nfold ref z xs k).1 ∧ er = .int .i64 (nfold ref z xs k).2 ∧ Below w.heap.size w wr) (fun _ _ i _ => 3 - (intOf i).toNat)
  case atStart => exact ⟨0, by omega, rfl, rfl, rfl, HB0.out⟩
  case round =>
    obtain ⟨k, hk, rfl, rfl, rfl, hb⟩ := hrel
    by_cases hlt : k < 3
    · have hd3 : decide ((k : Int) < 3) = true := by rw [decide_eq_true_iff]; omega
      have hix := fun kk W => HI.out k hlt kk W
      have hrd := round_of ref z xs k
      have hml := fun W hW => mil_any (xs k) z W hW
      obtain ⟨x, hx⟩ : ∃ x, xs k = x := ⟨_, rfl⟩
      rw [hx] at hix hrd hml
      obtain ⟨v, hv⟩ : ∃ v, x.mV z = v := ⟨_, rfl⟩
      obtain ⟨er, he⟩ : ∃ v, x.mE z = v := ⟨_, rfl⟩
      rw [hv, he] at hrd hml
      obtain ⟨b', hb'⟩ : ∃ b, nfold ref z xs (k + 1) = b := ⟨_, rfl⟩
      rw [hb'] at hrd
      obtain ⟨b, hbk⟩ : ∃ b, nfold ref z xs k = b := ⟨_, rfl⟩
      rw [hbk] at hrd ⊢
      obtain ⟨b1, b2⟩ := b
      obtain ⟨y, m, d, h, i, sc, c⟩ := x
      unfold D7.cs date7 at hix
      simp only at hix hml hrd ⊢
      have HN := Lib.hid hb'
      have HM := Lib.hid hml
      have HBr := Lib.hid hb
      clear hx hv he hb' hbk hml hb
      rcases hrd with ⟨h0, hb⟩ | ⟨h0, h2, hb⟩ | ⟨h0, h2, hvt, htt, hdd, hb⟩ | ⟨h0, h2, hvt, htt, hdd, hb⟩
      · have e1 : (er == 0) = false := by rw [beq_eq_false_iff_ne]; exact h0
        have e2 : (er != 0) = true := by rw [bne_iff_ne]; exact h0
        have HQ := Lib.hid hb
        clear h0 hb
        go_wp2_with fail
        refine (HM.out _ (DaysT.below HT.out (HBr.out.alloc HBr.out.size _))).mono ?_
        rintro e w2 ⟨rfl, hb2⟩
        have HB2 := Lib.hid ((HBr.out.alloc HBr.out.size _).trans (hb2.mono (HBr.out.alloc HBr.out.size _).size))
        clear hb2
        go_wp2
        go_roundw
        case rel => exact ⟨k + 1, by omega, by simp, by rw [HN.out, HQ.out], by rw [HN.out, HQ.out], HB2.out⟩
        case measure => simp [intOf]; omega
      · subst h0
        have e3 : (b2 != 0) = true := by rw [bne_iff_ne]; exact h2
        have e4 : (b2 == 0) = false := by rw [beq_eq_false_iff_ne]; exact h2
        have HQ := Lib.hid hb
        clear h2 hb
        go_wp2_with fail
        refine (HM.out _ (DaysT.below HT.out (HBr.out.alloc HBr.out.size _))).mono ?_
        rintro e w2 ⟨rfl, hb2⟩
        have HB2 := Lib.hid ((HBr.out.alloc HBr.out.size _).trans (hb2.mono (HBr.out.alloc HBr.out.size _).size))
        clear hb2
        go_wp2
        go_roundw
        case rel => exact ⟨k + 1, by omega, by simp, by rw [HN.out, HQ.out], by rw [HN.out, HQ.out], HB2.out⟩
        case measure => simp [intOf]; omega
      · subst h0 h2
        have hq1 := Lib.hid (fun W => distance_any v ref hvt HR.out W)
        have hq2 := Lib.hid (fun W => distance_any b1 ref htt HR.out W)
        obtain ⟨p1, hp1⟩ : ∃ p, dist v ref = p := ⟨_, rfl⟩
        obtain ⟨p2, hp2⟩ : ∃ p, dist b1 ref = p := ⟨_, rfl⟩
        rw [hp1] at hq1 hdd
        rw [hp2] at hq2 hdd
        have HQ := Lib.hid hb
        clear hb hvt htt hp1 hp2
        go_wp2_with fail
        refine (HM.out _ (DaysT.below HT.out (HBr.out.alloc HBr.out.size _))).mono ?_
        rintro e w2 ⟨rfl, hb2⟩
        have HB2 := Lib.hid ((HBr.out.alloc HBr.out.size _).trans (hb2.mono (HBr.out.alloc HBr.out.size _).size))
        clear hb2
        go_wp2_with fail
        refine (hq1.out _).mono ?_
        rintro e w' ⟨rfl, rfl⟩
        go_wp2_with fail
        refine (hq2.out _).mono ?_
        rintro e w' ⟨rfl, rfl⟩
        go_wp2
        go_roundw
        case rel => exact ⟨k + 1, by omega, by simp, by rw [HN.out, HQ.out], by rw [HN.out, HQ.out], HB2.out⟩
        case measure => simp [intOf]; omega
      · subst h0 h2
        have hq1 := Lib.hid (fun W => distance_any v ref hvt HR.out W)
        have hq2 := Lib.hid (fun W => distance_any b1 ref htt HR.out W)
        obtain ⟨p1, hp1⟩ : ∃ p, dist v ref = p := ⟨_, rfl⟩
        obtain ⟨p2, hp2⟩ : ∃ p, dist b1 ref = p := ⟨_, rfl⟩
        rw [hp1] at hq1 hdd
        rw [hp2] at hq2 hdd
        have HQ := Lib.hid hb
        clear hb hvt htt hp1 hp2
        go_wp2_with fail
        refine (HM.out _ (DaysT.below HT.out (HBr.out.alloc HBr.out.size _))).mono ?_
        rintro e w2 ⟨rfl, hb2⟩
        have HB2 := Lib.hid ((HBr.out.alloc HBr.out.size _).trans (hb2.mono (HBr.out.alloc HBr.out.size _).size))
        clear hb2
        go_wp2_with fail
        refine (hq1.out _).mono ?_
        rintro e w' ⟨rfl, rfl⟩
        go_wp2_with fail
        refine (hq2.out _).mono ?_
        rintro e w' ⟨rfl, rfl⟩
        go_wp2
        go_roundw
        case rel => exact ⟨k + 1, by omega, by simp, by rw [HN.out, HQ.out], by rw [HN.out, HQ.out], HB2.out⟩
        case measure => simp [intOf]; omega
    · obtain rfl : k = 3 := by omega
      go_wp2
      go_ret2
      exact ⟨rfl, hb⟩
end Go.Proofs.YtofomlbhbbhdjaaDoor
