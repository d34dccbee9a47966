/- The contracts of package timestamp's distance and nearestOf. The contract of package timestamp's Nearest. What every form of package timestamp keeps while it reads: the cursor, the date, the hints. The contracts of the first form, readFull. The contract of the second form, readSyslog. -/
import Derived.Test.YtpbfgafkoodeoaaDoorRvD
import Derived.Test.YtpbfgafkoodeoaaDoorRvG
namespace Go.Proofs.YtpbfgafkoodeoaaDoor
open Go.RowKit

/-- A date's seven numbers. -/
structure D7 where
  (y m d h i s c : Int)
def D7.cs (x : D7) : Array Value := date7 x.y x.m x.d x.h x.i x.s x.c
noncomputable def D7.mV (x : D7) (z : Int) : Int := milV x.y x.m x.d x.h x.i x.s x.c z
noncomputable def D7.mE (x : D7) (z : Int) : Int := milE x.y x.m x.d x.h x.i x.s x.c z
theorem mil_isT {x : D7} {z : Int} (h : x.mE z = 0) : isT (x.mV z) := by
  unfold D7.mE milE at h
  unfold D7.mV milV
  by_cases H : chkOk x.y x.m x.d x.h x.i x.s x.c
  · rw [if_pos H] at h
    by_cases H2 : isZ z ∧ isT (msOf x.y x.m x.d x.h x.i x.s x.c z)
    · rw [if_pos ⟨H, H2.1, H2.2⟩]; exact H2.2
    · rw [if_neg H2] at h; omega
  · rw [if_neg H] at h; omega
def dist (a b : Int) : Int := max (a - b) (b - a)
open Classical in
noncomputable def nstep (ref z : Int) (b : Int × Int) (x : D7) : Int × Int :=
  if x.mE z ≠ 0 then b else if b.2 ≠ 0 ∨ dist (x.mV z) ref < dist b.1 ref then (x.mV z, 0) else b
noncomputable def nfold (ref z : Int) (xs : Nat → D7) : Nat → Int × Int
  | 0 => (0, 10)
  | k + 1 => nstep ref z (nfold ref z xs k) (xs k)
theorem nfold_ok (ref z : Int) (xs : Nat → D7) : ∀ k, ((nfold ref z xs k).2 = 0 ∧ isT (nfold ref z xs k).1) ∨ nfold ref z xs k = (0, 10)
  | 0 => .inr rfl
  | k + 1 => by
    have ih := nfold_ok ref z xs k
    unfold nfold nstep
    by_cases he : (xs k).mE z = 0
    · rw [if_neg (by simpa using he)]
      split
      · exact .inl ⟨rfl, mil_isT he⟩
      · exact ih
    · rw [if_pos he]; exact ih

set_option maxRecDepth 100000 in
theorem distance_any (a b : Int) (ha : isT a) (hb : isT b) (w : World) :
    Calls Tryd.prog 78 #[.int .i64 a, .int .i64 b] w fun e w' => e = .returned (.int .i64 (dist a b)) ∧ w = w' := by
  obtain ⟨a1, a2⟩ := ha
  obtain ⟨b1, b2⟩ := hb
  go_enter Tryd.func78, Tryd.ntmps78
  go_wp2
  go_ret
  exact ⟨rt_int (by unfold dist; omega), rfl⟩

/-- Three dates as one value. -/
def arr3 (xs : Nat → D7) : Array Value := (xs 0).cs ++ (xs 1).cs ++ (xs 2).cs
theorem sizeDate : (Tryd.prog.info? 38).map (·.size) = some 7 := by kernel_rfl
theorem run_index_date (xs : Nat → D7) (k : IntKind) (i : Nat) (h : i < 3) (w : World) :
    (Instr.index 93 (.agg (arr3 xs)) (.int k i)).run Tryd.prog w = .ok (.agg (xs i).cs) w := by
  have hz := sizeDate
  unfold Instr.index
  cases hq : Tryd.prog.info? 38 with
  | none => simp [hq] at hz
  | some j =>
    have hj : j.size = 7 := by simpa [hq] using hz
    have h3 : i = 0 ∨ i = 1 ∨ i = 2 := by omega
    rcases h3 with rfl | rfl | rfl <;>
    (simp [go_sem, asIntOf, run_underlying Tryd.underlying93, sizeOf, typeInfo, hq, hj, arr3, D7.cs, date7, Array.extract]; rfl)
theorem arr3_size (xs : Nat → D7) : (arr3 xs).size = 21 := by simp [arr3, D7.cs, date7]
theorem sizeArr3 : (Tryd.prog.info? 93).map (·.size) = some 21 := by kernel_rfl
theorem mil_any (x : D7) (z : Int) (w : World) (hT : DaysT w) :
    Calls Tryd.prog 10 #[.agg #[.int .i64 x.y, .int .i64 x.m, .int .i64 x.d, .int .i64 x.h, .int .i64 x.i, .int .i64 x.s, .int .i64 x.c], .int .i64 z] w fun e w' => e = .returned (.tuple #[.int .i64 (x.mV z), .int .i64 (x.mE z)]) ∧ Below w.heap.size w w' :=
  millis_any x.y x.m x.d x.h x.i x.s x.c z w hT
/-- What a round does. -/
inductive Round (ref : Int) (b : Int × Int) (v e : Int) (b' : Int × Int) : Prop where
  | skip (h : e ≠ 0) (hb : b' = b)
  | first (h : e = 0) (h2 : b.2 ≠ 0) (hb : b' = (v, 0))
  | near (h : e = 0) (h2 : b.2 = 0) (hv : isT v) (ht : isT b.1) (hd : dist v ref < dist b.1 ref) (hb : b' = (v, 0))
  | far (h : e = 0) (h2 : b.2 = 0) (hv : isT v) (ht : isT b.1) (hd : ¬ dist v ref < dist b.1 ref) (hb : b' = b)
theorem round_of (ref z : Int) (xs : Nat → D7) (k : Nat) : Round ref (nfold ref z xs k) ((xs k).mV z) ((xs k).mE z) (nfold ref z xs (k + 1)) := by
  have hok := nfold_ok ref z xs k
  show Round _ _ _ _ (nstep ref z (nfold ref z xs k) (xs k))
  unfold nstep
  by_cases he : (xs k).mE z = 0
  · rw [if_neg (by simpa using he)]
    have hv := mil_isT he
    by_cases h2 : (nfold ref z xs k).2 = 0
    · have ht : isT (nfold ref z xs k).1 := by
        rcases hok with h | h
        · exact h.2
        · rw [h] at h2; simp at h2
      by_cases hd : dist ((xs k).mV z) ref < dist (nfold ref z xs k).1 ref
      · rw [if_pos (.inr hd)]; exact .near he h2 hv ht hd rfl
      · rw [if_neg (fun x => x.elim (fun y => y h2) hd)]; exact .far he h2 hv ht hd rfl
    · rw [if_pos (.inl h2)]; exact .first he h2 rfl
  · rw [if_pos he]; exact .skip he rfl

set_option maxRecDepth 100000 in
set_option maxHeartbeats 8000000 in
theorem nearestOf_any (xs : Nat → D7) (ref z : Int) (hr : isT ref) (w : World) (hT : DaysT w) :
    Calls Tryd.prog 72 #[.agg (arr3 xs), .int .i64 ref, .int .i64 z] w fun e w' => e = .returned (.tuple #[.int .i64 (nfold ref z xs 3).1, .int .i64 (nfold ref z xs 3).2]) ∧ Below w.heap.size w w' := by
  have HT := Lib.hid hT
  have HR := Lib.hid hr
  have hsz := arr3_size xs
  have hix := fun k (hk : k < 3) kk W => run_index_date xs kk k hk W
  obtain ⟨A, hA⟩ : ∃ A, arr3 xs = A := ⟨_, rfl⟩
  rw [hA] at hsz hix ⊢
  have HI := Lib.hid hix
  have HS := Lib.hid hsz
  clear hT hr hA hix hsz
  go_enter Tryd.func72, Tryd.ntmps72
  go_wp2_with (with_reducible refine wpList_load_row rfl 93 (.tmp 3) rfl w.heap.size rfl 93 A (0, 0) _ (heap_alloc_new _ _) Tryd.underlying93 rfl (by rw [HS.out]; exact sizeArr3) ?_)
  have hb0 : Below w.heap.size w (w.alloc (.cells A 93)) := (Below.refl _ _).alloc (Nat.le_refl _) _
  obtain ⟨X, hX⟩ : ∃ X, w.alloc (.cells A 93) = X := ⟨_, rfl⟩
  rw [hX] at hb0 ⊢
  have HB0 := Lib.hid hb0
  clear hb0 hX
  go_loopw [8, 9, 15] (fun n er i wr => ∃ k : Nat, k ≤ 3 ∧ i = .int .i64 k ∧ n = .int .i64 (nfold ref z xs k).1 ∧ er = .int .i64 (nfold ref z xs k).2 ∧ Below w.heap.size w wr) (fun _ _ i _ => 3 - (intOf i).toNat)
  case atStart => exact ⟨0, by omega, rfl, rfl, rfl, HB0.out⟩
  case round =>
    obtain ⟨k, hk, rfl, rfl, rfl, hb⟩ := hrel
    by_cases hlt : k < 3
    · have hd3 : decide ((k : Int) < 3) = true := by rw [decide_eq_true_iff]; omega
      have hix := fun kk W => HI.out k hlt kk W
      have hrd := round_of ref z xs k
      have hml := fun W hW => mil_any (xs k) z W hW
      obtain ⟨x, hx⟩ : ∃ x, xs k = x := ⟨_, rfl⟩
      rw [hx] at hix hrd hml
      obtain ⟨v, hv⟩ : ∃ v, x.mV z = v := ⟨_, rfl⟩
      obtain ⟨er, he⟩ : ∃ v, x.mE z = v := ⟨_, rfl⟩
      rw [hv, he] at hrd hml
      obtain ⟨b', hb'⟩ : ∃ b, nfold ref z xs (k + 1) = b := ⟨_, rfl⟩
      rw [hb'] at hrd
      obtain ⟨b, hbk⟩ : ∃ b, nfold ref z xs k = b := ⟨_, rfl⟩
      rw [hbk] at hrd ⊢
      obtain ⟨b1, b2⟩ := b
      obtain ⟨y, m, d, h, i, sc, c⟩ := x
      unfold D7.cs date7 at hix
      simp only at hix hml hrd ⊢
      have HN := Lib.hid hb'
      have HM := Lib.hid hml
      have HBr := Lib.hid hb
      clear hx hv he hb' hbk hml hb
      rcases hrd with ⟨h0, hb⟩ | ⟨h0, h2, hb⟩ | ⟨h0, h2, hvt, htt, hdd, hb⟩ | ⟨h0, h2, hvt, htt, hdd, hb⟩
      · have e1 : (er == 0) = false := by rw [beq_eq_false_iff_ne]; exact h0
        have e2 : (er != 0) = true := by rw [bne_iff_ne]; exact h0
        have HQ := Lib.hid hb
        clear h0 hb
        go_wp2_with fail
        refine (HM.out _ (DaysT.below HT.out (HBr.out.alloc HBr.out.size _))).mono ?_
        rintro e w2 ⟨rfl, hb2⟩
        have HB2 := Lib.hid ((HBr.out.alloc HBr.out.size _).trans (hb2.mono (HBr.out.alloc HBr.out.size _).size))
        clear hb2
        go_wp2
        go_roundw
        case rel => exact ⟨k + 1, by omega, by simp, by rw [HN.out, HQ.out], by rw [HN.out, HQ.out], HB2.out⟩
        case measure => simp [intOf]; omega
      · subst h0
        have e3 : (b2 != 0) = true := by rw [bne_iff_ne]; exact h2
        have e4 : (b2 == 0) = false := by rw [beq_eq_false_iff_ne]; exact h2
        have HQ := Lib.hid hb
        clear h2 hb
        go_wp2_with fail
        refine (HM.out _ (DaysT.below HT.out (HBr.out.alloc HBr.out.size _))).mono ?_
        rintro e w2 ⟨rfl, hb2⟩
        have HB2 := Lib.hid ((HBr.out.alloc HBr.out.size _).trans (hb2.mono (HBr.out.alloc HBr.out.size _).size))
        clear hb2
        go_wp2
        go_roundw
        case rel => exact ⟨k + 1, by omega, by simp, by rw [HN.out, HQ.out], by rw [HN.out, HQ.out], HB2.out⟩
        case measure => simp [intOf]; omega
      · subst h0 h2
        have hq1 := Lib.hid (fun W => distance_any v ref hvt HR.out W)
        have hq2 := Lib.hid (fun W => distance_any b1 ref htt HR.out W)
        obtain ⟨p1, hp1⟩ : ∃ p, dist v ref = p := ⟨_, rfl⟩
        obtain ⟨p2, hp2⟩ : ∃ p, dist b1 ref = p := ⟨_, rfl⟩
        rw [hp1] at hq1 hdd
        rw [hp2] at hq2 hdd
        have HQ := Lib.hid hb
        clear hb hvt htt hp1 hp2
        go_wp2_with fail
        refine (HM.out _ (DaysT.below HT.out (HBr.out.alloc HBr.out.size _))).mono ?_
        rintro e w2 ⟨rfl, hb2⟩
        have HB2 := Lib.hid ((HBr.out.alloc HBr.out.size _).trans (hb2.mono (HBr.out.alloc HBr.out.size _).size))
        clear hb2
        go_wp2_with fail
        refine (hq1.out _).mono ?_
        rintro e w' ⟨rfl, rfl⟩
        go_wp2_with fail
        refine (hq2.out _).mono ?_
        rintro e w' ⟨rfl, rfl⟩
        go_wp2
        go_roundw
        case rel => exact ⟨k + 1, by omega, by simp, by rw [HN.out, HQ.out], by rw [HN.out, HQ.out], HB2.out⟩
        case measure => simp [intOf]; omega
      · subst h0 h2
        have hq1 := Lib.hid (fun W => distance_any v ref hvt HR.out W)
        have hq2 := Lib.hid (fun W => distance_any b1 ref htt HR.out W)
        obtain ⟨p1, hp1⟩ : ∃ p, dist v ref = p := ⟨_, rfl⟩
        obtain ⟨p2, hp2⟩ : ∃ p, dist b1 ref = p := ⟨_, rfl⟩
        rw [hp1] at hq1 hdd
        rw [hp2] at hq2 hdd
        have HQ := Lib.hid hb
        clear hb hvt htt hp1 hp2
        go_wp2_with fail
        refine (HM.out _ (DaysT.below HT.out (HBr.out.alloc HBr.out.size _))).mono ?_
        rintro e w2 ⟨rfl, hb2⟩
        have HB2 := Lib.hid ((HBr.out.alloc HBr.out.size _).trans (hb2.mono (HBr.out.alloc HBr.out.size _).size))
        clear hb2
        go_wp2_with fail
        refine (hq1.out _).mono ?_
        rintro e w' ⟨rfl, rfl⟩
        go_wp2_with fail
        refine (hq2.out _).mono ?_
        rintro e w' ⟨rfl, rfl⟩
        go_wp2
        go_roundw
        case rel => exact ⟨k + 1, by omega, by simp, by rw [HN.out, HQ.out], by rw [HN.out, HQ.out], HB2.out⟩
        case measure => simp [intOf]; omega
    · obtain rfl : k = 3 := by omega
      go_wp2
      go_ret2
      exact ⟨rfl, hb⟩
end Go.Proofs.YtpbfgafkoodeoaaDoor

namespace Go.Proofs.YtpbfgafkoodeoaaDoor
open Go.RowKit

def RowAt (b : Nat) (T : TypeId) (cs : Array Value) (w : World) : Prop := w.heap[b]? = some (.cells cs T (0, 0))
theorem RowAt.below {b : Nat} {T : TypeId} {cs : Array Value} {w w' : World} (h : RowAt b T cs w) (hb : Below w.heap.size w w') : RowAt b T cs w' := (hb.block b (Array.getElem?_eq_some_iff.1 h).1).trans h
theorem RowAt.frp {b : Nat} {T : TypeId} {cs : Array Value} {w w' : World} {P : Nat → Prop} (h : RowAt b T cs w) (hb : FrP P w w') (hn : ¬ P b) : RowAt b T cs w' := (hb.block b (Array.getElem?_eq_some_iff.1 h).1 hn).trans h
theorem RowAt.lt {b : Nat} {T : TypeId} {cs : Array Value} {w : World} (h : RowAt b T cs w) : b < w.heap.size := (Array.getElem?_eq_some_iff.1 h).1
theorem RowAt.cell {b : Nat} {T : TypeId} {cs : Array Value} {w : World} (h : RowAt b T cs w) (j : Nat) : w.cell? ⟨b, j, none⟩ = cs[j]? := Lib.cell_of_heap h j
theorem RowAt.free {b : Nat} {T : TypeId} {cs : Array Value} {w : World} (h : RowAt b T cs w) (j : Nat) : w.frozen? ⟨b, j, none⟩ = false := Lib.frozen_of_heap h j
theorem RowAt.new (T : TypeId) (cs : Array Value) (w : World) : RowAt w.heap.size T cs (w.alloc (.cells cs T)) := heap_alloc_new _ _
theorem RowAt.set {b : Nat} {T : TypeId} {cs : Array Value} {w : World} (h : RowAt b T cs w) (i : Nat) (v : Value) : RowAt b T (cs.setIfInBounds i v) (w.setCell ⟨b, i, none⟩ v) := heap_setCell_row v h
theorem RowAt.other {b c : Nat} {T : TypeId} {cs : Array Value} {w : World} (h : RowAt b T cs w) (i : Nat) (v : Value) (hn : b ≠ c) : RowAt b T cs (w.setCell ⟨c, i, none⟩ v) := (Below.heap_setCell w ⟨c, i, none⟩ v b hn).trans h

theorem below_alloc (w : World) (o : Obj) : Below w.heap.size w (w.alloc o) := (Below.refl _ _).alloc (Nat.le_refl _) _
theorem bl_trans {a b c : World} (h : Below a.heap.size a b) (k : Below b.heap.size b c) : Below a.heap.size a c := h.trans (k.mono h.size)

/-- A date is stored into an array of dates. -/
def put7 (w : World) (A o : Nat) (a b c d e f g : Int) : World :=
  ((((((w.setCell ⟨A, o, none⟩ (.int .i64 a)).setCell ⟨A, o + 1, none⟩ (.int .i64 b)).setCell ⟨A, o + 2, none⟩ (.int .i64 c)).setCell ⟨A, o + 3, none⟩ (.int .i64 d)).setCell ⟨A, o + 4, none⟩ (.int .i64 e)).setCell ⟨A, o + 5, none⟩ (.int .i64 f)).setCell ⟨A, o + 6, none⟩ (.int .i64 g)
def set7 (cs : Array Value) (o : Nat) (a b c d e f g : Int) : Array Value :=
  ((((((cs.setIfInBounds o (.int .i64 a)).setIfInBounds (o + 1) (.int .i64 b)).setIfInBounds (o + 2) (.int .i64 c)).setIfInBounds (o + 3) (.int .i64 d)).setIfInBounds (o + 4) (.int .i64 e)).setIfInBounds (o + 5) (.int .i64 f)).setIfInBounds (o + 6) (.int .i64 g)
theorem put7_row {A : Nat} {T : TypeId} {cs : Array Value} {w : World} (h : RowAt A T cs w) (o : Nat) (a b c d e f g : Int) : RowAt A T (set7 cs o a b c d e f g) (put7 w A o a b c d e f g) :=
  ((((((h.set o _).set (o + 1) _).set (o + 2) _).set (o + 3) _).set (o + 4) _).set (o + 5) _).set (o + 6) _
theorem put7_other {A n : Nat} {T : TypeId} {cs : Array Value} {w : World} (h : RowAt n T cs w) (hn : n ≠ A) (o : Nat) (a b c d e f g : Int) : RowAt n T cs (put7 w A o a b c d e f g) :=
  ((((((h.other o _ hn).other (o + 1) _ hn).other (o + 2) _ hn).other (o + 3) _ hn).other (o + 4) _ hn).other (o + 5) _ hn).other (o + 6) _ hn
theorem put7_below {B A : Nat} {a0 w : World} (h : Below B a0 w) (hB : B ≤ A) (o : Nat) (a b c d e f g : Int) : Below B a0 (put7 w A o a b c d e f g) := by
  unfold put7
  exact ((((((h.setCell (by exact hB) _).setCell (by exact hB) _).setCell (by exact hB) _).setCell (by exact hB) _).setCell (by exact hB) _).setCell (by exact hB) _).setCell (by exact hB) _
def z7 : Array Value := date7 0 0 0 0 0 0 0
def arrK (xs : Nat → D7) : Nat → Array Value
  | 0 => z7 ++ z7 ++ z7
  | 1 => (xs 0).cs ++ z7 ++ z7
  | 2 => (xs 0).cs ++ (xs 1).cs ++ z7
  | _ => arr3 xs
/-- The years around. -/
def yrs (Y : Int) (x : D7) (k : Nat) : D7 := ⟨Y - 1 + k, x.m, x.d, x.h, x.i, x.s, x.c⟩
theorem arr_step0 (Y : Int) (x : D7) : set7 (arrK (yrs Y x) 0) 0 (Y - 1) x.m x.d x.h x.i x.s x.c = arrK (yrs Y x) 1 := by simp [set7, arrK, yrs, D7.cs, date7, z7]
theorem arr_step1 (Y : Int) (x : D7) : set7 (arrK (yrs Y x) 1) 7 Y x.m x.d x.h x.i x.s x.c = arrK (yrs Y x) 2 := by simp [set7, arrK, yrs, D7.cs, date7, z7]
theorem arr_step2 (Y : Int) (x : D7) : set7 (arrK (yrs Y x) 2) 14 (Y - 1 + 2) x.m x.d x.h x.i x.s x.c = arrK (yrs Y x) 3 := by simp [set7, arrK, arr3, yrs, D7.cs, date7, z7]
open Classical in
noncomputable def neB (x : D7) (ref z : Int) : Int × Int := if okT ref z then nfold ref z (yrs (civT (pOf ref z / 86400000 - 719162)).1 x) 3 else (0, 2)

set_option maxRecDepth 100000 in
set_option maxHeartbeats 8000000 in
theorem nearest_yes (x : D7) (ref z : Int) (hk : okT ref z) (w : World) (hT : DaysT w) :
    Calls Tryd.prog 59 #[.agg #[.int .i64 x.y, .int .i64 x.m, .int .i64 x.d, .int .i64 x.h, .int .i64 x.i, .int .i64 x.s, .int .i64 x.c], .int .i64 ref, .int .i64 z] w fun e w' => e = .returned (.tuple #[.int .i64 (neB x ref z).1, .int .i64 (neB x ref z).2]) ∧ Below w.heap.size w w' := by
  have hd := fun W hW => dates_yes ref z hk.1 hk.2.1 hk.2.2 W hW
  unfold neB
  rw [if_pos hk]
  have hr := hk.1
  have hp : ref + z * 60000 + 62135596800000 = pOf ref z := rfl
  rw [hp] at hd
  obtain ⟨p, hpp⟩ : ∃ p, pOf ref z = p := ⟨_, rfl⟩
  rw [hpp] at hd ⊢
  obtain ⟨Y0, hY0⟩ : ∃ y, (civT (p / 86400000 - 719162)).1 = y := ⟨_, rfl⟩
  rw [hY0]
  have HY := Lib.hid hY0
  clear hY0
  have HD := Lib.hid hd
  have HR := Lib.hid hr
  have HT := Lib.hid hT
  clear hd hr hp hpp hT hk
  go_enter Tryd.func59, Tryd.ntmps59
  go_wp2_with fail
  refine (HD.out _ (HT.out.alloc _)).mono ?_
  rintro e w1 ⟨Y, M, D, rfl, hv, hn, hb1⟩
  have hcv := civT_is hv hn
  have hy1 := hv.1
  have hy2 := hv.2.1
  obtain rfl : Y = Y0 := by rw [← HY.out, hcv]
  have hb := bl_trans (below_alloc w (.cells #[.int .i64 x.y, .int .i64 x.m, .int .i64 x.d, .int .i64 x.h, .int .i64 x.i, .int .i64 x.s, .int .i64 x.c] 38)) hb1
  have hdt : RowAt w.heap.size 38 #[.int .i64 x.y, .int .i64 x.m, .int .i64 x.d, .int .i64 x.h, .int .i64 x.i, .int .i64 x.s, .int .i64 x.c] w1 := (RowAt.new _ _ w).below hb1
  unfold dateV
  obtain ⟨H, hH⟩ : ∃ q, p / 3600000 % 24 = q := ⟨_, rfl⟩
  obtain ⟨I, hI⟩ : ∃ q, p / 60000 % 60 = q := ⟨_, rfl⟩
  obtain ⟨S, hS⟩ : ∃ q, p / 1000 % 60 = q := ⟨_, rfl⟩
  obtain ⟨C, hC⟩ : ∃ q, p % 1000 = q := ⟨_, rfl⟩
  rw [hH, hI, hS, hC]
  have HB := Lib.hid (And.intro hb hdt)
  clear hv hn hcv hb1 hb hdt hH hI hS hC
  go_wp2_with fail
  have hX : Below w1.heap.size w1 ((w1.alloc (.cells #[.int .i64 Y, .int .i64 M, .int .i64 D, .int .i64 H, .int .i64 I, .int .i64 S, .int .i64 C] 38)).alloc (.cells #[.int .i64 0, .int .i64 0, .int .i64 0, .int .i64 0, .int .i64 0, .int .i64 0, .int .i64 0, .int .i64 0, .int .i64 0, .int .i64 0, .int .i64 0, .int .i64 0, .int .i64 0, .int .i64 0, .int .i64 0, .int .i64 0, .int .i64 0, .int .i64 0, .int .i64 0, .int .i64 0, .int .i64 0] 93)) := bl_trans (below_alloc w1 _) (below_alloc _ _)
  have hXL := (RowAt.new 38 #[.int .i64 Y, .int .i64 M, .int .i64 D, .int .i64 H, .int .i64 I, .int .i64 S, .int .i64 C] w1).below (below_alloc _ (.cells #[.int .i64 0, .int .i64 0, .int .i64 0, .int .i64 0, .int .i64 0, .int .i64 0, .int .i64 0, .int .i64 0, .int .i64 0, .int .i64 0, .int .i64 0, .int .i64 0, .int .i64 0, .int .i64 0, .int .i64 0, .int .i64 0, .int .i64 0, .int .i64 0, .int .i64 0, .int .i64 0, .int .i64 0] 93))
  have hXA := RowAt.new 93 #[.int .i64 0, .int .i64 0, .int .i64 0, .int .i64 0, .int .i64 0, .int .i64 0, .int .i64 0, .int .i64 0, .int .i64 0, .int .i64 0, .int .i64 0, .int .i64 0, .int .i64 0, .int .i64 0, .int .i64 0, .int .i64 0, .int .i64 0, .int .i64 0, .int .i64 0, .int .i64 0, .int .i64 0] (w1.alloc (.cells #[.int .i64 Y, .int .i64 M, .int .i64 D, .int .i64 H, .int .i64 I, .int .i64 S, .int .i64 C] 38))
  have hXs : (w1.alloc (.cells #[.int .i64 Y, .int .i64 M, .int .i64 D, .int .i64 H, .int .i64 I, .int .i64 S, .int .i64 C] 38)).heap.size = w1.heap.size + 1 := by simp
  rw [hXs] at hXA
  obtain ⟨X, hXX⟩ : ∃ X, (w1.alloc (.cells #[.int .i64 Y, .int .i64 M, .int .i64 D, .int .i64 H, .int .i64 I, .int .i64 S, .int .i64 C] 38)).alloc (.cells #[.int .i64 0, .int .i64 0, .int .i64 0, .int .i64 0, .int .i64 0, .int .i64 0, .int .i64 0, .int .i64 0, .int .i64 0, .int .i64 0, .int .i64 0, .int .i64 0, .int .i64 0, .int .i64 0, .int .i64 0, .int .i64 0, .int .i64 0, .int .i64 0, .int .i64 0, .int .i64 0, .int .i64 0] 93) = X := ⟨_, rfl⟩
  rw [hXX] at hX hXL hXA ⊢
  have hXD := HB.out.2.below hX
  have hXB := bl_trans HB.out.1 hX
  have hlt1 : w.heap.size < w1.heap.size := HB.out.2.lt
  obtain ⟨A, hA⟩ : ∃ A, w1.heap.size + 1 = A := ⟨_, rfl⟩
  obtain ⟨L, hL⟩ : ∃ L, w1.heap.size = L := ⟨_, rfl⟩
  obtain ⟨E, hE⟩ : ∃ E, w.heap.size = E := ⟨_, rfl⟩
  have hne : E ≠ L ∧ E ≠ A ∧ L ≠ A ∧ E ≤ L ∧ E ≤ A := by omega
  have HW := Lib.hid hE
  rw [hA] at hXA ⊢
  rw [hL] at hXL ⊢
  rw [hE] at hXD hXB ⊢
  have HX := Lib.hid (And.intro hXD (And.intro hXL (And.intro hXA hXB)))
  have HN := Lib.hid hne
  clear hX hXL hXA hXs hXX hXD hXB hlt1 hA hL hE hne HB HY
  go_loopw [21] (fun i wr => ∃ k : Nat, k ≤ 3 ∧ i = .int .i64 k ∧ (∃ y : Int, RowAt E 38 #[.int .i64 y, .int .i64 x.m, .int .i64 x.d, .int .i64 x.h, .int .i64 x.i, .int .i64 x.s, .int .i64 x.c] wr) ∧ RowAt L 38 #[.int .i64 Y, .int .i64 M, .int .i64 D, .int .i64 H, .int .i64 I, .int .i64 S, .int .i64 C] wr ∧ RowAt A 93 (arrK (yrs Y x) k) wr ∧ Below E w wr) (fun i _ => 3 - (intOf i).toNat)
  case atStart => exact ⟨0, by omega, rfl, ⟨x.y, HX.out.1⟩, HX.out.2.1, HX.out.2.2.1, HX.out.2.2.2⟩
  case round =>
    obtain ⟨k, hk, rfl, ⟨y, hrE⟩, hrL, hrA, hrB⟩ := hrel
    by_cases hlt : k < 3
    · have hk3 : k = 0 ∨ k = 1 ∨ k = 2 := by omega
      rcases hk3 with rfl | rfl | rfl
      · clear hlt hk
        have e0 := hrE.cell 0
        have e1 := hrE.cell 1
        have e2 := hrE.cell 2
        have e3 := hrE.cell 3
        have e4 := hrE.cell 4
        have e5 := hrE.cell 5
        have e6 := hrE.cell 6
        have l0 := hrL.cell 0
        have fe := hrE.free 0
        have a0 := hrA.cell 0
        have f0 := hrA.free 0
        have a1 := hrA.cell 1
        have f1 := hrA.free 1
        have a2 := hrA.cell 2
        have f2 := hrA.free 2
        have a3 := hrA.cell 3
        have f3 := hrA.free 3
        have a4 := hrA.cell 4
        have f4 := hrA.free 4
        have a5 := hrA.cell 5
        have f5 := hrA.free 5
        have a6 := hrA.cell 6
        have f6 := hrA.free 6
        simp only [List.getElem?_toArray, List.getElem?_cons_zero, List.getElem?_cons_succ] at e0 e1 e2 e3 e4 e5 e6 l0
        simp only [arrK, z7, date7, List.append_toArray, List.cons_append, List.nil_append, List.getElem?_toArray, List.getElem?_cons_zero, List.getElem?_cons_succ] at a0 a1 a2 a3 a4 a5 a6
        have HR2 := Lib.hid (And.intro hrE (And.intro hrL (And.intro hrA hrB)))
        clear hrE hrL hrA hrB
        have n1 : E ≠ A := HN.out.2.1
        have n2 : A ≠ E := fun q => HN.out.2.1 q.symm
        rw [show ((0 : Nat) : Int) = 0 from rfl]
        go_wp2
        go_roundw
        case rel =>
          exact ⟨1, by omega, rfl, ⟨_, put7_other (HR2.out.1.set 0 (.int .i64 (Y - 1))) n1 0 (Y - 1) x.m x.d x.h x.i x.s x.c⟩, put7_other (HR2.out.2.1.other 0 (.int .i64 (Y - 1)) (fun q => HN.out.1 q.symm)) HN.out.2.2.1 0 (Y - 1) x.m x.d x.h x.i x.s x.c,
            (arr_step0 Y x) ▸ put7_row (HR2.out.2.2.1.other 0 (.int .i64 (Y - 1)) n2) 0 (Y - 1) x.m x.d x.h x.i x.s x.c, put7_below (HR2.out.2.2.2.setCell (p := ⟨E, 0, none⟩) (Nat.le_refl _) (.int .i64 (Y - 1))) HN.out.2.2.2.2 0 (Y - 1) x.m x.d x.h x.i x.s x.c⟩
        case measure => simp [intOf]
      · clear hlt hk
        have e0 := hrE.cell 0
        have e1 := hrE.cell 1
        have e2 := hrE.cell 2
        have e3 := hrE.cell 3
        have e4 := hrE.cell 4
        have e5 := hrE.cell 5
        have e6 := hrE.cell 6
        have l0 := hrL.cell 0
        have fe := hrE.free 0
        have a0 := hrA.cell 7
        have f0 := hrA.free 7
        have a1 := hrA.cell 8
        have f1 := hrA.free 8
        have a2 := hrA.cell 9
        have f2 := hrA.free 9
        have a3 := hrA.cell 10
        have f3 := hrA.free 10
        have a4 := hrA.cell 11
        have f4 := hrA.free 11
        have a5 := hrA.cell 12
        have f5 := hrA.free 12
        have a6 := hrA.cell 13
        have f6 := hrA.free 13
        simp only [List.getElem?_toArray, List.getElem?_cons_zero, List.getElem?_cons_succ] at e0 e1 e2 e3 e4 e5 e6 l0
        simp only [arrK, D7.cs, z7, date7, yrs, List.append_toArray, List.cons_append, List.nil_append, List.getElem?_toArray, List.getElem?_cons_zero, List.getElem?_cons_succ] at a0 a1 a2 a3 a4 a5 a6
        have HR2 := Lib.hid (And.intro hrE (And.intro hrL (And.intro hrA hrB)))
        clear hrE hrL hrA hrB
        have n1 : E ≠ A := HN.out.2.1
        have n2 : A ≠ E := fun q => HN.out.2.1 q.symm
        rw [show ((1 : Nat) : Int) = 1 from rfl]
        go_wp2
        go_roundw
        case rel =>
          exact ⟨2, by omega, rfl, ⟨_, put7_other (HR2.out.1.set 0 (.int .i64 Y)) n1 7 Y x.m x.d x.h x.i x.s x.c⟩, put7_other (HR2.out.2.1.other 0 (.int .i64 Y) (fun q => HN.out.1 q.symm)) HN.out.2.2.1 7 Y x.m x.d x.h x.i x.s x.c,
            (arr_step1 Y x) ▸ put7_row (HR2.out.2.2.1.other 0 (.int .i64 Y) n2) 7 Y x.m x.d x.h x.i x.s x.c, put7_below (HR2.out.2.2.2.setCell (p := ⟨E, 0, none⟩) (Nat.le_refl _) (.int .i64 Y)) HN.out.2.2.2.2 7 Y x.m x.d x.h x.i x.s x.c⟩
        case measure => simp [intOf]
      · clear hlt hk
        have e0 := hrE.cell 0
        have e1 := hrE.cell 1
        have e2 := hrE.cell 2
        have e3 := hrE.cell 3
        have e4 := hrE.cell 4
        have e5 := hrE.cell 5
        have e6 := hrE.cell 6
        have l0 := hrL.cell 0
        have fe := hrE.free 0
        have a0 := hrA.cell 14
        have f0 := hrA.free 14
        have a1 := hrA.cell 15
        have f1 := hrA.free 15
        have a2 := hrA.cell 16
        have f2 := hrA.free 16
        have a3 := hrA.cell 17
        have f3 := hrA.free 17
        have a4 := hrA.cell 18
        have f4 := hrA.free 18
        have a5 := hrA.cell 19
        have f5 := hrA.free 19
        have a6 := hrA.cell 20
        have f6 := hrA.free 20
        simp only [List.getElem?_toArray, List.getElem?_cons_zero, List.getElem?_cons_succ] at e0 e1 e2 e3 e4 e5 e6 l0
        simp only [arrK, D7.cs, z7, date7, yrs, List.append_toArray, List.cons_append, List.nil_append, List.getElem?_toArray, List.getElem?_cons_zero, List.getElem?_cons_succ] at a0 a1 a2 a3 a4 a5 a6
        have HR2 := Lib.hid (And.intro hrE (And.intro hrL (And.intro hrA hrB)))
        clear hrE hrL hrA hrB
        have n1 : E ≠ A := HN.out.2.1
        have n2 : A ≠ E := fun q => HN.out.2.1 q.symm
        rw [show ((2 : Nat) : Int) = 2 from rfl]
        go_wp2
        go_roundw
        case rel =>
          exact ⟨3, by omega, rfl, ⟨_, put7_other (HR2.out.1.set 0 (.int .i64 (Y - 1 + 2))) n1 14 (Y - 1 + 2) x.m x.d x.h x.i x.s x.c⟩, put7_other (HR2.out.2.1.other 0 (.int .i64 (Y - 1 + 2)) (fun q => HN.out.1 q.symm)) HN.out.2.2.1 14 (Y - 1 + 2) x.m x.d x.h x.i x.s x.c,
            (arr_step2 Y x) ▸ put7_row (HR2.out.2.2.1.other 0 (.int .i64 (Y - 1 + 2)) n2) 14 (Y - 1 + 2) x.m x.d x.h x.i x.s x.c, put7_below (HR2.out.2.2.2.setCell (p := ⟨E, 0, none⟩) (Nat.le_refl _) (.int .i64 (Y - 1 + 2))) HN.out.2.2.2.2 14 (Y - 1 + 2) x.m x.d x.h x.i x.s x.c⟩
        case measure => simp [intOf]
    · obtain rfl : k = 3 := by omega
      rw [show arrK (yrs Y x) 3 = arr3 (yrs Y x) from rfl] at hrA
      have hno := fun W hW => nearestOf_any (yrs Y x) ref z HR.out W hW
      have hsz := arr3_size (yrs Y x)
      obtain ⟨F, hF⟩ : ∃ F, arr3 (yrs Y x) = F := ⟨_, rfl⟩
      rw [hF] at hrA hno hsz
      have hFF : wr.heap[A]? = some (.cells F 93 (0, 0)) := hrA
      have HF := Lib.hid (And.intro hFF (And.intro hno hsz))
      clear hrA hFF hno hsz hF hrE hrL hlt hk
      go_wp2_with (with_reducible refine wpList_load_row rfl 93 (.tmp 10) rfl A rfl 93 F (0, 0) _ HF.out.1 Tryd.underlying93 rfl (by rw [HF.out.2.2]; exact sizeArr3) ?_)
      refine (HF.out.2.1 _ (HT.out.below (by rw [← HW.out] at hrB; exact hrB))).mono ?_
      rintro e w2 ⟨rfl, hb2⟩
      go_wp2
      go_ret2
      obtain rfl := HW.out
      exact ⟨rfl, hrB.trans (hb2.mono hrB.size)⟩

set_option maxRecDepth 100000 in
set_option maxHeartbeats 4000000 in
theorem nearest_no (x : D7) (ref z : Int) (hk : ¬ okT ref z) (w : World) :
    Calls Tryd.prog 59 #[.agg #[.int .i64 x.y, .int .i64 x.m, .int .i64 x.d, .int .i64 x.h, .int .i64 x.i, .int .i64 x.s, .int .i64 x.c], .int .i64 ref, .int .i64 z] w fun e w' => e = .returned (.tuple #[.int .i64 0, .int .i64 2]) ∧ Below w.heap.size w w' := by
  have HD := Lib.hid (fun W => dates_no ref z hk W)
  clear hk
  go_enter Tryd.func59, Tryd.ntmps59
  go_wp2_with fail
  refine (HD.out _).mono ?_
  rintro e w1 ⟨rfl, hb1⟩
  have hb := bl_trans (below_alloc w _) hb1
  unfold zeroDate
  go_wp2
  go_ret2
  exact ⟨rfl, bl_trans hb (below_alloc _ _)⟩
theorem nearest_any (x : D7) (ref z : Int) (w : World) (hT : DaysT w) :
    Calls Tryd.prog 59 #[.agg #[.int .i64 x.y, .int .i64 x.m, .int .i64 x.d, .int .i64 x.h, .int .i64 x.i, .int .i64 x.s, .int .i64 x.c], .int .i64 ref, .int .i64 z] w fun e w' => e = .returned (.tuple #[.int .i64 (neB x ref z).1, .int .i64 (neB x ref z).2]) ∧ Below w.heap.size w w' := by
  by_cases hk : okT ref z
  · exact nearest_yes x ref z hk w hT
  · have e : neB x ref z = (0, 2) := by unfold neB; rw [if_neg hk]
    rw [e]; exact nearest_no x ref z hk w
end Go.Proofs.YtpbfgafkoodeoaaDoor

namespace Go.Proofs.YtpbfgafkoodeoaaDoor
open Go.RowKit

theorem DaysT.frp {w w' : World} {P : Nat → Prop} (h : DaysT w) (k : FrP P w w') (hn : ¬ P 0) : DaysT w' := by
  unfold DaysT Lib.TabIs World.var? at *
  have hg : Tryd.prog.globalNamed "logtide/calendar.daysBefore" = some 0 := by kernel_rfl
  rw [hg] at h ⊢
  simp only [Option.bind_some] at h ⊢
  have hlt : 0 < w.heap.size := by
    rcases Nat.lt_or_ge 0 w.heap.size with l | l
    · exact l
    · rw [Array.getElem?_eq_none (by omega)] at h; cases h
  rw [k.block _ hlt hn]
  exact h
/-- The tables, and that the cursor is none of them. -/
structure Glob (B : Nat) (w : World) : Prop where
  days : DaysT w
  mon : MonT w
  nd : B ≠ 0
  nm : B ≠ 1
theorem Glob.fr {B : Nat} {w w' : World} (h : Glob B w) (k : Fr B w w') : Glob B w' := ⟨h.days.frp k (fun e => h.nd e.symm), h.mon.frp k (fun e => h.nm e.symm), h.nd, h.nm⟩
def hintsA (ref year zone : Int) (first : Bool) : Array Value := #[.int .i64 ref, .int .i64 year, .int .i64 zone, .bool first]
structure St (s : ByteArray) (B D H : Nat) (q : CS) (x : D7) (hv : Array Value) (w0 w : World) : Prop where
  c : CAt s B q w
  d : RowAt D 38 x.cs w
  h : RowAt H 48 hv w
  f : Fr B w0 w
  hD : w0.heap.size ≤ D
  hH : w0.heap.size ≤ H
  hB : B < w0.heap.size
  hne : D ≠ H
variable {s : ByteArray} {B D H : Nat} {q q' : CS} {x x' : D7} {hv : Array Value} {w0 w w' : World}
theorem St.step (h : St s B D H q x hv w0 w) (c : CAt s B q' w') (k : Fr B w w') : St s B D H q' x hv w0 w' := by
  have h1 := h.hD; have h2 := h.hH; have h3 := h.hB
  exact ⟨c, h.d.frp k (by omega), h.h.frp k (by omega), h.f.trans k, h1, h2, h3, h.hne⟩
theorem St.clk (h : St s B D H q x hv w0 w) (c : CAt s B q' w') (d : DtAt D x'.cs w') (k : FrD B D w w') : St s B D H q' x' hv w0 w' := by
  have h1 := h.hD; have h2 := h.hH; have h3 := h.hB; have h4 := h.hne
  exact ⟨c, d, h.h.frp k (by omega), h.f.wide k (fun i hi => by omega), h1, h2, h3, h.hne⟩
theorem St.set (h : St s B D H q x hv w0 w) (i : Nat) (v : Value) (e : x.cs.setIfInBounds i v = x'.cs) : St s B D H q x' hv w0 (w.setCell ⟨D, i, none⟩ v) := by
  have h1 := h.hD; have h2 := h.hH; have h3 := h.hB; have h4 := h.hne
  have k : FrP (fun j => j = D) w (w.setCell ⟨D, i, none⟩ v) := (FrP.refl _ w).setCell D i v rfl
  exact ⟨h.c.frp k (by omega), e ▸ h.d.set i v, h.h.frp k (by omega), h.f.wide k (fun i hi => by omega), h1, h2, h3, h4⟩
theorem St.s0 (h : St s B D H q x hv w0 w) (v : Int) : St s B D H q ⟨v, x.m, x.d, x.h, x.i, x.s, x.c⟩ hv w0 (w.setCell ⟨D, 0, none⟩ (.int .i64 v)) := h.set 0 _ rfl
theorem St.s1 (h : St s B D H q x hv w0 w) (v : Int) : St s B D H q ⟨x.y, v, x.d, x.h, x.i, x.s, x.c⟩ hv w0 (w.setCell ⟨D, 1, none⟩ (.int .i64 v)) := h.set 1 _ rfl
theorem St.s2 (h : St s B D H q x hv w0 w) (v : Int) : St s B D H q ⟨x.y, x.m, v, x.h, x.i, x.s, x.c⟩ hv w0 (w.setCell ⟨D, 2, none⟩ (.int .i64 v)) := h.set 2 _ rfl
theorem St.start {p : CS} (h : CAt s B p w) (ref year zone : Int) (first : Bool) :
    St s B (w.heap.size + 1) w.heap.size p ⟨0, 0, 0, 0, 0, 0, 0⟩ (hintsA ref year zone first) w ((w.alloc (.cells #[.int .i64 ref, .int .i64 year, .int .i64 zone, .bool first] 48)).alloc (.cells #[.int .i64 0, .int .i64 0, .int .i64 0, .int .i64 0, .int .i64 0, .int .i64 0, .int .i64 0] 38)) := by
  refine ⟨(h.alloc _).alloc _, ?_, (RowAt.new _ _ w).below (below_alloc _ _), ((FrP.refl _ w).alloc _).alloc _, by omega, Nat.le_refl _, h.lt, by omega⟩
  have := RowAt.new 38 #[.int .i64 0, .int .i64 0, .int .i64 0, .int .i64 0, .int .i64 0, .int .i64 0, .int .i64 0] (w.alloc (.cells #[.int .i64 ref, .int .i64 year, .int .i64 zone, .bool first] 48))
  rw [show (w.alloc (.cells #[.int .i64 ref, .int .i64 year, .int .i64 zone, .bool first] 48)).heap.size = w.heap.size + 1 by simp] at this
  exact this
theorem St.glob (h : St s B D H q x hv w0 w) (g : Glob B w0) : Glob B w := g.fr h.f
theorem St.dcell (h : St s B D H q x hv w0 w) : w.cell? ⟨D, 0, none⟩ = some (.int .i64 x.y) ∧ w.cell? ⟨D, 1, none⟩ = some (.int .i64 x.m) ∧ w.cell? ⟨D, 2, none⟩ = some (.int .i64 x.d) ∧ w.cell? ⟨D, 3, none⟩ = some (.int .i64 x.h) ∧ w.cell? ⟨D, 4, none⟩ = some (.int .i64 x.i) ∧ w.cell? ⟨D, 5, none⟩ = some (.int .i64 x.s) ∧ w.cell? ⟨D, 6, none⟩ = some (.int .i64 x.c) :=
  ⟨h.d.cell 0, h.d.cell 1, h.d.cell 2, h.d.cell 3, h.d.cell 4, h.d.cell 5, h.d.cell 6⟩
theorem St.hcell {ref year zone : Int} {first : Bool} (h : St s B D H q x (hintsA ref year zone first) w0 w) : w.cell? ⟨H, 0, none⟩ = some (.int .i64 ref) ∧ w.cell? ⟨H, 1, none⟩ = some (.int .i64 year) ∧ w.cell? ⟨H, 2, none⟩ = some (.int .i64 zone) ∧ w.cell? ⟨H, 3, none⟩ = some (.bool first) :=
  ⟨h.h.cell 0, h.h.cell 1, h.h.cell 2, h.h.cell 3⟩
theorem St.clock (h : St s B D H q x hv w0 w) : Calls Tryd.prog 56 #[cPtr B, .pointer (some ⟨D, 0, none⟩)] w fun e w' => e = .returned (.tuple #[]) ∧ St s B D H (clockC s q) ⟨x.y, x.m, x.d, clkH s q, clkI s q, clkS s q, clkM s q⟩ hv w0 w' := by
  have h1 := h.hD; have h3 := h.hB
  exact (clock_any s B D q x.y x.m x.d x.h x.i x.s x.c w h.c h.d (by omega)).mono fun e w' ⟨he, hc, hd, hf⟩ => ⟨he, h.clk hc hd hf⟩
/-- What a form hands back. -/
def FmOut (s : ByteArray) (B : Nat) (V E : Int) (P : Nat) (w : World) (e : Ending) (w' : World) : Prop :=
  e = .returned (.tuple #[.int .i64 V, .int .i64 E]) ∧ (∃ b, CAt s B ⟨P, b⟩ w') ∧ Fr B w w'
end Go.Proofs.YtpbfgafkoodeoaaDoor

namespace Go.Proofs.YtpbfgafkoodeoaaDoor
open Go.RowKit

theorem rt_ii {a b c d : Int} (h : a = c) (k : b = d) : Ending.returned (.tuple #[.int .i64 a, .int .i64 b]) = .returned (.tuple #[.int .i64 c, .int .i64 d]) := by rw [h, k]
def fu1 (s : ByteArray) : CS := digitsC s ⟨0, false⟩ 4 4
def fu2 (s : ByteArray) : CS := expectC s (fu1 s) 45
def fu3 (s : ByteArray) : CS := digitsC s (fu2 s) 2 2
def fu4 (s : ByteArray) : CS := expectC s (fu3 s) 45
def fu5 (s : ByteArray) : CS := digitsC s (fu4 s) 2 2
def fu6 (s : ByteArray) : CS := if byN s (fu5 s).pos = 84 then (fu5 s).next else expectC s (fu5 s) 32
def fu7 (s : ByteArray) : CS := clockC s (fu6 s)
def fu8 (s : ByteArray) : CS := zoneC s (fu7 s)
def fuD (s : ByteArray) : D7 := ⟨(numC s 0 4 : Nat), (numC s (fu2 s).pos 2 : Nat), (numC s (fu4 s).pos 2 : Nat), (clkH s (fu6 s) : Nat), (clkI s (fu6 s) : Nat), (clkS s (fu6 s) : Nat), (clkM s (fu6 s) : Nat)⟩
def fuZ (s : ByteArray) (z : Int) : Int := zoneV s (fu7 s) z
noncomputable def fuV (s : ByteArray) (z : Int) : Int := if (fu8 s).bad = true then 0 else (fuD s).mV (fuZ s z)
noncomputable def fuE (s : ByteArray) (z : Int) : Int := if (fu8 s).bad = true then 20 else (fuD s).mE (fuZ s z)

set_option maxRecDepth 100000 in
set_option maxHeartbeats 8000000 in
theorem full_any (s : ByteArray) (B : Nat) (ref year zone : Int) (first : Bool) (w : World) (hc : CAt s B ⟨0, false⟩ w) (hg : Glob B w) :
    Calls Tryd.prog 32 #[cPtr B, .agg (hintsA ref year zone first)] w (FmOut s B (fuV s zone) (fuE s zone) (fu8 s).pos w) := by
  have N1 := fun W (h : CAt s B ⟨0, false⟩ W) => cnumber_any s B ⟨0, false⟩ 4 4 (by omega) (by omega) W h
  have N2 := fun W h => expect_any s B (fu1 s) 45 (by omega) W h
  have N3 := fun W h => cnumber_any s B (fu2 s) 2 2 (by omega) (by omega) W h
  have N4 := fun W h => expect_any s B (fu3 s) 45 (by omega) W h
  have N5 := fun W h => cnumber_any s B (fu4 s) 2 2 (by omega) (by omega) W h
  have N9 := fun W h => zone_any s B (fu7 s) zone W h
  have HC := Lib.hid hc
  have HG := Lib.hid hg
  clear hc hg
  unfold hintsA
  have HN := Lib.hid (And.intro N1 (And.intro N2 (And.intro N3 (And.intro N4 (And.intro N5 N9)))))
  clear N1 N2 N3 N4 N5 N9
  by_cases h6 : byN s (fu5 s).pos = 84
  · have e6 : fu6 s = (fu5 s).next := if_pos h6
    have N6 := Lib.hid (fun W h => take_yes s B (fu5 s) 84 W h h6 (by omega))
    rw [← e6] at N6
    clear e6 h6
    unfold cPtr at *
    go_enter Tryd.func32, Tryd.ntmps32
    have ST0 := Lib.hid (St.start HC.out ref year zone first)
    go_wp2_with fail
    refine (HN.out.1 _ ST0.out.c).mono ?_
    rintro e w1 ⟨rfl, h1, k1⟩
    have ST1 := Lib.hid (ST0.out.step h1 k1)
    clear h1 k1
    have a1 := ST1.out.dcell.1
    have f1 := ST1.out.d.free 0
    have SU1 := Lib.hid (ST1.out.s0 (numC s 0 4))
    go_wp2_with fail
    refine (HN.out.2.1 _ SU1.out.c).mono ?_
    rintro e w2 ⟨rfl, h2, k2⟩
    have ST2 := Lib.hid (SU1.out.step h2 k2)
    clear h2 k2
    clear a1 f1
    go_wp2_with fail
    refine (HN.out.2.2.1 _ ST2.out.c).mono ?_
    rintro e w3 ⟨rfl, h3, k3⟩
    have ST3 := Lib.hid (ST2.out.step h3 k3)
    clear h3 k3
    have a3 := ST3.out.dcell.2.1
    have f3 := ST3.out.d.free 1
    have SU3 := Lib.hid (ST3.out.s1 (numC s (fu2 s).pos 2))
    go_wp2_with fail
    refine (HN.out.2.2.2.1 _ SU3.out.c).mono ?_
    rintro e w4 ⟨rfl, h4, k4⟩
    have ST4 := Lib.hid (SU3.out.step h4 k4)
    clear h4 k4
    clear a3 f3
    go_wp2_with fail
    refine (HN.out.2.2.2.2.1 _ ST4.out.c).mono ?_
    rintro e w5 ⟨rfl, h5, k5⟩
    have ST5 := Lib.hid (ST4.out.step h5 k5)
    clear h5 k5
    have a5 := ST5.out.dcell.2.2.1
    have f5 := ST5.out.d.free 2
    have SU5 := Lib.hid (ST5.out.s2 (numC s (fu4 s).pos 2))
    go_wp2_with fail
    refine (N6.out _ SU5.out.c).mono ?_
    rintro e w6 ⟨rfl, h6, k6⟩
    have ST6 := Lib.hid (SU5.out.step h6 k6)
    clear h6 k6
    clear a5 f5
    go_wp2_with fail
    refine (ST6.out.clock).mono ?_
    rintro e w7 ⟨rfl, h7⟩
    have ST7 := Lib.hid h7
    clear h7
    have hz7 := ST7.out.hcell.2.2.1
    go_wp2_with fail
    refine (HN.out.2.2.2.2.2 _ ST7.out.c).mono ?_
    rintro e w8 ⟨rfl, h8, k8⟩
    have ST8 := Lib.hid (ST7.out.step h8 k8)
    clear h8 k8
    clear hz7
    have SZ := Lib.hid (show St s B (w.heap.size + 1) w.heap.size (fu8 s) (fuD s) (hintsA ref year zone first) w w8 from ST8.out)
    have hb2 := SZ.out.c.parts.2.2.1
    have hm := mil_any (fuD s) (fuZ s zone)
    cases hbad : (fu8 s).bad with
    | true =>
      rw [hbad] at hb2
      have HV := Lib.hid (show fuV s zone = 0 ∧ fuE s zone = 20 from ⟨if_pos hbad, if_pos hbad⟩)
      clear hm hbad
      go_wp2
      exact bodyPost_ret (v := .tuple #[.int .i64 0, .int .i64 20]) (by simp [results, Tryd.results32, go_sem]) rfl ⟨rt_ii HV.out.1.symm HV.out.2.symm, ⟨_, SZ.out.c⟩, SZ.out.f⟩
    | false =>
      rw [hbad] at hb2
      have hvv : fuV s zone = (fuD s).mV (fuZ s zone) ∧ fuE s zone = (fuD s).mE (fuZ s zone) := ⟨if_neg (by rw [hbad]; simp), if_neg (by rw [hbad]; simp)⟩
      obtain ⟨d0, d1, d2, d3, d4, d5, d6⟩ := SZ.out.dcell
      have hT := (SZ.out.glob HG.out).days
      have hv : zoneV s (fu7 s) zone = fuZ s zone := rfl
      rw [hv]
      obtain ⟨X, hX⟩ : ∃ X, fuD s = X := ⟨_, rfl⟩
      rw [hX] at hm d0 d1 d2 d3 d4 d5 d6 hvv
      obtain ⟨zz, hzz⟩ : ∃ zz, fuZ s zone = zz := ⟨_, rfl⟩
      rw [hzz] at hm hvv ⊢
      have HV := Lib.hid hvv
      have HM := Lib.hid (fun W h => hm W h)
      have HT := Lib.hid hT
      clear hm hT hX hv hzz hbad hvv
      go_wp2_with fail
      refine (HM.out _ HT.out).mono ?_
      rintro e wm ⟨rfl, hbm⟩
      go_wp2
      exact bodyPost_ret (v := .tuple #[.int .i64 (X.mV zz), .int .i64 (X.mE zz)]) (by simp [results, Tryd.results32, go_sem]) rfl ⟨rt_ii HV.out.1.symm HV.out.2.symm, ⟨_, SZ.out.c.below hbm⟩, SZ.out.f.below hbm⟩
  · have e6 : fu6 s = expectC s (fu5 s) 32 := if_neg h6
    have N6 := Lib.hid (fun W h => take_no s B (fu5 s) 84 W h h6)
    have N7 := Lib.hid (fun W h => expect_any s B (fu5 s) 32 (by omega) W h)
    rw [← e6] at N7
    clear e6 h6
    unfold cPtr at *
    go_enter Tryd.func32, Tryd.ntmps32
    have ST0 := Lib.hid (St.start HC.out ref year zone first)
    go_wp2_with fail
    refine (HN.out.1 _ ST0.out.c).mono ?_
    rintro e w1 ⟨rfl, h1, k1⟩
    have ST1 := Lib.hid (ST0.out.step h1 k1)
    clear h1 k1
    have a1 := ST1.out.dcell.1
    have f1 := ST1.out.d.free 0
    have SU1 := Lib.hid (ST1.out.s0 (numC s 0 4))
    go_wp2_with fail
    refine (HN.out.2.1 _ SU1.out.c).mono ?_
    rintro e w2 ⟨rfl, h2, k2⟩
    have ST2 := Lib.hid (SU1.out.step h2 k2)
    clear h2 k2
    clear a1 f1
    go_wp2_with fail
    refine (HN.out.2.2.1 _ ST2.out.c).mono ?_
    rintro e w3 ⟨rfl, h3, k3⟩
    have ST3 := Lib.hid (ST2.out.step h3 k3)
    clear h3 k3
    have a3 := ST3.out.dcell.2.1
    have f3 := ST3.out.d.free 1
    have SU3 := Lib.hid (ST3.out.s1 (numC s (fu2 s).pos 2))
    go_wp2_with fail
    refine (HN.out.2.2.2.1 _ SU3.out.c).mono ?_
    rintro e w4 ⟨rfl, h4, k4⟩
    have ST4 := Lib.hid (SU3.out.step h4 k4)
    clear h4 k4
    clear a3 f3
    go_wp2_with fail
    refine (HN.out.2.2.2.2.1 _ ST4.out.c).mono ?_
    rintro e w5 ⟨rfl, h5, k5⟩
    have ST5 := Lib.hid (ST4.out.step h5 k5)
    clear h5 k5
    have a5 := ST5.out.dcell.2.2.1
    have f5 := ST5.out.d.free 2
    have SU5 := Lib.hid (ST5.out.s2 (numC s (fu4 s).pos 2))
    go_wp2_with fail
    refine (N6.out _ SU5.out.c).mono ?_
    rintro e w6 ⟨rfl, h6, k6⟩
    have ST6 := Lib.hid (SU5.out.step h6 k6)
    clear h6 k6
    clear a5 f5
    go_wp2_with fail
    refine (N7.out _ ST6.out.c).mono ?_
    rintro e w7 ⟨rfl, h7, k7⟩
    have ST7 := Lib.hid (ST6.out.step h7 k7)
    clear h7 k7
    go_wp2_with fail
    refine (ST7.out.clock).mono ?_
    rintro e w8 ⟨rfl, h8⟩
    have ST8 := Lib.hid h8
    clear h8
    have hz8 := ST8.out.hcell.2.2.1
    go_wp2_with fail
    refine (HN.out.2.2.2.2.2 _ ST8.out.c).mono ?_
    rintro e w9 ⟨rfl, h9, k9⟩
    have ST9 := Lib.hid (ST8.out.step h9 k9)
    clear h9 k9
    clear hz8
    have SZ := Lib.hid (show St s B (w.heap.size + 1) w.heap.size (fu8 s) (fuD s) (hintsA ref year zone first) w w9 from ST9.out)
    have hb2 := SZ.out.c.parts.2.2.1
    have hm := mil_any (fuD s) (fuZ s zone)
    cases hbad : (fu8 s).bad with
    | true =>
      rw [hbad] at hb2
      have HV := Lib.hid (show fuV s zone = 0 ∧ fuE s zone = 20 from ⟨if_pos hbad, if_pos hbad⟩)
      clear hm hbad
      go_wp2
      exact bodyPost_ret (v := .tuple #[.int .i64 0, .int .i64 20]) (by simp [results, Tryd.results32, go_sem]) rfl ⟨rt_ii HV.out.1.symm HV.out.2.symm, ⟨_, SZ.out.c⟩, SZ.out.f⟩
    | false =>
      rw [hbad] at hb2
      have hvv : fuV s zone = (fuD s).mV (fuZ s zone) ∧ fuE s zone = (fuD s).mE (fuZ s zone) := ⟨if_neg (by rw [hbad]; simp), if_neg (by rw [hbad]; simp)⟩
      obtain ⟨d0, d1, d2, d3, d4, d5, d6⟩ := SZ.out.dcell
      have hT := (SZ.out.glob HG.out).days
      have hv : zoneV s (fu7 s) zone = fuZ s zone := rfl
      rw [hv]
      obtain ⟨X, hX⟩ : ∃ X, fuD s = X := ⟨_, rfl⟩
      rw [hX] at hm d0 d1 d2 d3 d4 d5 d6 hvv
      obtain ⟨zz, hzz⟩ : ∃ zz, fuZ s zone = zz := ⟨_, rfl⟩
      rw [hzz] at hm hvv ⊢
      have HV := Lib.hid hvv
      have HM := Lib.hid (fun W h => hm W h)
      have HT := Lib.hid hT
      clear hm hT hX hv hzz hbad hvv
      go_wp2_with fail
      refine (HM.out _ HT.out).mono ?_
      rintro e wm ⟨rfl, hbm⟩
      go_wp2
      exact bodyPost_ret (v := .tuple #[.int .i64 (X.mV zz), .int .i64 (X.mE zz)]) (by simp [results, Tryd.results32, go_sem]) rfl ⟨rt_ii HV.out.1.symm HV.out.2.symm, ⟨_, SZ.out.c.below hbm⟩, SZ.out.f.below hbm⟩
end Go.Proofs.YtpbfgafkoodeoaaDoor

namespace Go.Proofs.YtpbfgafkoodeoaaDoor
open Go.RowKit

def sy1 (s : ByteArray) : CS := monthC s ⟨0, false⟩
def sy2 (s : ByteArray) : CS := expectC s (sy1 s) 32
def sy3 (s : ByteArray) : CS := takeC s (sy2 s) 32
def sy4 (s : ByteArray) : CS := digitsC s (sy3 s) 1 2
def sy5 (s : ByteArray) : CS := expectC s (sy4 s) 32
def sy6 (s : ByteArray) : CS := clockC s (sy5 s)
def syD (s : ByteArray) (y : Int) : D7 := ⟨y, (cmonN s ⟨0, false⟩ : Nat), (numC s (sy3 s).pos 2 : Nat), (clkH s (sy5 s) : Nat), (clkI s (sy5 s) : Nat), (clkS s (sy5 s) : Nat), (clkM s (sy5 s) : Nat)⟩
noncomputable def syV (s : ByteArray) (ref year z : Int) : Int := if (sy6 s).bad = true then 0 else if year = 0 then (neB (syD s 0) ref z).1 else (syD s year).mV z
noncomputable def syE (s : ByteArray) (ref year z : Int) : Int := if (sy6 s).bad = true then 20 else if year = 0 then (neB (syD s 0) ref z).2 else (syD s year).mE z

set_option maxRecDepth 100000 in
set_option maxHeartbeats 8000000 in
theorem syslog_any (s : ByteArray) (B : Nat) (ref year zone : Int) (first : Bool) (w : World) (hc : CAt s B ⟨0, false⟩ w) (hg : Glob B w) :
    Calls Tryd.prog 33 #[cPtr B, .agg (hintsA ref year zone first)] w (FmOut s B (syV s ref year zone) (syE s ref year zone) (sy6 s).pos w) := by
  have N1 := fun W (h : CAt s B ⟨0, false⟩ W) (hm : MonT W) => cmonth_any s B ⟨0, false⟩ W h hm hg.nm
  have N2 := fun W h => expect_any s B (sy1 s) 32 (by omega) W h
  have N3 := fun W h => take_any s B (sy2 s) 32 (by omega) W h
  have N4 := fun W h => cnumber_any s B (sy3 s) 1 2 (by omega) (by omega) W h
  have N5 := fun W h => expect_any s B (sy4 s) 32 (by omega) W h
  have HC := Lib.hid hc
  have HG := Lib.hid hg
  clear hc hg
  unfold hintsA
  have HN := Lib.hid (And.intro N1 (And.intro N2 (And.intro N3 (And.intro N4 N5))))
  clear N1 N2 N3 N4 N5
  unfold cPtr at *
  go_enter Tryd.func33, Tryd.ntmps33
  have ST0 := Lib.hid (St.start HC.out ref year zone first)
  go_wp2_with fail
  refine (HN.out.1 _ ST0.out.c (ST0.out.glob HG.out).mon).mono ?_
  rintro e w1 ⟨rfl, h1, k1⟩
  have ST1 := Lib.hid (ST0.out.step h1 k1)
  clear h1 k1
  have a1 := ST1.out.dcell.2.1
  have f1 := ST1.out.d.free 1
  have SU1 := Lib.hid (ST1.out.s1 (cmonN s ⟨0, false⟩))
  go_wp2_with fail
  refine (HN.out.2.1 _ SU1.out.c).mono ?_
  rintro e w2 ⟨rfl, h2, k2⟩
  have ST2 := Lib.hid (SU1.out.step h2 k2)
  clear h2 k2
  clear a1 f1
  go_wp2_with fail
  refine (HN.out.2.2.1 _ ST2.out.c).mono ?_
  rintro e w3 ⟨rfl, h3, k3⟩
  have ST3 := Lib.hid (ST2.out.step h3 k3)
  clear h3 k3
  go_wp2_with fail
  refine (HN.out.2.2.2.1 _ ST3.out.c).mono ?_
  rintro e w4 ⟨rfl, h4, k4⟩
  have ST4 := Lib.hid (ST3.out.step h4 k4)
  clear h4 k4
  have a4 := ST4.out.dcell.2.2.1
  have f4 := ST4.out.d.free 2
  have SU4 := Lib.hid (ST4.out.s2 (numC s (sy3 s).pos 2))
  go_wp2_with fail
  refine (HN.out.2.2.2.2 _ SU4.out.c).mono ?_
  rintro e w5 ⟨rfl, h5, k5⟩
  have ST5 := Lib.hid (SU4.out.step h5 k5)
  clear h5 k5
  clear a4 f4
  go_wp2_with fail
  refine (ST5.out.clock).mono ?_
  rintro e w6 ⟨rfl, h6⟩
  have ST6 := Lib.hid h6
  clear h6
  have SZ := Lib.hid (show St s B (w.heap.size + 1) w.heap.size (sy6 s) (syD s 0) (hintsA ref year zone first) w w6 from ST6.out)
  have hb2 := SZ.out.c.parts.2.2.1
  cases hbad : (sy6 s).bad with
  | true =>
    rw [hbad] at hb2
    have HV := Lib.hid (show syV s ref year zone = 0 ∧ syE s ref year zone = 20 from ⟨if_pos hbad, if_pos hbad⟩)
    clear hbad
    go_wp2
    exact bodyPost_ret (v := .tuple #[.int .i64 0, .int .i64 20]) (by simp [results, Tryd.results33, go_sem]) rfl ⟨rt_ii HV.out.1.symm HV.out.2.symm, ⟨_, SZ.out.c⟩, SZ.out.f⟩
  | false =>
    rw [hbad] at hb2
    obtain ⟨d0, d1, d2, d3, d4, d5, d6⟩ := SZ.out.dcell
    obtain ⟨i0, i1, i2, i3⟩ := SZ.out.hcell
    have hT := (SZ.out.glob HG.out).days
    by_cases hy : year = 0
    · have hvv : syV s ref year zone = (neB (syD s 0) ref zone).1 ∧ syE s ref year zone = (neB (syD s 0) ref zone).2 := ⟨by unfold syV; rw [hbad, if_neg (by simp), if_pos hy], by unfold syE; rw [hbad, if_neg (by simp), if_pos hy]⟩
      have hm := fun W h => nearest_any (syD s 0) ref zone W h
      obtain ⟨X, hX⟩ : ∃ X, syD s 0 = X := ⟨_, rfl⟩
      rw [hX] at hm d0 d1 d2 d3 d4 d5 d6 hvv
      rw [hy] at i1
      obtain ⟨⟨nv, ne⟩, hN⟩ : ∃ p, neB X ref zone = p := ⟨_, rfl⟩
      rw [hN] at hm hvv
      simp only at hm hvv
      have HM := Lib.hid (And.intro hm hT)
      have HV := Lib.hid hvv
      clear hm hT hX hN hvv hbad
      go_wp2_with fail
      refine (HM.out.1 _ HM.out.2).mono ?_
      rintro e wm ⟨rfl, hbm⟩
      go_wp2
      exact bodyPost_ret (v := .tuple #[.int .i64 nv, .int .i64 ne]) (by simp [results, Tryd.results33, go_sem]) rfl ⟨rt_ii HV.out.1.symm HV.out.2.symm, ⟨_, SZ.out.c.below hbm⟩, SZ.out.f.below hbm⟩
    · have hvv : syV s ref year zone = (syD s year).mV zone ∧ syE s ref year zone = (syD s year).mE zone := ⟨by unfold syV; rw [hbad, if_neg (by simp), if_neg hy], by unfold syE; rw [hbad, if_neg (by simp), if_neg hy]⟩
      have hm := fun W h => mil_any (syD s year) zone W h
      have e0 : (year == 0) = false := by rw [beq_eq_false_iff_ne]; exact hy
      have f0 := SZ.out.d.free 0
      have SY := Lib.hid (show St s B (w.heap.size + 1) w.heap.size (sy6 s) (syD s year) (hintsA ref year zone first) w _ from SZ.out.s0 year)
      have hT2 := (SY.out.glob HG.out).days
      have hX : ∃ a b c d f g, syD s year = ⟨year, a, b, c, d, f, g⟩ ∧ syD s 0 = ⟨0, a, b, c, d, f, g⟩ := ⟨_, _, _, _, _, _, rfl, rfl⟩
      obtain ⟨xa, xb, xc, xd, xf, xg, hX1, hX2⟩ := hX
      rw [hX1] at hm hvv
      rw [hX2] at d0 d1 d2 d3 d4 d5 d6
      simp only at hm d0 d1 d2 d3 d4 d5 d6
      obtain ⟨zv, hzv⟩ : ∃ v, D7.mV ⟨year, xa, xb, xc, xd, xf, xg⟩ zone = v := ⟨_, rfl⟩
      obtain ⟨ze, hze⟩ : ∃ v, D7.mE ⟨year, xa, xb, xc, xd, xf, xg⟩ zone = v := ⟨_, rfl⟩
      rw [hzv, hze] at hm hvv
      have HM := Lib.hid (And.intro hm hT2)
      have HV := Lib.hid hvv
      have hne : w.heap.size ≠ w.heap.size + 1 := by omega
      clear hm hT hT2 hX1 hX2 hzv hze hvv hbad hy
      go_wp2_with fail
      refine (HM.out.1 _ HM.out.2).mono ?_
      rintro e wm ⟨rfl, hbm⟩
      go_wp2
      exact bodyPost_ret (v := .tuple #[.int .i64 zv, .int .i64 ze]) (by simp [results, Tryd.results33, go_sem]) rfl ⟨rt_ii HV.out.1.symm HV.out.2.symm, ⟨_, SY.out.c.below hbm⟩, SY.out.f.below hbm⟩
end Go.Proofs.YtpbfgafkoodeoaaDoor
