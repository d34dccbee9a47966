/- The contracts of package calendar's and the reference's Check, Millis, Dates and Format at every input: both return the same. -/
import Derived.Test.YtofomlbhbbhdjaaDoorCalRf
import Derived.Test.YtofomlbhbbhdjaaDoorCalRk
namespace Go.Proofs.YtofomlbhbbhdjaaDoor
open Go.RowKit

open Classical in
noncomputable def chkE (y m d h i s c : Int) : Int := if chkOk y m d h i s c then 0 else 10
open Classical in
noncomputable def milV (y m d h i s c z : Int) : Int := if chkOk y m d h i s c ∧ isZ z ∧ isT (msOf y m d h i s c z) then msOf y m d h i s c z else 0
open Classical in
noncomputable def milE (y m d h i s c z : Int) : Int := if chkOk y m d h i s c then (if isZ z ∧ isT (msOf y m d h i s c z) then 0 else 2) else 10
def okT (ms z : Int) : Prop := isT ms ∧ isZ z ∧ isT (ms + z * 60000)
def isDay (k : Int) (t : Int × Int × Int) : Prop := Cal.valid t.1 t.2.1 t.2.2 ∧ Cal.num t.1 t.2.1 t.2.2 = k
open Classical in
noncomputable def civT (k : Int) : Int × Int × Int := if h : ∃ t, isDay k t then h.choose else (0, 0, 0)
theorem civT_is {k y m d : Int} (hv : Cal.valid y m d) (hn : Cal.num y m d = k) : civT k = (y, m, d) := by
  have h : ∃ t, isDay k t := ⟨(y, m, d), hv, hn⟩
  unfold civT
  rw [dif_pos h]
  obtain ⟨h1, h2⟩ := h.choose_spec
  obtain ⟨e1, e2, e3⟩ := Cal.num_inj h1 hv (h2.trans hn.symm)
  exact Prod.ext e1 (Prod.ext e2 e3)
def pOf (ms z : Int) : Int := ms + z * 60000 + 62135596800000
open Classical in
noncomputable def dV (ms z : Int) (f : Int → Int × Int × Int → Int) : Int := if okT ms z then f (pOf ms z) (civT (pOf ms z / 86400000 - 719162)) else 0
open Classical in
noncomputable def dE (ms z : Int) : Int := if okT ms z then 0 else 2
noncomputable def datesV (ms z : Int) : Value := .agg #[.int .i64 (dV ms z fun _ t => t.1), .int .i64 (dV ms z fun _ t => t.2.1), .int .i64 (dV ms z fun _ t => t.2.2), .int .i64 (dV ms z fun p _ => p / 3600000 % 24), .int .i64 (dV ms z fun p _ => p / 60000 % 60), .int .i64 (dV ms z fun p _ => p / 1000 % 60), .int .i64 (dV ms z fun p _ => p % 1000)]
open Classical in
noncomputable def fT (ms z : Int) : List UInt8 := if okT ms z then fmtL (civT (pOf ms z / 86400000 - 719162)).1 (civT (pOf ms z / 86400000 - 719162)).2.1 (civT (pOf ms z / 86400000 - 719162)).2.2 (pOf ms z) z else []

theorem datesV_yes {ms z y m d : Int} (h : okT ms z) (hv : Cal.valid y m d) (hn : Cal.num y m d = pOf ms z / 86400000 - 719162) : datesV ms z = dateV y m d (pOf ms z) ∧ dE ms z = 0 ∧ fT ms z = fmtL y m d (pOf ms z) z := by
  unfold datesV dV dE fT dateV
  rw [civT_is hv hn]
  simp only [if_pos h, and_self]
theorem datesV_no {ms z : Int} (h : ¬ okT ms z) : datesV ms z = zeroDate ∧ dE ms z = 2 ∧ fT ms z = [] := by
  unfold datesV dV dE fT zeroDate
  simp only [if_neg h, and_self]

theorem check_any (y m d h i s c : Int) (w : World) (hT : DaysT w) :
    Calls Tryd.prog 48 #[.agg #[.int .i64 y, .int .i64 m, .int .i64 d, .int .i64 h, .int .i64 i, .int .i64 s, .int .i64 c]] w fun e w' => e = .returned (.int .i64 (chkE y m d h i s c)) ∧ Below w.heap.size w w' := by
  unfold chkE
  by_cases H : chkOk y m d h i s c
  · rw [if_pos H]; exact check_yes y m d h i s c H w hT
  · rw [if_neg H]; exact check_no y m d h i s c H w hT
theorem millis_any (y m d h i s c z : Int) (w : World) (hT : DaysT w) :
    Calls Tryd.prog 21 #[.agg #[.int .i64 y, .int .i64 m, .int .i64 d, .int .i64 h, .int .i64 i, .int .i64 s, .int .i64 c], .int .i64 z] w fun e w' => e = .returned (.tuple #[.int .i64 (milV y m d h i s c z), .int .i64 (milE y m d h i s c z)]) ∧ Below w.heap.size w w' := by
  unfold milV milE
  by_cases H : chkOk y m d h i s c
  · by_cases hz : isZ z
    · by_cases ht : isT (msOf y m d h i s c z)
      · rw [if_pos H, if_pos ⟨H, hz, ht⟩, if_pos ⟨hz, ht⟩]; exact millis_yes y m d h i s c z H hz ht w hT
      · rw [if_pos H, if_neg (fun x => ht x.2.2), if_neg (fun x => ht x.2)]; exact millis_range y m d h i s c z H hz ht w hT
    · rw [if_pos H, if_neg (fun x => hz x.2.1), if_neg (fun x => hz x.1)]; exact millis_zone y m d h i s c z H hz w hT
  · rw [if_neg H, if_neg (fun x => H x.1)]; exact millis_no y m d h i s c z H w hT
theorem dates_any (ms z : Int) (w : World) (hT : DaysT w) :
    Calls Tryd.prog 19 #[.int .i64 ms, .int .i64 z] w fun e w' => e = .returned (.tuple #[datesV ms z, .int .i64 (dE ms z)]) ∧ Below w.heap.size w w' := by
  by_cases h : okT ms z
  · refine (dates_yes ms z h.1 h.2.1 h.2.2 w hT).mono fun e w' ⟨y, m, d, he, hv, hn, hb⟩ => ?_
    obtain ⟨e1, e2, -⟩ := datesV_yes h hv hn
    rw [e1, e2]; exact ⟨he, hb⟩
  · obtain ⟨e1, e2, -⟩ := datesV_no h
    rw [e1, e2]; exact dates_no ms z h w
theorem format_any (ms z : Int) (w : World) (hT : DaysT w) (hP : Pow10 w) :
    Calls Tryd.prog 18 #[.int .i64 ms, .int .i64 z] w fun e w' => e = .returned (.tuple #[.string ⟨(fT ms z).toArray⟩, .int .i64 (dE ms z)]) ∧ Below w.heap.size w w' := by
  by_cases h : okT ms z
  · refine (format_yes ms z h.1 h.2.1 h.2.2 w hT hP).mono fun e w' ⟨y, m, d, he, hv, hn, hb⟩ => ?_
    obtain ⟨-, e2, e3⟩ := datesV_yes h hv hn
    rw [e3, e2]; exact ⟨he, hb⟩
  · obtain ⟨-, e2, e3⟩ := datesV_no h
    rw [e3, e2]; exact format_no ms z h w

theorem rcheck_any (y m d h i s c : Int) (w : World) :
    Calls Tryd.prog 59 #[.agg #[.int .i64 y, .int .i64 m, .int .i64 d, .int .i64 h, .int .i64 i, .int .i64 s, .int .i64 c]] w fun e w' => e = .returned (.int .i64 (chkE y m d h i s c)) ∧ Below w.heap.size w w' := by
  unfold chkE
  by_cases H : chkOk y m d h i s c
  · rw [if_pos H]; exact rcheck_yes y m d h i s c H w
  · rw [if_neg H]; exact rcheck_no y m d h i s c H w
theorem rmillis_any (y m d h i s c z : Int) (w : World) :
    Calls Tryd.prog 27 #[.agg #[.int .i64 y, .int .i64 m, .int .i64 d, .int .i64 h, .int .i64 i, .int .i64 s, .int .i64 c], .int .i64 z] w fun e w' => e = .returned (.tuple #[.int .i64 (milV y m d h i s c z), .int .i64 (milE y m d h i s c z)]) ∧ Below w.heap.size w w' := by
  unfold milV milE
  by_cases H : chkOk y m d h i s c
  · by_cases hz : isZ z
    · by_cases ht : isT (msOf y m d h i s c z)
      · rw [if_pos H, if_pos ⟨H, hz, ht⟩, if_pos ⟨hz, ht⟩]; exact rmillis_yes y m d h i s c z H hz ht w
      · rw [if_pos H, if_neg (fun x => ht x.2.2), if_neg (fun x => ht x.2)]; exact rmillis_range y m d h i s c z H hz ht w
    · rw [if_pos H, if_neg (fun x => hz x.2.1), if_neg (fun x => hz x.1)]; exact rmillis_zone y m d h i s c z H hz w
  · rw [if_neg H, if_neg (fun x => H x.1)]; exact rmillis_no y m d h i s c z H w
theorem rdates_any (ms z : Int) (w : World) :
    Calls Tryd.prog 35 #[.int .i64 ms, .int .i64 z] w fun e w' => e = .returned (.tuple #[datesV ms z, .int .i64 (dE ms z)]) ∧ Below w.heap.size w w' := by
  by_cases h : okT ms z
  · refine (rdates_yes ms z h.1 h.2.1 h.2.2 w).mono fun e w' ⟨y, m, d, he, hv, hn, hb⟩ => ?_
    obtain ⟨e1, e2, -⟩ := datesV_yes h hv hn
    rw [e1, e2]; exact ⟨he, hb⟩
  · obtain ⟨e1, e2, -⟩ := datesV_no h
    rw [e1, e2]; exact rdates_no ms z h w
end Go.Proofs.YtofomlbhbbhdjaaDoor
