/- The contract of package calendar's Format. -/
import Derived.Test.YtofomlbhbbhdjaaDoorPadd
import Derived.Test.YtofomlbhbbhdjaaDoorCalDt
import Derived.Test.YtofomlbhbbhdjaaDoorBld
import Derived.Deep.RegionHeld3
namespace Go.Proofs.YtofomlbhbbhdjaaDoor
open Go.RowKit

theorem padL_len (v n : Nat) (hv : v ≤ 9999) (hn : n ≤ 4) : (padL v n).length ≤ 4 := by
  have hl := digits_len 3 v (by omega)
  unfold padL
  rw [List.length_append, List.length_replicate]; omega
theorem size_of (l : List UInt8) : (ByteArray.mk l.toArray).size = l.length := by simp [ByteArray.size]
/-- The date's text, the time's, the zone's. -/
def dayL (a b c : List UInt8) : List UInt8 := ((((a ++ [45]) ++ b) ++ [45]) ++ c) ++ [84]
def timeL (a b c d : List UInt8) : List UInt8 := (((((a ++ [58]) ++ b) ++ [58]) ++ c) ++ [46]) ++ d
def zoneP (sg : List UInt8) (a b : List UInt8) : List UInt8 := ((sg ++ a) ++ [58]) ++ b
def zoneL (z : Int) : List UInt8 :=
  if z = 0 then [90] else if 0 < z then zoneP [43] (padL (z / 60).toNat 2) (padL (z % 60).toNat 2) else zoneP [45] (padL ((-z) / 60).toNat 2) (padL ((-z) % 60).toNat 2)
def fmtL (y m d : Int) (p z : Int) : List UInt8 :=
  (dayL (padL y.toNat 4) (padL m.toNat 2) (padL d.toNat 2) ++ timeL (padL (p / 3600000 % 24).toNat 2) (padL (p / 60000 % 60).toNat 2) (padL (p / 1000 % 60).toNat 2) (padL (p % 1000).toNat 3)) ++ zoneL z

theorem padded2 (v : Nat) (hv : v ≤ 9999) (w : World) (hP : Pow10 w) :
    Calls Tryd.prog 40 #[.int .i64 v, .int .i64 2] w fun e w' => e = .returned (.string ⟨(padL v 2).toArray⟩) ∧ Below w.heap.size w w' := padded_any v 2 hv (by omega) (by omega) w hP
theorem padded3 (v : Nat) (hv : v ≤ 9999) (w : World) (hP : Pow10 w) :
    Calls Tryd.prog 40 #[.int .i64 v, .int .i64 3] w fun e w' => e = .returned (.string ⟨(padL v 3).toArray⟩) ∧ Below w.heap.size w w' := padded_any v 3 hv (by omega) (by omega) w hP
theorem padded4 (v : Nat) (hv : v ≤ 9999) (w : World) (hP : Pow10 w) :
    Calls Tryd.prog 40 #[.int .i64 v, .int .i64 4] w fun e w' => e = .returned (.string ⟨(padL v 4).toArray⟩) ∧ Below w.heap.size w w' := padded_any v 4 hv (by omega) (by omega) w hP

theorem rt_se {a b : List UInt8} {c : Int} (h : a = b) : Ending.returned (.tuple #[.string ⟨a.toArray⟩, .int .i64 c]) = .returned (.tuple #[.string ⟨b.toArray⟩, .int .i64 c]) := by rw [h]
theorem bd_new (w : World) : Bd w.heap.size w.heap.size [] (w.alloc (.cells #[.pointer none, .slice none 0 0] 83)) :=
  ⟨.pointer none, .inl rfl, Nat.le_refl _, .slice none 0 0, heap_alloc_new _ _, World.ownsRow_nil _ _ _ _, by simp [Value.ownBlock]⟩
theorem Bd.below {B b : Nat} {l : List UInt8} {w w' : World} (h : Bd B b l w) (hb : Below w.heap.size w w') : Bd B b l w' := by
  obtain ⟨p, hp, hB, v, hbk, hown, hne⟩ := h
  refine ⟨p, hp, hB, v, (hb.block b (Array.getElem?_eq_some_iff.1 hbk).1).trans hbk, ?_, hne⟩
  obtain ⟨h1, h2⟩ := hown
  refine ⟨h1, h2.imp id ?_⟩
  rintro ⟨g, cap, cur, hv, hg1, hg2, r⟩
  exact ⟨g, cap, cur, hv, hg1, (hb.block g (Array.getElem?_eq_some_iff.1 hg2).1).trans hg2, r⟩
theorem bldStrL (B b : Nat) (l m : List UInt8) (w : World) (h : Bd B b l w) (hlen : l.length ≤ 1000000) (hs : m.length ≤ 1000000) :
    Calls Tryd.prog 39 #[.pointer (some ⟨b, 0, none⟩), .string ⟨m.toArray⟩] w fun e w' => (∃ r, e = .returned (.tuple r)) ∧ BOut B b (l ++ m) w w' := by
  have := bldStr B b l ⟨m.toArray⟩ w h hlen (by rw [size_of]; exact hs)
  simpa using this
theorem bldZ (B b : Nat) (l : List UInt8) (w : World) (h : Bd B b l w) (hlen : l.length ≤ 1000000) :
    Calls Tryd.prog 42 #[.pointer (some ⟨b, 0, none⟩), .int .u8 90] w fun e w' => e = .returned .nilIface ∧ BOut B b (l ++ [90]) w w' := bldByte B b l 90 w h hlen
def FmtOut (p z : Int) (w : World) (e : Ending) (w' : World) : Prop := ∃ y m d, e = .returned (.tuple #[.string ⟨(fmtL y m d p z).toArray⟩, .int .i64 0]) ∧ Cal.valid y m d ∧ Cal.num y m d = p / 86400000 - 719162 ∧ Below w.heap.size w w'


set_option maxRecDepth 100000 in
set_option maxHeartbeats 4000000 in
theorem printZone_any (B b : Nat) (l sg : List UInt8) (z : Nat) (w : World) (h : Bd B b l w) (hB : B ≤ w.heap.size) (hlen : l.length ≤ 1000) (hsg : sg.length ≤ 2) (hz : z ≤ 1440) (hP : Pow10 w) :
    Calls Tryd.prog 41 #[.string ⟨sg.toArray⟩, .int .i64 z, .pointer (some ⟨b, 0, none⟩)] w fun e w' => e = .returned (.tuple #[]) ∧ Bd B b (l ++ zoneP sg (padL (z / 60) 2) (padL (z % 60) 2)) w' ∧ Below B w w' := by
  have l1 := padL_len (z / 60) 2 (by omega) (by omega)
  have l2 := padL_len (z % 60) 2 (by omega) (by omega)
  have e1 : (z : Int) / 60 = ((z / 60 : Nat) : Int) := by omega
  have e2 : (z : Int) % 60 = ((z % 60 : Nat) : Int) := by omega
  have p1 := padded2 (z / 60) (by omega) w hP
  have p2 := Lib.hid (fun W hW => padded2 (z % 60) (by omega) W hW)
  obtain ⟨A, hA⟩ : ∃ A, padL (z / 60) 2 = A := ⟨_, rfl⟩
  obtain ⟨C, hC⟩ : ∃ C, padL (z % 60) 2 = C := ⟨_, rfl⟩
  obtain ⟨q, hq⟩ : ∃ q, z / 60 = q := ⟨_, rfl⟩
  obtain ⟨r, hr⟩ : ∃ r, z % 60 = r := ⟨_, rfl⟩
  rw [hA] at p1 l1 ⊢
  rw [hC] at p2 l2 ⊢
  rw [hq] at e1 p1
  rw [hr] at e2 p2
  have P1 := Lib.hid p1
  have HH := Lib.hid (And.intro h hP)
  clear hA hC hq hr p1 h hP
  go_enter Tryd.func41, Tryd.ntmps41
  go_wp2_with fail
  refine (P1.out).mono ?_
  rintro e w1 ⟨rfl, hb1⟩
  have g1 : ¬ 9223372036854775807 < sg.length + A.length := by omega
  have g2 : ¬ 9223372036854775807 < sg.length + A.length + 1 := by omega
  have g3 : ¬ 9223372036854775807 < sg.length + A.length + 1 + C.length := by omega
  go_wp2_with fail
  refine (p2.out _ (pow_below HH.out.2 hb1)).mono ?_
  rintro e w2 ⟨rfl, hb2⟩
  have hb12 := hb1.trans (hb2.mono hb1.size)
  have hbd := HH.out.1.below hb12
  go_wp2_with fail
  rw [str_two, str_two, str_two]
  refine (bldStrL B b l _ _ hbd (by omega) (by simp only [List.length_append, List.length_cons, List.length_nil]; omega)).mono ?_
  rintro e w3 ⟨⟨r, rfl⟩, hbo⟩
  have HB := Lib.hid (And.intro hb12 hbo)
  clear hb1 hb2 hb12 hbd hbo
  go_wp2
  go_end0
  exact ⟨rfl, HB.out.2.1, (HB.out.1.mono hB).trans HB.out.2.2.1⟩

set_option maxRecDepth 100000 in
set_option linter.unusedSimpArgs false in
set_option maxHeartbeats 16000000 in
theorem format_yes (ms z : Int) (h1 : isT ms) (h2 : isZ z) (h3 : isT (ms + z * 60000)) (w : World) (hT : DaysT w) (hP : Pow10 w) :
    Calls Tryd.prog 18 #[.int .i64 ms, .int .i64 z] w (FmtOut (ms + z * 60000 + 62135596800000) z w) := by
  have hd := dates_yes ms z h1 h2 h3 w hT
  obtain ⟨b3, b4⟩ := h2
  obtain ⟨p, hp⟩ : ∃ p, ms + z * 60000 + 62135596800000 = p := ⟨_, rfl⟩
  have hp0 : 0 ≤ p := by have := h3.1; omega
  rw [hp] at hd ⊢
  have HD := Lib.hid hd
  have HP := Lib.hid hP
  clear hp hd h1 h3 hT hP
  obtain ⟨h, hh⟩ : ∃ n : Nat, p / 3600000 % 24 = n := ⟨(p / 3600000 % 24).toNat, by omega⟩
  obtain ⟨i, hi⟩ : ∃ n : Nat, p / 60000 % 60 = n := ⟨(p / 60000 % 60).toNat, by omega⟩
  obtain ⟨s, hs⟩ : ∃ n : Nat, p / 1000 % 60 = n := ⟨(p / 1000 % 60).toNat, by omega⟩
  obtain ⟨c, hc⟩ : ∃ n : Nat, p % 1000 = n := ⟨(p % 1000).toNat, by omega⟩
  have nh : h ≤ 9999 := by omega
  have ni : i ≤ 9999 := by omega
  have ns : s ≤ 9999 := by omega
  have nc : c ≤ 9999 := by omega
  have HF : Hid (∀ y m d : Nat, fmtL y m d p z = (dayL (padL y 4) (padL m 2) (padL d 2) ++ timeL (padL h 2) (padL i 2) (padL s 2) (padL c 3)) ++ zoneL z) := by
    intro y m d
    unfold fmtL
    rw [hh, hi, hs, hc]
    simp only [Int.toNat_natCast]
  have HH := Lib.hid (And.intro hh (And.intro hi (And.intro hs hc)))
  clear hh hi hs hc
  go_enter Tryd.func18, Tryd.ntmps18
  go_wp2_with fail
  refine (HD.out).mono ?_
  rintro e w1 ⟨y, m, d, rfl, hv, hn, hb1⟩
  obtain ⟨y, rfl⟩ : ∃ n : Nat, y = n := ⟨y.toNat, by have := hv.1; omega⟩
  obtain ⟨m, rfl⟩ : ∃ n : Nat, m = n := ⟨m.toNat, by have := hv.2.2.1; omega⟩
  obtain ⟨d, rfl⟩ : ∃ n : Nat, d = n := ⟨d.toNat, by have := hv.2.2.2.2.1; omega⟩
  have ny : y ≤ 9999 := by have := hv.2.1; omega
  have nm : m ≤ 9999 := by have := hv.2.2.2.1; omega
  have nd : d ≤ 9999 := by have := hv.2.2.2.2.2; have := (len_bd (y : Int) m).2; omega
  have HV := Lib.hid (And.intro hv (And.intro hn hb1))
  clear hv hn hb1
  unfold dateV
  rw [HH.out.1, HH.out.2.1, HH.out.2.2.1, HH.out.2.2.2]
  go_wp2
  have hX0 : DtAt w1.heap.size #[.int .i64 y, .int .i64 m, .int .i64 d, .int .i64 h, .int .i64 i, .int .i64 s, .int .i64 c] (w1.alloc (.cells #[.int .i64 y, .int .i64 m, .int .i64 d, .int .i64 h, .int .i64 i, .int .i64 s, .int .i64 c] 36)) := heap_alloc_new _ _
  have hX2 := bd_new (w1.alloc (.cells #[.int .i64 y, .int .i64 m, .int .i64 d, .int .i64 h, .int .i64 i, .int .i64 s, .int .i64 c] 36))
  have hX3 : Below w1.heap.size w1 (w1.alloc (.cells #[.int .i64 y, .int .i64 m, .int .i64 d, .int .i64 h, .int .i64 i, .int .i64 s, .int .i64 c] 36)) := (Below.refl _ _).alloc (Nat.le_refl _) _
  have hX4 : (w1.alloc (.cells #[.int .i64 y, .int .i64 m, .int .i64 d, .int .i64 h, .int .i64 i, .int .i64 s, .int .i64 c] 36)).heap.size = w1.heap.size + 1 := by simp
  obtain ⟨Y, hY⟩ : ∃ Y, w1.alloc (.cells #[.int .i64 y, .int .i64 m, .int .i64 d, .int .i64 h, .int .i64 i, .int .i64 s, .int .i64 c] 36) = Y := ⟨_, rfl⟩
  rw [hY] at hX0 hX2 hX3 hX4 ⊢
  have hX5 : Below Y.heap.size Y (Y.alloc (.cells #[.pointer none, .slice none 0 0] 83)) := (Below.refl _ _).alloc (Nat.le_refl _) _
  have hX6 := hX0.below hX5
  rw [hX4] at hX2
  obtain ⟨X, hX⟩ : ∃ X, Y.alloc (.cells #[.pointer none, .slice none 0 0] 83) = X := ⟨_, rfl⟩
  rw [hX] at hX2 hX5 hX6 ⊢
  have hX7 : Below w.heap.size w X := HV.out.2.2.trans ((hX3.trans (hX5.mono hX3.size)).mono HV.out.2.2.size)
  have hX8 := pow_below HP.out hX7
  obtain ⟨D, hD⟩ : ∃ D, w1.heap.size = D := ⟨_, rfl⟩
  have hlo : w.heap.size ≤ D := by have := HV.out.2.2.size; omega
  rw [hD] at hX2 hX6 ⊢
  have hXB := hX2.lt
  have HX := Lib.hid (And.intro hX2 (And.intro hX6 (And.intro hX7 hX8)))
  clear hX0 hX2 hX3 hX4 hX5 hX6 hX7 hX8 hX hY hD
  have l1 := padL_len y 4 ny (by omega)
  have l2 := padL_len m 2 nm (by omega)
  have l3 := padL_len d 2 nd (by omega)
  refine wp_region_held_drew (S := DtAt D #[.int .i64 y, .int .i64 m, .int .i64 d, .int .i64 h, .int .i64 i, .int .i64 s, .int .i64 c]) (by kernel_rfl) (show _ from HX.out.2.1) (fun hHeld => ?_)
  refine wpAnyH_take (i := 0) (v := ?v0a) rfl (by kernel_rfl) (by kernel_rfl) (by kernel_rfl) (fun _ _ _ h => h) (Or.inl ⟨by rfl, fun w' hSw => ?y0a⟩) (by assumption) ?r0a
  case y0a =>
    go_simp
    try with_reducible rfl
  try simp only [Act.put, List.setIfInBounds_toArray, List.set_cons_zero, List.set_cons_succ]
  refine wpAnyH_take (i := 1) (v := ?v1a) rfl (by kernel_rfl) (by kernel_rfl) (by kernel_rfl) (fun _ _ _ h => h) (Or.inl ⟨by rfl, fun w' hSw => ?y1a⟩) (by assumption) ?r1a
  case y1a =>
    have a0 := DtAt.cell hSw 0
    simp only [List.getElem?_toArray, List.getElem?_cons_zero, List.getElem?_cons_succ] at a0
    go_simp
    try with_reducible rfl
  try simp only [Act.put, List.setIfInBounds_toArray, List.set_cons_zero, List.set_cons_succ]
  refine wpAnyH_take (i := 4) (v := ?v4a) rfl (by kernel_rfl) (by kernel_rfl) (by kernel_rfl) (fun _ _ _ h => h) (Or.inl ⟨by rfl, fun w' hSw => ?y4a⟩) (by assumption) ?r4a
  case y4a =>
    go_simp
    try with_reducible rfl
  try simp only [Act.put, List.setIfInBounds_toArray, List.set_cons_zero, List.set_cons_succ]
  refine wpAnyH_take (i := 5) (v := ?v5a) rfl (by kernel_rfl) (by kernel_rfl) (by kernel_rfl) (fun _ _ _ h => h) (Or.inl ⟨by rfl, fun w' hSw => ?y5a⟩) (by assumption) ?r5a
  case y5a =>
    have a0 := DtAt.cell hSw 1
    simp only [List.getElem?_toArray, List.getElem?_cons_zero, List.getElem?_cons_succ] at a0
    go_simp
    try with_reducible rfl
  try simp only [Act.put, List.setIfInBounds_toArray, List.set_cons_zero, List.set_cons_succ]
  refine wpAnyH_take (i := 9) (v := ?v9a) rfl (by kernel_rfl) (by kernel_rfl) (by kernel_rfl) (fun _ _ _ h => h) (Or.inl ⟨by rfl, fun w' hSw => ?y9a⟩) (by assumption) ?r9a
  case y9a =>
    go_simp
    try with_reducible rfl
  try simp only [Act.put, List.setIfInBounds_toArray, List.set_cons_zero, List.set_cons_succ]
  refine wpAnyH_take (i := 10) (v := ?v10a) rfl (by kernel_rfl) (by kernel_rfl) (by kernel_rfl) (fun _ _ _ h => h) (Or.inl ⟨by rfl, fun w' hSw => ?y10a⟩) (by assumption) ?r10a
  case y10a =>
    have a0 := DtAt.cell hSw 2
    simp only [List.getElem?_toArray, List.getElem?_cons_zero, List.getElem?_cons_succ] at a0
    go_simp
    try with_reducible rfl
  try simp only [Act.put, List.setIfInBounds_toArray, List.set_cons_zero, List.set_cons_succ]
  refine wpAnyH_ready (rs := [2]) (by kernel_rfl) (by simp) (AllReadyH.cons rfl (fun K hK => ?_) AllReadyH.nil)
  go_simp
  go_wp2_with (go_at_call 40; refine (padded4 y ny _ (pow_below HX.out.2.2.2 (show Below X.heap.size X X.drew from (Below.refl _ X).drew))).mono ?_; rintro e U1 ⟨rfl, hq⟩)
  have HU1 := Lib.hid (show Below X.heap.size X U1 from (show Below X.heap.size X X.drew from (Below.refl _ X).drew).trans (hq.mono (show Below X.heap.size X X.drew from (Below.refl _ X).drew).size))
  clear hq
  refine hK.out _ _ (show DtAt _ _ _ from HX.out.2.1.below HU1.out) (fun hHeldU1 => ?_)
  clear hK K
  try simp only [Act.put, List.setIfInBounds_toArray, List.set_cons_zero, List.set_cons_succ]
  refine wpAnyH_take (i := 3) (v := .string ⟨(padL y 4 ++ [45]).toArray⟩) rfl (by kernel_rfl) (by kernel_rfl) (by kernel_rfl) (fun _ _ _ h => h) (Or.inl ⟨by rfl, fun w' hSw => ?y3a⟩) (by assumption) ?r3a
  case y3a =>
    go_simp
    rw [if_neg (by first | omega | (simp only [List.length_append, List.length_cons, List.length_nil]; omega))]
    exact congrArg (fun x => Result.ok (Next.value (Value.string x)) w') ((str_two _ _).trans (by simp))
  try simp only [Act.put, List.setIfInBounds_toArray, List.set_cons_zero, List.set_cons_succ]
  refine wpAnyH_ready (rs := [6]) (by kernel_rfl) (by simp) (AllReadyH.cons rfl (fun K hK => ?_) AllReadyH.nil)
  go_simp
  go_wp2_with (go_at_call 40; refine (padded2 m nm _ (pow_below HX.out.2.2.2 (HU1.out))).mono ?_; rintro e U2 ⟨rfl, hq⟩)
  have HU2 := Lib.hid (show Below X.heap.size X U2 from (HU1.out).trans (hq.mono (HU1.out).size))
  clear hq
  refine hK.out _ _ (show DtAt _ _ _ from HX.out.2.1.below HU2.out) (fun hHeldU2 => ?_)
  clear hK K
  try simp only [Act.put, List.setIfInBounds_toArray, List.set_cons_zero, List.set_cons_succ]
  refine wpAnyH_take (i := 7) (v := .string ⟨((padL y 4 ++ [45]) ++ padL m 2).toArray⟩) rfl (by kernel_rfl) (by kernel_rfl) (by kernel_rfl) (fun _ _ _ h => h) (Or.inl ⟨by rfl, fun w' hSw => ?y7a⟩) (by assumption) ?r7a
  case y7a =>
    go_simp
    rw [if_neg (by first | omega | (simp only [List.length_append, List.length_cons, List.length_nil]; omega))]
    exact congrArg (fun x => Result.ok (Next.value (Value.string x)) w') ((str_two _ _).trans (by simp))
  try simp only [Act.put, List.setIfInBounds_toArray, List.set_cons_zero, List.set_cons_succ]
  refine wpAnyH_take (i := 8) (v := .string ⟨(((padL y 4 ++ [45]) ++ padL m 2) ++ [45]).toArray⟩) rfl (by kernel_rfl) (by kernel_rfl) (by kernel_rfl) (fun _ _ _ h => h) (Or.inl ⟨by rfl, fun w' hSw => ?y8a⟩) (by assumption) ?r8a
  case y8a =>
    go_simp
    rw [if_neg (by first | omega | (simp only [List.length_append, List.length_cons, List.length_nil]; omega))]
    exact congrArg (fun x => Result.ok (Next.value (Value.string x)) w') ((str_two _ _).trans (by simp))
  try simp only [Act.put, List.setIfInBounds_toArray, List.set_cons_zero, List.set_cons_succ]
  refine wpAnyH_ready (rs := [11]) (by kernel_rfl) (by simp) (AllReadyH.cons rfl (fun K hK => ?_) AllReadyH.nil)
  go_simp
  go_wp2_with (go_at_call 40; refine (padded2 d nd _ (pow_below HX.out.2.2.2 (HU2.out))).mono ?_; rintro e U3 ⟨rfl, hq⟩)
  have HU3 := Lib.hid (show Below X.heap.size X U3 from (HU2.out).trans (hq.mono (HU2.out).size))
  clear hq
  refine hK.out _ _ (show DtAt _ _ _ from HX.out.2.1.below HU3.out) (fun hHeldU3 => ?_)
  clear hK K
  try simp only [Act.put, List.setIfInBounds_toArray, List.set_cons_zero, List.set_cons_succ]
  refine wpAnyH_take (i := 12) (v := .string ⟨((((padL y 4 ++ [45]) ++ padL m 2) ++ [45]) ++ padL d 2).toArray⟩) rfl (by kernel_rfl) (by kernel_rfl) (by kernel_rfl) (fun _ _ _ h => h) (Or.inl ⟨by rfl, fun w' hSw => ?y12a⟩) (by assumption) ?r12a
  case y12a =>
    go_simp
    rw [if_neg (by first | omega | (simp only [List.length_append, List.length_cons, List.length_nil]; omega))]
    exact congrArg (fun x => Result.ok (Next.value (Value.string x)) w') ((str_two _ _).trans (by simp))
  try simp only [Act.put, List.setIfInBounds_toArray, List.set_cons_zero, List.set_cons_succ]
  refine wpAnyH_take (i := 13) (v := .string ⟨(((((padL y 4 ++ [45]) ++ padL m 2) ++ [45]) ++ padL d 2) ++ [84]).toArray⟩) rfl (by kernel_rfl) (by kernel_rfl) (by kernel_rfl) (fun _ _ _ h => h) (Or.inl ⟨by rfl, fun w' hSw => ?y13a⟩) (by assumption) ?r13a
  case y13a =>
    go_simp
    rw [if_neg (by first | omega | (simp only [List.length_append, List.length_cons, List.length_nil]; omega))]
    exact congrArg (fun x => Result.ok (Next.value (Value.string x)) w') ((str_two _ _).trans (by simp))
  try simp only [Act.put, List.setIfInBounds_toArray, List.set_cons_zero, List.set_cons_succ]
  refine wpAnyH_ready (rs := [14]) (by kernel_rfl) (by simp) (AllReadyH.cons rfl (fun K hK => ?_) AllReadyH.nil)
  go_simp
  go_wp2_with (go_at_call 39; refine (bldStrL (D + 1) (D + 1) [] _ _ (Bd.below HX.out.1 HU3.out) (by simp) (by simp only [List.length_append, List.length_cons, List.length_nil]; omega)).mono ?_; rintro e U4 ⟨⟨r, rfl⟩, hbo⟩)
  have HU4 := Lib.hid hbo
  clear hbo
  have hdt4 : DtAt D #[.int .i64 y, .int .i64 m, .int .i64 d, .int .i64 h, .int .i64 i, .int .i64 s, .int .i64 c] U4 := (HU4.out.2.1.block D (by omega)).trans (HX.out.2.1.below HU3.out)
  refine hK.out _ _ (show DtAt _ _ _ from hdt4) (fun hHeldU4 => ?_)
  clear hK K
  try simp only [Act.put, List.setIfInBounds_toArray, List.set_cons_zero, List.set_cons_succ]
  refine wpAnyH_done (by kernel_rfl) ?_ _
  have hZ1 := HU4.out.1
  rw [List.nil_append] at hZ1
  have hZ3 : Below w.heap.size w U4 := (HX.out.2.2.1.trans (HU3.out.mono HX.out.2.2.1.size)).trans (HU4.out.2.1.mono (by omega))
  have hZ4 := pow_below HP.out hZ3
  have hL1 : padL y 4 ++ 45 :: (padL m 2 ++ 45 :: (padL d 2 ++ [84])) = dayL (padL y 4) (padL m 2) (padL d 2) := by simp [dayL]
  rw [hL1] at hZ1
  have lL : (dayL (padL y 4) (padL m 2) (padL d 2)).length ≤ 20 := by unfold dayL; simp only [List.length_append, List.length_cons, List.length_nil]; omega
  obtain ⟨L, hL⟩ : ∃ L, dayL (padL y 4) (padL m 2) (padL d 2) = L := ⟨_, rfl⟩
  rw [hL] at hZ1 lL
  have HL := Lib.hid hL
  have hlo4 : w.heap.size ≤ D + 1 := by omega
  have HZ := Lib.hid (And.intro hZ1 (And.intro hdt4 (And.intro hZ3 hZ4)))
  clear hZ1 hZ3 hZ4 hL1 hL hdt4 HX HU1 HU2 HU3 HU4 hHeldU4 hHeldU3 hHeldU2 hHeldU1 hHeld l1 l2 l3
  go_wp2
  have l1 := padL_len h 2 nh (by omega)
  have l2 := padL_len i 2 ni (by omega)
  have l3 := padL_len s 2 ns (by omega)
  have l4 := padL_len c 3 nc (by omega)
  have hzb := HZ.out.1.lt
  refine wp_region_held_drew (S := DtAt D #[.int .i64 y, .int .i64 m, .int .i64 d, .int .i64 h, .int .i64 i, .int .i64 s, .int .i64 c]) (by kernel_rfl) (show _ from HZ.out.2.1) (fun hHeld => ?_)
  refine wpAnyH_take (i := 0) (v := ?v0b) rfl (by kernel_rfl) (by kernel_rfl) (by kernel_rfl) (fun _ _ _ h => h) (Or.inl ⟨by rfl, fun w' hSw => ?y0b⟩) (by assumption) ?r0b
  case y0b =>
    go_simp
    try with_reducible rfl
  try simp only [Act.put, List.setIfInBounds_toArray, List.set_cons_zero, List.set_cons_succ]
  refine wpAnyH_take (i := 1) (v := ?v1b) rfl (by kernel_rfl) (by kernel_rfl) (by kernel_rfl) (fun _ _ _ h => h) (Or.inl ⟨by rfl, fun w' hSw => ?y1b⟩) (by assumption) ?r1b
  case y1b =>
    have a0 := DtAt.cell hSw 3
    simp only [List.getElem?_toArray, List.getElem?_cons_zero, List.getElem?_cons_succ] at a0
    go_simp
    try with_reducible rfl
  try simp only [Act.put, List.setIfInBounds_toArray, List.set_cons_zero, List.set_cons_succ]
  refine wpAnyH_take (i := 4) (v := ?v4b) rfl (by kernel_rfl) (by kernel_rfl) (by kernel_rfl) (fun _ _ _ h => h) (Or.inl ⟨by rfl, fun w' hSw => ?y4b⟩) (by assumption) ?r4b
  case y4b =>
    go_simp
    try with_reducible rfl
  try simp only [Act.put, List.setIfInBounds_toArray, List.set_cons_zero, List.set_cons_succ]
  refine wpAnyH_take (i := 5) (v := ?v5b) rfl (by kernel_rfl) (by kernel_rfl) (by kernel_rfl) (fun _ _ _ h => h) (Or.inl ⟨by rfl, fun w' hSw => ?y5b⟩) (by assumption) ?r5b
  case y5b =>
    have a0 := DtAt.cell hSw 4
    simp only [List.getElem?_toArray, List.getElem?_cons_zero, List.getElem?_cons_succ] at a0
    go_simp
    try with_reducible rfl
  try simp only [Act.put, List.setIfInBounds_toArray, List.set_cons_zero, List.set_cons_succ]
  refine wpAnyH_take (i := 9) (v := ?v9b) rfl (by kernel_rfl) (by kernel_rfl) (by kernel_rfl) (fun _ _ _ h => h) (Or.inl ⟨by rfl, fun w' hSw => ?y9b⟩) (by assumption) ?r9b
  case y9b =>
    go_simp
    try with_reducible rfl
  try simp only [Act.put, List.setIfInBounds_toArray, List.set_cons_zero, List.set_cons_succ]
  refine wpAnyH_take (i := 10) (v := ?v10b) rfl (by kernel_rfl) (by kernel_rfl) (by kernel_rfl) (fun _ _ _ h => h) (Or.inl ⟨by rfl, fun w' hSw => ?y10b⟩) (by assumption) ?r10b
  case y10b =>
    have a0 := DtAt.cell hSw 5
    simp only [List.getElem?_toArray, List.getElem?_cons_zero, List.getElem?_cons_succ] at a0
    go_simp
    try with_reducible rfl
  try simp only [Act.put, List.setIfInBounds_toArray, List.set_cons_zero, List.set_cons_succ]
  refine wpAnyH_take (i := 14) (v := ?v14b) rfl (by kernel_rfl) (by kernel_rfl) (by kernel_rfl) (fun _ _ _ h => h) (Or.inl ⟨by rfl, fun w' hSw => ?y14b⟩) (by assumption) ?r14b
  case y14b =>
    go_simp
    try with_reducible rfl
  try simp only [Act.put, List.setIfInBounds_toArray, List.set_cons_zero, List.set_cons_succ]
  refine wpAnyH_take (i := 15) (v := ?v15b) rfl (by kernel_rfl) (by kernel_rfl) (by kernel_rfl) (fun _ _ _ h => h) (Or.inl ⟨by rfl, fun w' hSw => ?y15b⟩) (by assumption) ?r15b
  case y15b =>
    have a0 := DtAt.cell hSw 6
    simp only [List.getElem?_toArray, List.getElem?_cons_zero, List.getElem?_cons_succ] at a0
    go_simp
    try with_reducible rfl
  try simp only [Act.put, List.setIfInBounds_toArray, List.set_cons_zero, List.set_cons_succ]
  refine wpAnyH_ready (rs := [2]) (by kernel_rfl) (by simp) (AllReadyH.cons rfl (fun K hK => ?_) AllReadyH.nil)
  go_simp
  go_wp2_with (go_at_call 40; refine (padded2 h nh _ (pow_below HZ.out.2.2.2 (show Below U4.heap.size U4 U4.drew from (Below.refl _ U4).drew))).mono ?_; rintro e U5 ⟨rfl, hq⟩)
  have HU5 := Lib.hid (show Below U4.heap.size U4 U5 from (show Below U4.heap.size U4 U4.drew from (Below.refl _ U4).drew).trans (hq.mono (show Below U4.heap.size U4 U4.drew from (Below.refl _ U4).drew).size))
  clear hq
  refine hK.out _ _ (show DtAt _ _ _ from HZ.out.2.1.below HU5.out) (fun hHeldU5 => ?_)
  clear hK K
  try simp only [Act.put, List.setIfInBounds_toArray, List.set_cons_zero, List.set_cons_succ]
  refine wpAnyH_take (i := 3) (v := .string ⟨(padL h 2 ++ [58]).toArray⟩) rfl (by kernel_rfl) (by kernel_rfl) (by kernel_rfl) (fun _ _ _ h => h) (Or.inl ⟨by rfl, fun w' hSw => ?y3b⟩) (by assumption) ?r3b
  case y3b =>
    go_simp
    rw [if_neg (by first | omega | (simp only [List.length_append, List.length_cons, List.length_nil]; omega))]
    exact congrArg (fun x => Result.ok (Next.value (Value.string x)) w') ((str_two _ _).trans (by simp))
  try simp only [Act.put, List.setIfInBounds_toArray, List.set_cons_zero, List.set_cons_succ]
  refine wpAnyH_ready (rs := [6]) (by kernel_rfl) (by simp) (AllReadyH.cons rfl (fun K hK => ?_) AllReadyH.nil)
  go_simp
  go_wp2_with (go_at_call 40; refine (padded2 i ni _ (pow_below HZ.out.2.2.2 (HU5.out))).mono ?_; rintro e U6 ⟨rfl, hq⟩)
  have HU6 := Lib.hid (show Below U4.heap.size U4 U6 from (HU5.out).trans (hq.mono (HU5.out).size))
  clear hq
  refine hK.out _ _ (show DtAt _ _ _ from HZ.out.2.1.below HU6.out) (fun hHeldU6 => ?_)
  clear hK K
  try simp only [Act.put, List.setIfInBounds_toArray, List.set_cons_zero, List.set_cons_succ]
  refine wpAnyH_take (i := 7) (v := .string ⟨((padL h 2 ++ [58]) ++ padL i 2).toArray⟩) rfl (by kernel_rfl) (by kernel_rfl) (by kernel_rfl) (fun _ _ _ h => h) (Or.inl ⟨by rfl, fun w' hSw => ?y7b⟩) (by assumption) ?r7b
  case y7b =>
    go_simp
    rw [if_neg (by first | omega | (simp only [List.length_append, List.length_cons, List.length_nil]; omega))]
    exact congrArg (fun x => Result.ok (Next.value (Value.string x)) w') ((str_two _ _).trans (by simp))
  try simp only [Act.put, List.setIfInBounds_toArray, List.set_cons_zero, List.set_cons_succ]
  refine wpAnyH_take (i := 8) (v := .string ⟨(((padL h 2 ++ [58]) ++ padL i 2) ++ [58]).toArray⟩) rfl (by kernel_rfl) (by kernel_rfl) (by kernel_rfl) (fun _ _ _ h => h) (Or.inl ⟨by rfl, fun w' hSw => ?y8b⟩) (by assumption) ?r8b
  case y8b =>
    go_simp
    rw [if_neg (by first | omega | (simp only [List.length_append, List.length_cons, List.length_nil]; omega))]
    exact congrArg (fun x => Result.ok (Next.value (Value.string x)) w') ((str_two _ _).trans (by simp))
  try simp only [Act.put, List.setIfInBounds_toArray, List.set_cons_zero, List.set_cons_succ]
  refine wpAnyH_ready (rs := [11]) (by kernel_rfl) (by simp) (AllReadyH.cons rfl (fun K hK => ?_) AllReadyH.nil)
  go_simp
  go_wp2_with (go_at_call 40; refine (padded2 s ns _ (pow_below HZ.out.2.2.2 (HU6.out))).mono ?_; rintro e U7 ⟨rfl, hq⟩)
  have HU7 := Lib.hid (show Below U4.heap.size U4 U7 from (HU6.out).trans (hq.mono (HU6.out).size))
  clear hq
  refine hK.out _ _ (show DtAt _ _ _ from HZ.out.2.1.below HU7.out) (fun hHeldU7 => ?_)
  clear hK K
  try simp only [Act.put, List.setIfInBounds_toArray, List.set_cons_zero, List.set_cons_succ]
  refine wpAnyH_take (i := 12) (v := .string ⟨((((padL h 2 ++ [58]) ++ padL i 2) ++ [58]) ++ padL s 2).toArray⟩) rfl (by kernel_rfl) (by kernel_rfl) (by kernel_rfl) (fun _ _ _ h => h) (Or.inl ⟨by rfl, fun w' hSw => ?y12b⟩) (by assumption) ?r12b
  case y12b =>
    go_simp
    rw [if_neg (by first | omega | (simp only [List.length_append, List.length_cons, List.length_nil]; omega))]
    exact congrArg (fun x => Result.ok (Next.value (Value.string x)) w') ((str_two _ _).trans (by simp))
  try simp only [Act.put, List.setIfInBounds_toArray, List.set_cons_zero, List.set_cons_succ]
  refine wpAnyH_take (i := 13) (v := .string ⟨(((((padL h 2 ++ [58]) ++ padL i 2) ++ [58]) ++ padL s 2) ++ [46]).toArray⟩) rfl (by kernel_rfl) (by kernel_rfl) (by kernel_rfl) (fun _ _ _ h => h) (Or.inl ⟨by rfl, fun w' hSw => ?y13b⟩) (by assumption) ?r13b
  case y13b =>
    go_simp
    rw [if_neg (by first | omega | (simp only [List.length_append, List.length_cons, List.length_nil]; omega))]
    exact congrArg (fun x => Result.ok (Next.value (Value.string x)) w') ((str_two _ _).trans (by simp))
  try simp only [Act.put, List.setIfInBounds_toArray, List.set_cons_zero, List.set_cons_succ]
  refine wpAnyH_ready (rs := [16]) (by kernel_rfl) (by simp) (AllReadyH.cons rfl (fun K hK => ?_) AllReadyH.nil)
  go_simp
  go_wp2_with (go_at_call 40; refine (padded3 c nc _ (pow_below HZ.out.2.2.2 (HU7.out))).mono ?_; rintro e U8 ⟨rfl, hq⟩)
  have HU8 := Lib.hid (show Below U4.heap.size U4 U8 from (HU7.out).trans (hq.mono (HU7.out).size))
  clear hq
  refine hK.out _ _ (show DtAt _ _ _ from HZ.out.2.1.below HU8.out) (fun hHeldU8 => ?_)
  clear hK K
  try simp only [Act.put, List.setIfInBounds_toArray, List.set_cons_zero, List.set_cons_succ]
  refine wpAnyH_take (i := 17) (v := .string ⟨((((((padL h 2 ++ [58]) ++ padL i 2) ++ [58]) ++ padL s 2) ++ [46]) ++ padL c 3).toArray⟩) rfl (by kernel_rfl) (by kernel_rfl) (by kernel_rfl) (fun _ _ _ h => h) (Or.inl ⟨by rfl, fun w' hSw => ?y17b⟩) (by assumption) ?r17b
  case y17b =>
    go_simp
    rw [if_neg (by first | omega | (simp only [List.length_append, List.length_cons, List.length_nil]; omega))]
    exact congrArg (fun x => Result.ok (Next.value (Value.string x)) w') ((str_two _ _).trans (by simp))
  try simp only [Act.put, List.setIfInBounds_toArray, List.set_cons_zero, List.set_cons_succ]
  refine wpAnyH_ready (rs := [18]) (by kernel_rfl) (by simp) (AllReadyH.cons rfl (fun K hK => ?_) AllReadyH.nil)
  go_simp
  go_wp2_with (go_at_call 39; refine (bldStrL (D + 1) (D + 1) L _ _ (Bd.below HZ.out.1 HU8.out) (by omega) (by simp only [List.length_append, List.length_cons, List.length_nil]; omega)).mono ?_; rintro e U9 ⟨⟨r2, rfl⟩, hbo⟩)
  have HU9 := Lib.hid hbo
  clear hbo
  have hdt9 : DtAt D #[.int .i64 y, .int .i64 m, .int .i64 d, .int .i64 h, .int .i64 i, .int .i64 s, .int .i64 c] U9 := (HU9.out.2.1.block D (by omega)).trans (HZ.out.2.1.below HU8.out)
  refine hK.out _ _ (show DtAt _ _ _ from hdt9) (fun hHeldU9 => ?_)
  clear hK K
  try simp only [Act.put, List.setIfInBounds_toArray, List.set_cons_zero, List.set_cons_succ]
  refine wpAnyH_done (by kernel_rfl) ?_ _
  have hZ1 := HU9.out.1
  have hZ3 : Below w.heap.size w U9 := (HZ.out.2.2.1.trans (HU8.out.mono HZ.out.2.2.1.size)).trans (HU9.out.2.1.mono (by omega))
  have hZ4 := pow_below HP.out hZ3
  have hT1 : padL h 2 ++ 58 :: (padL i 2 ++ 58 :: (padL s 2 ++ 46 :: padL c 3)) = timeL (padL h 2) (padL i 2) (padL s 2) (padL c 3) := by simp [timeL]
  rw [hT1] at hZ1
  have lT : (timeL (padL h 2) (padL i 2) (padL s 2) (padL c 3)).length ≤ 20 := by unfold timeL; simp only [List.length_append, List.length_cons, List.length_nil]; omega
  obtain ⟨T, hT⟩ : ∃ T, timeL (padL h 2) (padL i 2) (padL s 2) (padL c 3) = T := ⟨_, rfl⟩
  rw [hT] at hZ1 lT
  have HT := Lib.hid hT
  have hzb9 := hZ1.lt
  have HY := Lib.hid (And.intro hZ1 (And.intro hZ3 hZ4))
  clear hZ1 hZ3 hZ4 hT1 hT hdt9 HZ HU5 HU6 HU7 HU8 HU9 hHeldU9 hHeldU8 hHeldU7 hHeldU6 hHeldU5 hHeld l1 l2 l3 l4
  rcases Int.lt_trichotomy z 0 with hz | hz | hz
  · obtain ⟨zn, hzn⟩ : ∃ n : Nat, -z = n := ⟨(-z).toNat, by omega⟩
    have hzl : zn ≤ 1440 := by omega
    have hZL : zoneL z = zoneP [45] (padL (zn / 60) 2) (padL (zn % 60) 2) := by
      unfold zoneL
      rw [if_neg (by omega), if_neg (by omega), hzn]; rfl
    have HZL := Lib.hid hZL
    have d1 : (z == 0) = false := by rw [beq_eq_false_iff_ne]; omega
    clear hZL
    go_wp2_with fail
    refine (printZone_any (D + 1) (D + 1) (L ++ T) [45] zn U9 HY.out.1 (by omega) (by rw [List.length_append]; omega) (by decide) hzl HY.out.2.2).mono ?_
    rintro e V1 ⟨rfl, hbo⟩
    have HO := Lib.hid hbo
    clear hbo
    go_wp2_with fail
    refine (bldString (D + 1) (D + 1) _ V1 HO.out.1 (by simp [zoneP])).mono ?_
    rintro e V2 ⟨rfl, hb⟩
    have HB2 := Lib.hid hb
    clear hb
    go_wp2
    go_ret2
    refine ⟨y, m, d, by rw [HF.out, HL.out, HT.out, HZL.out]; exact rt_se (List.append_assoc _ _ _).symm, HV.out.1, HV.out.2.1, ?_⟩
    exact (HY.out.2.1.trans (HO.out.2.mono (by omega))).trans (HB2.out.mono (by omega))
  · subst hz
    go_wp2_with fail
    refine (bldZ (D + 1) (D + 1) (L ++ T) U9 HY.out.1 (by rw [List.length_append]; omega)).mono ?_
    rintro e V1 ⟨rfl, hbo⟩
    have HO := Lib.hid hbo
    clear hbo
    go_wp2_with fail
    refine (bldString (D + 1) (D + 1) _ V1 HO.out.1 (by simp)).mono ?_
    rintro e V2 ⟨rfl, hb⟩
    have HB2 := Lib.hid hb
    clear hb
    go_wp2
    go_ret2
    refine ⟨y, m, d, by rw [HF.out, HL.out, HT.out]; exact rt_se (List.append_assoc _ _ _).symm, HV.out.1, HV.out.2.1, ?_⟩
    exact (HY.out.2.1.trans (HO.out.2.1.mono (by omega))).trans (HB2.out.mono (by omega))
  · obtain ⟨zn, rfl⟩ : ∃ n : Nat, z = n := ⟨z.toNat, by omega⟩
    have hzl : zn ≤ 1440 := by omega
    have hZL : zoneL zn = zoneP [43] (padL (zn / 60) 2) (padL (zn % 60) 2) := by
      unfold zoneL
      rw [if_neg (by omega), if_pos (by omega)]; rfl
    have HZL := Lib.hid hZL
    have d1 : ((zn : Int) == 0) = false := by rw [beq_eq_false_iff_ne]; omega
    clear hZL
    go_wp2_with fail
    refine (printZone_any (D + 1) (D + 1) (L ++ T) [43] zn U9 HY.out.1 (by omega) (by rw [List.length_append]; omega) (by decide) hzl HY.out.2.2).mono ?_
    rintro e V1 ⟨rfl, hbo⟩
    have HO := Lib.hid hbo
    clear hbo
    go_wp2_with fail
    refine (bldString (D + 1) (D + 1) _ V1 HO.out.1 (by simp [zoneP])).mono ?_
    rintro e V2 ⟨rfl, hb⟩
    have HB2 := Lib.hid hb
    clear hb
    go_wp2
    go_ret2
    refine ⟨y, m, d, by rw [HF.out, HL.out, HT.out, HZL.out]; exact rt_se (List.append_assoc _ _ _).symm, HV.out.1, HV.out.2.1, ?_⟩
    exact (HY.out.2.1.trans (HO.out.2.mono (by omega))).trans (HB2.out.mono (by omega))
end Go.Proofs.YtofomlbhbbhdjaaDoor
