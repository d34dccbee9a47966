/- The contract of the reference's Format. -/
import Derived.Test.YtnegfiiecegbbaaDoorCalRt
import Derived.Test.YtnegfiiecegbbaaDoorRpadd
import Derived.Test.YtnegfiiecegbbaaDoorCalAw
namespace Go.Proofs.YtnegfiiecegbbaaDoor
open Go.RowKit

theorem rpadded2 (v : Nat) (hv : v ≤ 9999) (w : World) :
    Calls Tryd.prog 31 #[.int .i64 v, .int .i64 2] w fun e w' => e = .returned (.string ⟨(padL v 2).toArray⟩) ∧ Below w.heap.size w w' := rpadded_any v 2 hv (by omega) w
theorem rpadded3 (v : Nat) (hv : v ≤ 9999) (w : World) :
    Calls Tryd.prog 31 #[.int .i64 v, .int .i64 3] w fun e w' => e = .returned (.string ⟨(padL v 3).toArray⟩) ∧ Below w.heap.size w w' := rpadded_any v 3 hv (by omega) w
theorem rpadded4 (v : Nat) (hv : v ≤ 9999) (w : World) :
    Calls Tryd.prog 31 #[.int .i64 v, .int .i64 4] w fun e w' => e = .returned (.string ⟨(padL v 4).toArray⟩) ∧ Below w.heap.size w w' := rpadded_any v 4 hv (by omega) w

theorem str_zone (G sg A C : List UInt8) : Ending.returned (.tuple #[.string ((((ByteArray.mk G.toArray) ++ (ByteArray.mk sg.toArray)) ++ (ByteArray.mk A.toArray)) ++ (ByteArray.mk [58].toArray) ++ (ByteArray.mk C.toArray)), .int .i64 0]) = .returned (.tuple #[.string ⟨(G ++ zoneP sg A C).toArray⟩, .int .i64 0]) := by
  rw [str_two, str_two, str_two, str_two]
  simp [zoneP]

set_option maxRecDepth 100000 in
set_option linter.unusedSimpArgs false in
set_option maxHeartbeats 16000000 in
theorem rformat_yes (ms z : Int) (h1 : isT ms) (h2 : isZ z) (h3 : isT (ms + z * 60000)) (w : World) :
    Calls Tryd.prog 15 #[.int .i64 ms, .int .i64 z] w (FmtOut (ms + z * 60000 + 62135596800000) z w) := by
  have hd := rdates_yes ms z h1 h2 h3 w
  obtain ⟨b3, b4⟩ := h2
  obtain ⟨p, hp⟩ : ∃ p, ms + z * 60000 + 62135596800000 = p := ⟨_, rfl⟩
  have hp0 : 0 ≤ p := by have := h3.1; omega
  rw [hp] at hd ⊢
  have HD := Lib.hid hd
  clear hp hd h1 h3
  obtain ⟨h, hh⟩ : ∃ n : Nat, p / 3600000 % 24 = n := ⟨(p / 3600000 % 24).toNat, by omega⟩
  obtain ⟨i, hi⟩ : ∃ n : Nat, p / 60000 % 60 = n := ⟨(p / 60000 % 60).toNat, by omega⟩
  obtain ⟨s, hs⟩ : ∃ n : Nat, p / 1000 % 60 = n := ⟨(p / 1000 % 60).toNat, by omega⟩
  obtain ⟨c, hc⟩ : ∃ n : Nat, p % 1000 = n := ⟨(p % 1000).toNat, by omega⟩
  have nh : h ≤ 9999 := by omega
  have ni : i ≤ 9999 := by omega
  have ns : s ≤ 9999 := by omega
  have nc : c ≤ 9999 := by omega
  have HF : Hid (∀ y m d : Nat, fmtL y m d p z = (dayL (padL y 4) (padL m 2) (padL d 2) ++ timeL (padL h 2) (padL i 2) (padL s 2) (padL c 3)) ++ zoneL z) := by
    intro y m d
    unfold fmtL
    rw [hh, hi, hs, hc]
    simp only [Int.toNat_natCast]
  have HH := Lib.hid (And.intro hh (And.intro hi (And.intro hs hc)))
  clear hh hi hs hc
  go_enter Tryd.func15, Tryd.ntmps15
  go_wp2_with fail
  refine (HD.out).mono ?_
  rintro e w1 ⟨y, m, d, rfl, hv, hn, hb1⟩
  obtain ⟨y, rfl⟩ : ∃ n : Nat, y = n := ⟨y.toNat, by have := hv.1; omega⟩
  obtain ⟨m, rfl⟩ : ∃ n : Nat, m = n := ⟨m.toNat, by have := hv.2.2.1; omega⟩
  obtain ⟨d, rfl⟩ : ∃ n : Nat, d = n := ⟨d.toNat, by have := hv.2.2.2.2.1; omega⟩
  have ny : y ≤ 9999 := by have := hv.2.1; omega
  have nm : m ≤ 9999 := by have := hv.2.2.2.1; omega
  have nd : d ≤ 9999 := by have := hv.2.2.2.2.2; have := (len_bd (y : Int) m).2; omega
  have HV := Lib.hid (And.intro hv (And.intro hn hb1))
  clear hv hn hb1
  unfold dateV
  rw [HH.out.1, HH.out.2.1, HH.out.2.2.1, HH.out.2.2.2]
  go_wp2
  have hX0 : DtAt w1.heap.size #[.int .i64 y, .int .i64 m, .int .i64 d, .int .i64 h, .int .i64 i, .int .i64 s, .int .i64 c] (w1.alloc (.cells #[.int .i64 y, .int .i64 m, .int .i64 d, .int .i64 h, .int .i64 i, .int .i64 s, .int .i64 c] 23)) := heap_alloc_new _ _
  have hX3 : Below w1.heap.size w1 (w1.alloc (.cells #[.int .i64 y, .int .i64 m, .int .i64 d, .int .i64 h, .int .i64 i, .int .i64 s, .int .i64 c] 23)) := (Below.refl _ _).alloc (Nat.le_refl _) _
  obtain ⟨X, hX⟩ : ∃ X, w1.alloc (.cells #[.int .i64 y, .int .i64 m, .int .i64 d, .int .i64 h, .int .i64 i, .int .i64 s, .int .i64 c] 23) = X := ⟨_, rfl⟩
  rw [hX] at hX0 hX3 ⊢
  have hX7 : Below w.heap.size w X := HV.out.2.2.trans (hX3.mono HV.out.2.2.size)
  obtain ⟨D, hD⟩ : ∃ D, w1.heap.size = D := ⟨_, rfl⟩
  rw [hD] at hX0 ⊢
  have HX := Lib.hid (And.intro hX0 hX7)
  clear hX0 hX3 hX7 hX hD
  have l1 := padL_len y 4 ny (by omega)
  have l2 := padL_len m 2 nm (by omega)
  have l3 := padL_len d 2 nd (by omega)
  have l4 := padL_len h 2 nh (by omega)
  have l5 := padL_len i 2 ni (by omega)
  have l6 := padL_len s 2 ns (by omega)
  have l7 := padL_len c 3 nc (by omega)
  refine wp_region_held_drew (S := DtAt D #[.int .i64 y, .int .i64 m, .int .i64 d, .int .i64 h, .int .i64 i, .int .i64 s, .int .i64 c]) (by kernel_rfl) (show _ from HX.out.1) (fun hHeld => ?_)
  refine wpAnyH_take (i := 0) (v := ?v0) rfl (by kernel_rfl) (by kernel_rfl) (by kernel_rfl) (fun _ _ _ h => h) (Or.inl ⟨by rfl, fun w' hSw => ?y0⟩) (by assumption) ?r0
  case y0 =>
    go_simp
    try with_reducible rfl
  try simp only [Act.put, List.setIfInBounds_toArray, List.set_cons_zero, List.set_cons_succ]
  refine wpAnyH_take (i := 1) (v := ?v1) rfl (by kernel_rfl) (by kernel_rfl) (by kernel_rfl) (fun _ _ _ h => h) (Or.inl ⟨by rfl, fun w' hSw => ?y1⟩) (by assumption) ?r1
  case y1 =>
    have a0 := DtAt.cell hSw 0
    simp only [List.getElem?_toArray, List.getElem?_cons_zero, List.getElem?_cons_succ] at a0
    go_simp
    try with_reducible rfl
  try simp only [Act.put, List.setIfInBounds_toArray, List.set_cons_zero, List.set_cons_succ]
  refine wpAnyH_take (i := 4) (v := ?v4) rfl (by kernel_rfl) (by kernel_rfl) (by kernel_rfl) (fun _ _ _ h => h) (Or.inl ⟨by rfl, fun w' hSw => ?y4⟩) (by assumption) ?r4
  case y4 =>
    go_simp
    try with_reducible rfl
  try simp only [Act.put, List.setIfInBounds_toArray, List.set_cons_zero, List.set_cons_succ]
  refine wpAnyH_take (i := 5) (v := ?v5) rfl (by kernel_rfl) (by kernel_rfl) (by kernel_rfl) (fun _ _ _ h => h) (Or.inl ⟨by rfl, fun w' hSw => ?y5⟩) (by assumption) ?r5
  case y5 =>
    have a0 := DtAt.cell hSw 1
    simp only [List.getElem?_toArray, List.getElem?_cons_zero, List.getElem?_cons_succ] at a0
    go_simp
    try with_reducible rfl
  try simp only [Act.put, List.setIfInBounds_toArray, List.set_cons_zero, List.set_cons_succ]
  refine wpAnyH_take (i := 9) (v := ?v9) rfl (by kernel_rfl) (by kernel_rfl) (by kernel_rfl) (fun _ _ _ h => h) (Or.inl ⟨by rfl, fun w' hSw => ?y9⟩) (by assumption) ?r9
  case y9 =>
    go_simp
    try with_reducible rfl
  try simp only [Act.put, List.setIfInBounds_toArray, List.set_cons_zero, List.set_cons_succ]
  refine wpAnyH_take (i := 10) (v := ?v10) rfl (by kernel_rfl) (by kernel_rfl) (by kernel_rfl) (fun _ _ _ h => h) (Or.inl ⟨by rfl, fun w' hSw => ?y10⟩) (by assumption) ?r10
  case y10 =>
    have a0 := DtAt.cell hSw 2
    simp only [List.getElem?_toArray, List.getElem?_cons_zero, List.getElem?_cons_succ] at a0
    go_simp
    try with_reducible rfl
  try simp only [Act.put, List.setIfInBounds_toArray, List.set_cons_zero, List.set_cons_succ]
  refine wpAnyH_take (i := 14) (v := ?v14) rfl (by kernel_rfl) (by kernel_rfl) (by kernel_rfl) (fun _ _ _ h => h) (Or.inl ⟨by rfl, fun w' hSw => ?y14⟩) (by assumption) ?r14
  case y14 =>
    go_simp
    try with_reducible rfl
  try simp only [Act.put, List.setIfInBounds_toArray, List.set_cons_zero, List.set_cons_succ]
  refine wpAnyH_take (i := 15) (v := ?v15) rfl (by kernel_rfl) (by kernel_rfl) (by kernel_rfl) (fun _ _ _ h => h) (Or.inl ⟨by rfl, fun w' hSw => ?y15⟩) (by assumption) ?r15
  case y15 =>
    have a0 := DtAt.cell hSw 3
    simp only [List.getElem?_toArray, List.getElem?_cons_zero, List.getElem?_cons_succ] at a0
    go_simp
    try with_reducible rfl
  try simp only [Act.put, List.setIfInBounds_toArray, List.set_cons_zero, List.set_cons_succ]
  refine wpAnyH_take (i := 19) (v := ?v19) rfl (by kernel_rfl) (by kernel_rfl) (by kernel_rfl) (fun _ _ _ h => h) (Or.inl ⟨by rfl, fun w' hSw => ?y19⟩) (by assumption) ?r19
  case y19 =>
    go_simp
    try with_reducible rfl
  try simp only [Act.put, List.setIfInBounds_toArray, List.set_cons_zero, List.set_cons_succ]
  refine wpAnyH_take (i := 20) (v := ?v20) rfl (by kernel_rfl) (by kernel_rfl) (by kernel_rfl) (fun _ _ _ h => h) (Or.inl ⟨by rfl, fun w' hSw => ?y20⟩) (by assumption) ?r20
  case y20 =>
    have a0 := DtAt.cell hSw 4
    simp only [List.getElem?_toArray, List.getElem?_cons_zero, List.getElem?_cons_succ] at a0
    go_simp
    try with_reducible rfl
  try simp only [Act.put, List.setIfInBounds_toArray, List.set_cons_zero, List.set_cons_succ]
  refine wpAnyH_take (i := 24) (v := ?v24) rfl (by kernel_rfl) (by kernel_rfl) (by kernel_rfl) (fun _ _ _ h => h) (Or.inl ⟨by rfl, fun w' hSw => ?y24⟩) (by assumption) ?r24
  case y24 =>
    go_simp
    try with_reducible rfl
  try simp only [Act.put, List.setIfInBounds_toArray, List.set_cons_zero, List.set_cons_succ]
  refine wpAnyH_take (i := 25) (v := ?v25) rfl (by kernel_rfl) (by kernel_rfl) (by kernel_rfl) (fun _ _ _ h => h) (Or.inl ⟨by rfl, fun w' hSw => ?y25⟩) (by assumption) ?r25
  case y25 =>
    have a0 := DtAt.cell hSw 5
    simp only [List.getElem?_toArray, List.getElem?_cons_zero, List.getElem?_cons_succ] at a0
    go_simp
    try with_reducible rfl
  try simp only [Act.put, List.setIfInBounds_toArray, List.set_cons_zero, List.set_cons_succ]
  refine wpAnyH_take (i := 29) (v := ?v29) rfl (by kernel_rfl) (by kernel_rfl) (by kernel_rfl) (fun _ _ _ h => h) (Or.inl ⟨by rfl, fun w' hSw => ?y29⟩) (by assumption) ?r29
  case y29 =>
    go_simp
    try with_reducible rfl
  try simp only [Act.put, List.setIfInBounds_toArray, List.set_cons_zero, List.set_cons_succ]
  refine wpAnyH_take (i := 30) (v := ?v30) rfl (by kernel_rfl) (by kernel_rfl) (by kernel_rfl) (fun _ _ _ h => h) (Or.inl ⟨by rfl, fun w' hSw => ?y30⟩) (by assumption) ?r30
  case y30 =>
    have a0 := DtAt.cell hSw 6
    simp only [List.getElem?_toArray, List.getElem?_cons_zero, List.getElem?_cons_succ] at a0
    go_simp
    try with_reducible rfl
  try simp only [Act.put, List.setIfInBounds_toArray, List.set_cons_zero, List.set_cons_succ]
  refine wpAnyH_ready (rs := [2]) (by kernel_rfl) (by simp) (AllReadyH.cons rfl (fun K hK => ?_) AllReadyH.nil)
  go_simp
  go_wp2_with (go_at_call 31; refine (rpadded4 y ny _).mono ?_; rintro e U0 ⟨rfl, hq⟩)
  have HU0 := Lib.hid (show Below X.heap.size X U0 from (show Below X.heap.size X X.drew from (Below.refl _ X).drew).trans (hq.mono (show Below X.heap.size X X.drew from (Below.refl _ X).drew).size))
  clear hq
  refine hK.out _ _ (show DtAt _ _ _ from HX.out.1.below HU0.out) (fun hHeldU0 => ?_)
  clear hK K
  try simp only [Act.put, List.setIfInBounds_toArray, List.set_cons_zero, List.set_cons_succ]
  refine wpAnyH_take (i := 3) (v := .string ⟨(padL y 4 ++ [45]).toArray⟩) rfl (by kernel_rfl) (by kernel_rfl) (by kernel_rfl) (fun _ _ _ h => h) (Or.inl ⟨by rfl, fun w' hSw => ?y3z⟩) (by assumption) ?r3z
  case y3z =>
    go_simp
    rw [if_neg (by first | omega | (simp only [List.length_append, List.length_cons, List.length_nil]; omega))]
    exact congrArg (fun x => Result.ok (Next.value (Value.string x)) w') ((str_two _ _).trans (by simp))
  try simp only [Act.put, List.setIfInBounds_toArray, List.set_cons_zero, List.set_cons_succ]
  refine wpAnyH_ready (rs := [6]) (by kernel_rfl) (by simp) (AllReadyH.cons rfl (fun K hK => ?_) AllReadyH.nil)
  go_simp
  go_wp2_with (go_at_call 31; refine (rpadded2 m nm _).mono ?_; rintro e U1 ⟨rfl, hq⟩)
  have HU1 := Lib.hid (show Below X.heap.size X U1 from (HU0.out).trans (hq.mono (HU0.out).size))
  clear hq
  refine hK.out _ _ (show DtAt _ _ _ from HX.out.1.below HU1.out) (fun hHeldU1 => ?_)
  clear hK K
  try simp only [Act.put, List.setIfInBounds_toArray, List.set_cons_zero, List.set_cons_succ]
  refine wpAnyH_take (i := 7) (v := .string ⟨(((padL y 4 ++ [45]) ++ padL m 2)).toArray⟩) rfl (by kernel_rfl) (by kernel_rfl) (by kernel_rfl) (fun _ _ _ h => h) (Or.inl ⟨by rfl, fun w' hSw => ?y7z⟩) (by assumption) ?r7z
  case y7z =>
    go_simp
    rw [if_neg (by first | omega | (simp only [List.length_append, List.length_cons, List.length_nil]; omega))]
    exact congrArg (fun x => Result.ok (Next.value (Value.string x)) w') ((str_two _ _).trans (by simp))
  try simp only [Act.put, List.setIfInBounds_toArray, List.set_cons_zero, List.set_cons_succ]
  refine wpAnyH_take (i := 8) (v := .string ⟨(((padL y 4 ++ [45]) ++ padL m 2) ++ [45]).toArray⟩) rfl (by kernel_rfl) (by kernel_rfl) (by kernel_rfl) (fun _ _ _ h => h) (Or.inl ⟨by rfl, fun w' hSw => ?y8z⟩) (by assumption) ?r8z
  case y8z =>
    go_simp
    rw [if_neg (by first | omega | (simp only [List.length_append, List.length_cons, List.length_nil]; omega))]
    exact congrArg (fun x => Result.ok (Next.value (Value.string x)) w') ((str_two _ _).trans (by simp))
  try simp only [Act.put, List.setIfInBounds_toArray, List.set_cons_zero, List.set_cons_succ]
  refine wpAnyH_ready (rs := [11]) (by kernel_rfl) (by simp) (AllReadyH.cons rfl (fun K hK => ?_) AllReadyH.nil)
  go_simp
  go_wp2_with (go_at_call 31; refine (rpadded2 d nd _).mono ?_; rintro e U2 ⟨rfl, hq⟩)
  have HU2 := Lib.hid (show Below X.heap.size X U2 from (HU1.out).trans (hq.mono (HU1.out).size))
  clear hq
  refine hK.out _ _ (show DtAt _ _ _ from HX.out.1.below HU2.out) (fun hHeldU2 => ?_)
  clear hK K
  try simp only [Act.put, List.setIfInBounds_toArray, List.set_cons_zero, List.set_cons_succ]
  refine wpAnyH_take (i := 12) (v := .string ⟨(((((padL y 4 ++ [45]) ++ padL m 2) ++ [45]) ++ padL d 2)).toArray⟩) rfl (by kernel_rfl) (by kernel_rfl) (by kernel_rfl) (fun _ _ _ h => h) (Or.inl ⟨by rfl, fun w' hSw => ?y12z⟩) (by assumption) ?r12z
  case y12z =>
    go_simp
    rw [if_neg (by first | omega | (simp only [List.length_append, List.length_cons, List.length_nil]; omega))]
    exact congrArg (fun x => Result.ok (Next.value (Value.string x)) w') ((str_two _ _).trans (by simp))
  try simp only [Act.put, List.setIfInBounds_toArray, List.set_cons_zero, List.set_cons_succ]
  refine wpAnyH_take (i := 13) (v := .string ⟨(((((padL y 4 ++ [45]) ++ padL m 2) ++ [45]) ++ padL d 2) ++ [84]).toArray⟩) rfl (by kernel_rfl) (by kernel_rfl) (by kernel_rfl) (fun _ _ _ h => h) (Or.inl ⟨by rfl, fun w' hSw => ?y13z⟩) (by assumption) ?r13z
  case y13z =>
    go_simp
    rw [if_neg (by first | omega | (simp only [List.length_append, List.length_cons, List.length_nil]; omega))]
    exact congrArg (fun x => Result.ok (Next.value (Value.string x)) w') ((str_two _ _).trans (by simp))
  try simp only [Act.put, List.setIfInBounds_toArray, List.set_cons_zero, List.set_cons_succ]
  refine wpAnyH_ready (rs := [16]) (by kernel_rfl) (by simp) (AllReadyH.cons rfl (fun K hK => ?_) AllReadyH.nil)
  go_simp
  go_wp2_with (go_at_call 31; refine (rpadded2 h nh _).mono ?_; rintro e U3 ⟨rfl, hq⟩)
  have HU3 := Lib.hid (show Below X.heap.size X U3 from (HU2.out).trans (hq.mono (HU2.out).size))
  clear hq
  refine hK.out _ _ (show DtAt _ _ _ from HX.out.1.below HU3.out) (fun hHeldU3 => ?_)
  clear hK K
  try simp only [Act.put, List.setIfInBounds_toArray, List.set_cons_zero, List.set_cons_succ]
  refine wpAnyH_take (i := 17) (v := .string ⟨(((((((padL y 4 ++ [45]) ++ padL m 2) ++ [45]) ++ padL d 2) ++ [84]) ++ padL h 2)).toArray⟩) rfl (by kernel_rfl) (by kernel_rfl) (by kernel_rfl) (fun _ _ _ h => h) (Or.inl ⟨by rfl, fun w' hSw => ?y17z⟩) (by assumption) ?r17z
  case y17z =>
    go_simp
    rw [if_neg (by first | omega | (simp only [List.length_append, List.length_cons, List.length_nil]; omega))]
    exact congrArg (fun x => Result.ok (Next.value (Value.string x)) w') ((str_two _ _).trans (by simp))
  try simp only [Act.put, List.setIfInBounds_toArray, List.set_cons_zero, List.set_cons_succ]
  refine wpAnyH_take (i := 18) (v := .string ⟨(((((((padL y 4 ++ [45]) ++ padL m 2) ++ [45]) ++ padL d 2) ++ [84]) ++ padL h 2) ++ [58]).toArray⟩) rfl (by kernel_rfl) (by kernel_rfl) (by kernel_rfl) (fun _ _ _ h => h) (Or.inl ⟨by rfl, fun w' hSw => ?y18z⟩) (by assumption) ?r18z
  case y18z =>
    go_simp
    rw [if_neg (by first | omega | (simp only [List.length_append, List.length_cons, List.length_nil]; omega))]
    exact congrArg (fun x => Result.ok (Next.value (Value.string x)) w') ((str_two _ _).trans (by simp))
  try simp only [Act.put, List.setIfInBounds_toArray, List.set_cons_zero, List.set_cons_succ]
  refine wpAnyH_ready (rs := [21]) (by kernel_rfl) (by simp) (AllReadyH.cons rfl (fun K hK => ?_) AllReadyH.nil)
  go_simp
  go_wp2_with (go_at_call 31; refine (rpadded2 i ni _).mono ?_; rintro e U4 ⟨rfl, hq⟩)
  have HU4 := Lib.hid (show Below X.heap.size X U4 from (HU3.out).trans (hq.mono (HU3.out).size))
  clear hq
  refine hK.out _ _ (show DtAt _ _ _ from HX.out.1.below HU4.out) (fun hHeldU4 => ?_)
  clear hK K
  try simp only [Act.put, List.setIfInBounds_toArray, List.set_cons_zero, List.set_cons_succ]
  refine wpAnyH_take (i := 22) (v := .string ⟨(((((((((padL y 4 ++ [45]) ++ padL m 2) ++ [45]) ++ padL d 2) ++ [84]) ++ padL h 2) ++ [58]) ++ padL i 2)).toArray⟩) rfl (by kernel_rfl) (by kernel_rfl) (by kernel_rfl) (fun _ _ _ h => h) (Or.inl ⟨by rfl, fun w' hSw => ?y22z⟩) (by assumption) ?r22z
  case y22z =>
    go_simp
    rw [if_neg (by first | omega | (simp only [List.length_append, List.length_cons, List.length_nil]; omega))]
    exact congrArg (fun x => Result.ok (Next.value (Value.string x)) w') ((str_two _ _).trans (by simp))
  try simp only [Act.put, List.setIfInBounds_toArray, List.set_cons_zero, List.set_cons_succ]
  refine wpAnyH_take (i := 23) (v := .string ⟨(((((((((padL y 4 ++ [45]) ++ padL m 2) ++ [45]) ++ padL d 2) ++ [84]) ++ padL h 2) ++ [58]) ++ padL i 2) ++ [58]).toArray⟩) rfl (by kernel_rfl) (by kernel_rfl) (by kernel_rfl) (fun _ _ _ h => h) (Or.inl ⟨by rfl, fun w' hSw => ?y23z⟩) (by assumption) ?r23z
  case y23z =>
    go_simp
    rw [if_neg (by first | omega | (simp only [List.length_append, List.length_cons, List.length_nil]; omega))]
    exact congrArg (fun x => Result.ok (Next.value (Value.string x)) w') ((str_two _ _).trans (by simp))
  try simp only [Act.put, List.setIfInBounds_toArray, List.set_cons_zero, List.set_cons_succ]
  refine wpAnyH_ready (rs := [26]) (by kernel_rfl) (by simp) (AllReadyH.cons rfl (fun K hK => ?_) AllReadyH.nil)
  go_simp
  go_wp2_with (go_at_call 31; refine (rpadded2 s ns _).mono ?_; rintro e U5 ⟨rfl, hq⟩)
  have HU5 := Lib.hid (show Below X.heap.size X U5 from (HU4.out).trans (hq.mono (HU4.out).size))
  clear hq
  refine hK.out _ _ (show DtAt _ _ _ from HX.out.1.below HU5.out) (fun hHeldU5 => ?_)
  clear hK K
  try simp only [Act.put, List.setIfInBounds_toArray, List.set_cons_zero, List.set_cons_succ]
  refine wpAnyH_take (i := 27) (v := .string ⟨(((((((((((padL y 4 ++ [45]) ++ padL m 2) ++ [45]) ++ padL d 2) ++ [84]) ++ padL h 2) ++ [58]) ++ padL i 2) ++ [58]) ++ padL s 2)).toArray⟩) rfl (by kernel_rfl) (by kernel_rfl) (by kernel_rfl) (fun _ _ _ h => h) (Or.inl ⟨by rfl, fun w' hSw => ?y27z⟩) (by assumption) ?r27z
  case y27z =>
    go_simp
    rw [if_neg (by first | omega | (simp only [List.length_append, List.length_cons, List.length_nil]; omega))]
    exact congrArg (fun x => Result.ok (Next.value (Value.string x)) w') ((str_two _ _).trans (by simp))
  try simp only [Act.put, List.setIfInBounds_toArray, List.set_cons_zero, List.set_cons_succ]
  refine wpAnyH_take (i := 28) (v := .string ⟨(((((((((((padL y 4 ++ [45]) ++ padL m 2) ++ [45]) ++ padL d 2) ++ [84]) ++ padL h 2) ++ [58]) ++ padL i 2) ++ [58]) ++ padL s 2) ++ [46]).toArray⟩) rfl (by kernel_rfl) (by kernel_rfl) (by kernel_rfl) (fun _ _ _ h => h) (Or.inl ⟨by rfl, fun w' hSw => ?y28z⟩) (by assumption) ?r28z
  case y28z =>
    go_simp
    rw [if_neg (by first | omega | (simp only [List.length_append, List.length_cons, List.length_nil]; omega))]
    exact congrArg (fun x => Result.ok (Next.value (Value.string x)) w') ((str_two _ _).trans (by simp))
  try simp only [Act.put, List.setIfInBounds_toArray, List.set_cons_zero, List.set_cons_succ]
  refine wpAnyH_ready (rs := [31]) (by kernel_rfl) (by simp) (AllReadyH.cons rfl (fun K hK => ?_) AllReadyH.nil)
  go_simp
  go_wp2_with (go_at_call 31; refine (rpadded3 c nc _).mono ?_; rintro e U6 ⟨rfl, hq⟩)
  have HU6 := Lib.hid (show Below X.heap.size X U6 from (HU5.out).trans (hq.mono (HU5.out).size))
  clear hq
  refine hK.out _ _ (show DtAt _ _ _ from HX.out.1.below HU6.out) (fun hHeldU6 => ?_)
  clear hK K
  try simp only [Act.put, List.setIfInBounds_toArray, List.set_cons_zero, List.set_cons_succ]
  refine wpAnyH_take (i := 32) (v := .string ⟨(((((((((((((padL y 4 ++ [45]) ++ padL m 2) ++ [45]) ++ padL d 2) ++ [84]) ++ padL h 2) ++ [58]) ++ padL i 2) ++ [58]) ++ padL s 2) ++ [46]) ++ padL c 3)).toArray⟩) rfl (by kernel_rfl) (by kernel_rfl) (by kernel_rfl) (fun _ _ _ h => h) (Or.inl ⟨by rfl, fun w' hSw => ?y32z⟩) (by assumption) ?r32z
  case y32z =>
    go_simp
    rw [if_neg (by first | omega | (simp only [List.length_append, List.length_cons, List.length_nil]; omega))]
    exact congrArg (fun x => Result.ok (Next.value (Value.string x)) w') ((str_two _ _).trans (by simp))
  try simp only [Act.put, List.setIfInBounds_toArray, List.set_cons_zero, List.set_cons_succ]
  refine wpAnyH_take (i := 33) (v := ?v33) rfl (by kernel_rfl) (by kernel_rfl) (by kernel_rfl) (fun _ _ _ h => h) (Or.inl ⟨by rfl, fun w' hSw => ?y33⟩) (by assumption) ?r33
  case y33 =>
    go_simp
    try with_reducible rfl
  try simp only [Act.put, List.setIfInBounds_toArray, List.set_cons_zero, List.set_cons_succ]
  refine wpAnyH_done (by kernel_rfl) ?_ _
  have hG1 : padL y 4 ++ 45 :: (padL m 2 ++ 45 :: (padL d 2 ++ 84 :: (padL h 2 ++ 58 :: (padL i 2 ++ 58 :: (padL s 2 ++ 46 :: padL c 3))))) = dayL (padL y 4) (padL m 2) (padL d 2) ++ timeL (padL h 2) (padL i 2) (padL s 2) (padL c 3) := by simp [dayL, timeL]
  have lG : (dayL (padL y 4) (padL m 2) (padL d 2) ++ timeL (padL h 2) (padL i 2) (padL s 2) (padL c 3)).length ≤ 60 := by unfold dayL timeL; simp only [List.length_append, List.length_cons, List.length_nil]; omega
  obtain ⟨G, hG⟩ : ∃ G, dayL (padL y 4) (padL m 2) (padL d 2) ++ timeL (padL h 2) (padL i 2) (padL s 2) (padL c 3) = G := ⟨_, rfl⟩
  have HG := Lib.hid hG
  rw [hG] at hG1 lG
  rw [hG1]
  have HZ : Hid (Below w.heap.size w U6) := HX.out.2.trans (HU6.out.mono HX.out.2.size)
  clear hG hG1 l1 l2 l3 l4 l5 l6 l7 hHeld hHeldU0 hHeldU1 hHeldU2 hHeldU3 hHeldU4 hHeldU5 hHeldU6 HU0 HU1 HU2 HU3 HU4 HU5 HU6 HX
  have g0 : ¬ 9223372036854775807 < G.length + 1 := by omega
  rcases Int.lt_trichotomy z 0 with hz | hz | hz
  · obtain ⟨zn, hzn⟩ : ∃ n : Nat, -z = n := ⟨(-z).toNat, by omega⟩
    have hzl : zn ≤ 1440 := by omega
    have hZL : zoneL z = zoneP [45] (padL (zn / 60) 2) (padL (zn % 60) 2) := by
      unfold zoneL
      rw [if_neg (by omega), if_neg (by omega), hzn]; rfl
    have d1 : (z == 0) = false := by rw [beq_eq_false_iff_ne]; omega
    have l1 := padL_len (zn / 60) 2 (by omega) (by omega)
    have l2 := padL_len (zn % 60) 2 (by omega) (by omega)
    have e1 : (zn : Int) / 60 = ((zn / 60 : Nat) : Int) := by omega
    have e2 : (zn : Int) % 60 = ((zn % 60 : Nat) : Int) := by omega
    have p1 := rpadded2 (zn / 60) (by omega) U6
    have p2 := fun W => rpadded2 (zn % 60) (by omega) W
    obtain ⟨A, hA⟩ : ∃ A, padL (zn / 60) 2 = A := ⟨_, rfl⟩
    obtain ⟨C, hC⟩ : ∃ C, padL (zn % 60) 2 = C := ⟨_, rfl⟩
    obtain ⟨q, hq⟩ : ∃ q, zn / 60 = q := ⟨_, rfl⟩
    obtain ⟨r, hr⟩ : ∃ r, zn % 60 = r := ⟨_, rfl⟩
    rw [hA] at p1 l1 hZL
    rw [hC] at p2 l2 hZL
    rw [hq] at e1 p1
    rw [hr] at e2 p2
    have P1 := Lib.hid p1
    have P2 := Lib.hid p2
    have HZL := Lib.hid hZL
    have g1 : ¬ 9223372036854775807 < G.length + 1 + A.length := by omega
    have g2 : ¬ 9223372036854775807 < G.length + 1 + A.length + 1 := by omega
    have g3 : ¬ 9223372036854775807 < G.length + 1 + A.length + 1 + C.length := by omega
    clear hZL hA hC hq hr p1 p2
    go_wp2_with fail
    refine (P1.out).mono ?_
    rintro e V1 ⟨rfl, hb1⟩
    go_wp2_with fail
    refine (P2.out _).mono ?_
    rintro e V2 ⟨rfl, hb2⟩
    have HB := Lib.hid (HZ.out.trans ((hb1.trans (hb2.mono hb1.size)).mono HZ.out.size))
    clear hb1 hb2
    go_wp2
    go_ret2
    refine ⟨y, m, d, ?_, HV.out.1, HV.out.2.1, HB.out⟩
    rw [HF.out, HG.out, HZL.out]
    exact str_zone G [45] A C
  · subst hz
    go_wp2
    go_ret2
    refine ⟨y, m, d, ?_, HV.out.1, HV.out.2.1, HZ.out⟩
    rw [HF.out, HG.out]
    exact congrArg (fun x => Ending.returned (.tuple #[.string x, .int .i64 0])) (str_two G [90])
  · obtain ⟨zn, rfl⟩ : ∃ n : Nat, z = n := ⟨z.toNat, by omega⟩
    have hzl : zn ≤ 1440 := by omega
    have hZL : zoneL zn = zoneP [43] (padL (zn / 60) 2) (padL (zn % 60) 2) := by
      unfold zoneL
      rw [if_neg (by omega), if_pos (by omega)]; rfl
    have d1 : ((zn : Int) == 0) = false := by rw [beq_eq_false_iff_ne]; omega
    have d2 : ¬ ((zn : Int) < 0) := by omega
    have l1 := padL_len (zn / 60) 2 (by omega) (by omega)
    have l2 := padL_len (zn % 60) 2 (by omega) (by omega)
    have e1 : (zn : Int) / 60 = ((zn / 60 : Nat) : Int) := by omega
    have e2 : (zn : Int) % 60 = ((zn % 60 : Nat) : Int) := by omega
    have p1 := rpadded2 (zn / 60) (by omega) U6
    have p2 := fun W => rpadded2 (zn % 60) (by omega) W
    obtain ⟨A, hA⟩ : ∃ A, padL (zn / 60) 2 = A := ⟨_, rfl⟩
    obtain ⟨C, hC⟩ : ∃ C, padL (zn % 60) 2 = C := ⟨_, rfl⟩
    obtain ⟨q, hq⟩ : ∃ q, zn / 60 = q := ⟨_, rfl⟩
    obtain ⟨r, hr⟩ : ∃ r, zn % 60 = r := ⟨_, rfl⟩
    rw [hA] at p1 l1 hZL
    rw [hC] at p2 l2 hZL
    rw [hq] at e1 p1
    rw [hr] at e2 p2
    have P1 := Lib.hid p1
    have P2 := Lib.hid p2
    have HZL := Lib.hid hZL
    have g1 : ¬ 9223372036854775807 < G.length + 1 + A.length := by omega
    have g2 : ¬ 9223372036854775807 < G.length + 1 + A.length + 1 := by omega
    have g3 : ¬ 9223372036854775807 < G.length + 1 + A.length + 1 + C.length := by omega
    clear hZL hA hC hq hr p1 p2
    go_wp2_with fail
    refine (P1.out).mono ?_
    rintro e V1 ⟨rfl, hb1⟩
    go_wp2_with fail
    refine (P2.out _).mono ?_
    rintro e V2 ⟨rfl, hb2⟩
    have HB := Lib.hid (HZ.out.trans ((hb1.trans (hb2.mono hb1.size)).mono HZ.out.size))
    clear hb1 hb2
    go_wp2
    go_ret2
    refine ⟨y, m, d, ?_, HV.out.1, HV.out.2.1, HB.out⟩
    rw [HF.out, HG.out, HZL.out]
    exact str_zone G [43] A C

set_option maxRecDepth 100000 in
set_option maxHeartbeats 2000000 in
theorem rformat_no (ms z : Int) (h : ¬ (isT ms ∧ isZ z ∧ isT (ms + z * 60000))) (w : World) :
    Calls Tryd.prog 15 #[.int .i64 ms, .int .i64 z] w (fErr 2 w) := by
  have HD := Lib.hid (rdates_no ms z h w)
  clear h
  go_enter Tryd.func15, Tryd.ntmps15
  go_wp2_with fail
  refine (HD.out).mono ?_
  rintro e w1 ⟨rfl, hb⟩
  unfold zeroDate
  go_wp2
  go_ret2
  exact ⟨rfl, hb.alloc hb.size _⟩

end Go.Proofs.YtnegfiiecegbbaaDoor
