/- The contracts of the third, the fourth and the fifth form: readSlashes, readEpoch, readClock. -/
import Derived.Test.YtofomlbhbbhdjaaDoorTsForm2
import Derived.Test.YtofomlbhbbhdjaaDoorTsDay
namespace Go.Proofs.YtofomlbhbbhdjaaDoor
open Go.RowKit

def sl1 (s : ByteArray) : CS := digitsC s ⟨0, false⟩ 1 2
def sl2 (s : ByteArray) : CS := expectC s (sl1 s) 47
def sl3 (s : ByteArray) : CS := digitsC s (sl2 s) 1 2
def sl4 (s : ByteArray) : CS := expectC s (sl3 s) 47
def sl5 (s : ByteArray) : CS := yearC s (sl4 s)
def sl6 (s : ByteArray) : CS := expectC s (sl5 s) 32
def sl7 (s : ByteArray) : CS := clockC s (sl6 s)
/-- The two numbers, as they stand. -/
def slA (s : ByteArray) : Nat := numC s 0 2
def slB (s : ByteArray) : Nat := numC s (sl2 s).pos 2
/-- The two numbers, month first. -/
def slM (s : ByteArray) (first : Bool) : Nat × Nat :=
  let p := if first = true then (slB s, slA s) else (slA s, slB s)
  if 12 < p.1 then (p.2, p.1) else p
def slD (s : ByteArray) (p : Nat × Nat) : D7 := ⟨yearV s (sl4 s), (p.1 : Nat), (p.2 : Nat), (clkH s (sl6 s) : Nat), (clkI s (sl6 s) : Nat), (clkS s (sl6 s) : Nat), (clkM s (sl6 s) : Nat)⟩
noncomputable def slV (s : ByteArray) (z : Int) (first : Bool) : Int := if (sl7 s).bad = true then 0 else (slD s (slM s first)).mV z
noncomputable def slE (s : ByteArray) (z : Int) (first : Bool) : Int := if (sl7 s).bad = true then 20 else (slD s (slM s first)).mE z
def epN (s : ByteArray) : Nat := dRun s 14 0
def epV (s : ByteArray) : Int := if epN s = 10 then (numC s 0 14 : Int) * 1000 else if epN s = 13 then (numC s 0 14 : Int) else 0
def epE (s : ByteArray) : Int := if epN s = 10 then 0 else if epN s = 13 then 0 else 20
def ckD (s : ByteArray) : D7 := ⟨0, 0, 0, (clkH s ⟨0, false⟩ : Nat), (clkI s ⟨0, false⟩ : Nat), (clkS s ⟨0, false⟩ : Nat), (clkM s ⟨0, false⟩ : Nat)⟩
def ckC (s : ByteArray) : CS := clockC s ⟨0, false⟩
noncomputable def ckV (s : ByteArray) (ref z : Int) : Int := if (ckC s).bad = true then 0 else (dyB (ckD s) ref z).1
noncomputable def ckE (s : ByteArray) (ref z : Int) : Int := if (ckC s).bad = true then 20 else (dyB (ckD s) ref z).2
theorem year_le {s : ByteArray} {p : CS} (h : p.pos ≤ s.size) : 0 ≤ yearV s p ∧ yearV s p ≤ 20000 := by
  have := numC_lt (s := s) (k := p.pos) (b := 4) h
  unfold yearV
  split
  · omega
  · split
    · omega
    · split <;> omega

set_option maxRecDepth 100000 in
set_option maxHeartbeats 8000000 in
theorem rclock_any (s : ByteArray) (B : Nat) (ref year zone : Int) (first : Bool) (w : World) (hc : CAt s B ⟨0, false⟩ w) (hg : Glob B w) :
    Calls Tryd.prog 55 #[cPtr B, .agg (hintsA ref year zone first)] w (FmOut s B (ckV s ref zone) (ckE s ref zone) (ckC s).pos w) := by
  have HC := Lib.hid hc
  have HG := Lib.hid hg
  clear hc hg
  unfold hintsA cPtr
  go_enter Tryd.func55, Tryd.ntmps55
  have ST0 := Lib.hid (St.start HC.out ref year zone first)
  go_wp2_with fail
  refine (ST0.out.clock).mono ?_
  rintro e w1 ⟨rfl, h1⟩
  have ST1 := Lib.hid h1
  clear h1
  have SZ := Lib.hid (show St s B (w.heap.size + 1) w.heap.size (ckC s) (ckD s) (hintsA ref year zone first) w w1 from ST1.out)
  have hb2 := SZ.out.c.parts.2.2.1
  cases hbad : (ckC s).bad with
  | true =>
    rw [hbad] at hb2
    have HV := Lib.hid (show ckV s ref zone = 0 ∧ ckE s ref zone = 20 from ⟨if_pos hbad, if_pos hbad⟩)
    clear hbad
    go_wp2
    exact bodyPost_ret (v := .tuple #[.int .i64 0, .int .i64 20]) (by simp [results, Tryd.results55, go_sem]) rfl ⟨rt_ii HV.out.1.symm HV.out.2.symm, ⟨_, SZ.out.c⟩, SZ.out.f⟩
  | false =>
    rw [hbad] at hb2
    obtain ⟨d0, d1, d2, d3, d4, d5, d6⟩ := SZ.out.dcell
    obtain ⟨i0, i1, i2, i3⟩ := SZ.out.hcell
    have hT := (SZ.out.glob HG.out).days
    have hvv : ckV s ref zone = (dyB (ckD s) ref zone).1 ∧ ckE s ref zone = (dyB (ckD s) ref zone).2 := ⟨if_neg (by rw [hbad]; simp), if_neg (by rw [hbad]; simp)⟩
    have hm := fun W h => nearestDay_any (ckD s) ref zone W h
    obtain ⟨X, hX⟩ : ∃ X, ckD s = X := ⟨_, rfl⟩
    rw [hX] at hm d0 d1 d2 d3 d4 d5 d6 hvv
    obtain ⟨⟨nv, ne⟩, hN⟩ : ∃ p, dyB X ref zone = p := ⟨_, rfl⟩
    rw [hN] at hm hvv
    simp only at hm hvv
    have HM := Lib.hid (And.intro hm hT)
    have HV := Lib.hid hvv
    clear hm hT hX hN hvv hbad
    go_wp2_with fail
    refine (HM.out.1 _ HM.out.2).mono ?_
    rintro e wm ⟨rfl, hbm⟩
    go_wp2
    exact bodyPost_ret (v := .tuple #[.int .i64 nv, .int .i64 ne]) (by simp [results, Tryd.results55, go_sem]) rfl ⟨rt_ii HV.out.1.symm HV.out.2.symm, ⟨_, SZ.out.c.below hbm⟩, SZ.out.f.below hbm⟩

set_option maxRecDepth 100000 in
set_option maxHeartbeats 8000000 in
theorem epoch_any (s : ByteArray) (B : Nat) (ref year zone : Int) (first : Bool) (w : World) (hc : CAt s B ⟨0, false⟩ w) :
    Calls Tryd.prog 54 #[cPtr B, .agg (hintsA ref year zone first)] w (FmOut s B (epV s) (epE s) (epN s) w) := by
  have hd := fun W h => digits_any s B ⟨0, false⟩ 10 14 (by omega) (by omega) W h
  have hn := fun W => numE (s := s) (k := 0) (b := 14) (Nat.zero_le _) (by omega) W
  have hlt := numC_lt (s := s) (k := 0) (b := 14) (Nat.zero_le _)
  have hsz := extr_size (dRun_in s 14 0 (Nat.zero_le _))
  have hpos : (digitsC s ⟨0, false⟩ 10 14).pos = epN s := Nat.zero_add _
  have hv : epV s = if epN s = 10 then (numC s 0 14 : Int) * 1000 else if epN s = 13 then (numC s 0 14 : Int) else 0 := rfl
  have he : epE s = if epN s = 10 then 0 else if epN s = 13 then 0 else 20 := rfl
  have hr : dRun s 14 0 = epN s := rfl
  simp only at hd
  obtain ⟨E, hE⟩ : ∃ E, s.extract 0 (0 + dRun s 14 0) = E := ⟨_, rfl⟩
  rw [hE] at hd hn hsz
  rw [hr] at hsz
  obtain ⟨⟨q, qb⟩, hq⟩ : ∃ q, digitsC s ⟨0, false⟩ 10 14 = q := ⟨_, rfl⟩
  rw [hq] at hd hpos
  simp only at hpos
  subst hpos
  obtain ⟨v, hvv⟩ : ∃ v, numC s 0 14 = v := ⟨_, rfl⟩
  rw [hvv] at hn hlt hv
  obtain ⟨V, hV⟩ : ∃ V, epV s = V := ⟨_, rfl⟩
  obtain ⟨R, hR⟩ : ∃ V, epE s = V := ⟨_, rfl⟩
  obtain ⟨n, hnn⟩ : ∃ n, epN s = n := ⟨_, rfl⟩
  rw [hV, hnn] at hv
  rw [hR, hnn] at he
  rw [hnn] at hsz hd
  rw [hV, hR, hnn]
  have H := Lib.hid (And.intro hd hn)
  have HC := Lib.hid hc
  unfold hintsA
  clear hd hn hE hq hvv hV hR hnn hc hr
  unfold cPtr at *
  have hm : 0 ≤ (v : Int) * 1000 ∧ (v : Int) * 1000 ≤ 100000000000000000 := by omega
  by_cases h10 : n = 10
  · have HV : Hid (V = (v : Int) * 1000 ∧ R = 0) := ⟨by rw [hv, if_pos h10], by rw [he, if_pos h10]⟩
    have e1 : ((E.size : Int) == 10) = true := by rw [beq_iff_eq]; omega
    clear hv he hsz
    go_enter Tryd.func54, Tryd.ntmps54
    go_wp2_with fail
    refine (H.out.1 _ (HC.out.alloc _)).mono ?_
    rintro e w1 ⟨rfl, h1, k1⟩
    go_wp2_with fail
    refine (H.out.2 _).mono ?_
    rintro e w2 ⟨⟨x, rfl⟩, hb2⟩
    have HF := Lib.hid (And.intro (h1.below hb2) ((((FrP.refl _ w).alloc (.cells #[.int .i64 ref, .int .i64 year, .int .i64 zone, .bool first] 56)).trans k1).below hb2))
    clear h1 k1 hb2
    go_wp2
    exact bodyPost_ret (v := .tuple #[.int .i64 ((v : Int) * 1000), .int .i64 0]) (by simp [results, Tryd.results54, go_sem]) rfl ⟨rt_ii HV.out.1.symm HV.out.2.symm, ⟨_, HF.out.1⟩, HF.out.2⟩
  · have e1 : ((E.size : Int) == 10) = false := by rw [beq_eq_false_iff_ne]; omega
    by_cases h13 : n = 13
    · have HV : Hid (V = (v : Int) ∧ R = 0) := ⟨by rw [hv, if_neg h10, if_pos h13], by rw [he, if_neg h10, if_pos h13]⟩
      have e2 : ((E.size : Int) == 13) = true := by rw [beq_iff_eq]; omega
      clear hv he hsz
      go_enter Tryd.func54, Tryd.ntmps54
      go_wp2_with fail
      refine (H.out.1 _ (HC.out.alloc _)).mono ?_
      rintro e w1 ⟨rfl, h1, k1⟩
      go_wp2_with fail
      refine (H.out.2 _).mono ?_
      rintro e w2 ⟨⟨x, rfl⟩, hb2⟩
      have HF := Lib.hid (And.intro (h1.below hb2) ((((FrP.refl _ w).alloc (.cells #[.int .i64 ref, .int .i64 year, .int .i64 zone, .bool first] 56)).trans k1).below hb2))
      clear h1 k1 hb2
      go_wp2
      exact bodyPost_ret (v := .tuple #[.int .i64 (v : Int), .int .i64 0]) (by simp [results, Tryd.results54, go_sem]) rfl ⟨rt_ii HV.out.1.symm HV.out.2.symm, ⟨_, HF.out.1⟩, HF.out.2⟩
    · have HV : Hid (V = 0 ∧ R = 20) := ⟨by rw [hv, if_neg h10, if_neg h13], by rw [he, if_neg h10, if_neg h13]⟩
      have e2 : ((E.size : Int) == 13) = false := by rw [beq_eq_false_iff_ne]; omega
      clear hv he hsz
      go_enter Tryd.func54, Tryd.ntmps54
      go_wp2_with fail
      refine (H.out.1 _ (HC.out.alloc _)).mono ?_
      rintro e w1 ⟨rfl, h1, k1⟩
      go_wp2_with fail
      refine (H.out.2 _).mono ?_
      rintro e w2 ⟨⟨x, rfl⟩, hb2⟩
      have HF := Lib.hid (And.intro (h1.below hb2) ((((FrP.refl _ w).alloc (.cells #[.int .i64 ref, .int .i64 year, .int .i64 zone, .bool first] 56)).trans k1).below hb2))
      clear h1 k1 hb2
      go_wp2
      exact bodyPost_ret (v := .tuple #[.int .i64 0, .int .i64 20]) (by simp [results, Tryd.results54, go_sem]) rfl ⟨rt_ii HV.out.1.symm HV.out.2.symm, ⟨_, HF.out.1⟩, HF.out.2⟩

set_option maxRecDepth 100000 in
set_option maxHeartbeats 8000000 in
theorem slashes_bad (s : ByteArray) (B : Nat) (ref year zone : Int) (first : Bool) (w : World) (hc : CAt s B ⟨0, false⟩ w) (hg : Glob B w) (hbd : (sl7 s).bad = true) :
    Calls Tryd.prog 53 #[cPtr B, .agg (hintsA ref year zone first)] w (FmOut s B (slV s zone first) (slE s zone first) (sl7 s).pos w) := by
  have N1 := fun W (h : CAt s B ⟨0, false⟩ W) => cnumber_any s B ⟨0, false⟩ 1 2 (by omega) (by omega) W h
  have N2 := fun W h => expect_any s B (sl1 s) 47 (by omega) W h
  have N3 := fun W h => cnumber_any s B (sl2 s) 1 2 (by omega) (by omega) W h
  have N4 := fun W h => expect_any s B (sl3 s) 47 (by omega) W h
  have N5 := fun W h => year_any s B (sl4 s) W h
  have N6 := fun W h => expect_any s B (sl5 s) 32 (by omega) W h
  have HC := Lib.hid hc
  have HG := Lib.hid hg
  clear hc hg
  unfold hintsA
  have HN := Lib.hid (And.intro N1 (And.intro N2 (And.intro N3 (And.intro N4 (And.intro N5 N6)))))
  clear N1 N2 N3 N4 N5 N6
  unfold cPtr at *
  go_enter Tryd.func53, Tryd.ntmps53
  have ST0 := Lib.hid (St.start HC.out ref year zone first)
  go_wp2_with fail
  refine (HN.out.1 _ ST0.out.c).mono ?_
  rintro e w1 ⟨rfl, h1, k1⟩
  have ST1 := Lib.hid (ST0.out.step h1 k1)
  clear h1 k1
  have a1 := ST1.out.dcell.2.1
  have f1 := ST1.out.d.free 1
  have SU1 := Lib.hid (ST1.out.s1 (slA s))
  go_wp2_with fail
  refine (HN.out.2.1 _ SU1.out.c).mono ?_
  rintro e w2 ⟨rfl, h2, k2⟩
  have ST2 := Lib.hid (SU1.out.step h2 k2)
  clear h2 k2
  clear a1 f1
  go_wp2_with fail
  refine (HN.out.2.2.1 _ ST2.out.c).mono ?_
  rintro e w3 ⟨rfl, h3, k3⟩
  have ST3 := Lib.hid (ST2.out.step h3 k3)
  clear h3 k3
  have a3 := ST3.out.dcell.2.2.1
  have f3 := ST3.out.d.free 2
  have SU3 := Lib.hid (ST3.out.s2 (slB s))
  go_wp2_with fail
  refine (HN.out.2.2.2.1 _ SU3.out.c).mono ?_
  rintro e w4 ⟨rfl, h4, k4⟩
  have ST4 := Lib.hid (SU3.out.step h4 k4)
  clear h4 k4
  clear a3 f3
  go_wp2_with fail
  refine (HN.out.2.2.2.2.1 _ ST4.out.c).mono ?_
  rintro e w5 ⟨rfl, h5, k5⟩
  have ST5 := Lib.hid (ST4.out.step h5 k5)
  clear h5 k5
  have a5 := ST5.out.dcell.1
  have f5 := ST5.out.d.free 0
  have SU5 := Lib.hid (ST5.out.s0 (yearV s (sl4 s)))
  go_wp2_with fail
  refine (HN.out.2.2.2.2.2 _ SU5.out.c).mono ?_
  rintro e w6 ⟨rfl, h6, k6⟩
  have ST6 := Lib.hid (SU5.out.step h6 k6)
  clear h6 k6
  clear a5 f5
  go_wp2_with fail
  refine (ST6.out.clock).mono ?_
  rintro e w7 ⟨rfl, h7⟩
  have ST7 := Lib.hid h7
  clear h7
  have SZ := Lib.hid (show St s B (w.heap.size + 1) w.heap.size (sl7 s) (slD s (slA s, slB s)) (hintsA ref year zone first) w w7 from ST7.out)
  have hb2 := SZ.out.c.parts.2.2.1
  cases hbad : (sl7 s).bad with
  | true =>
    rw [hbad] at hb2
    have HV := Lib.hid (show slV s zone first = 0 ∧ slE s zone first = 20 from ⟨if_pos hbad, if_pos hbad⟩)
    clear hbad
    go_wp2
    exact bodyPost_ret (v := .tuple #[.int .i64 0, .int .i64 20]) (by simp [results, Tryd.results53, go_sem]) rfl ⟨rt_ii HV.out.1.symm HV.out.2.symm, ⟨_, SZ.out.c⟩, SZ.out.f⟩
  | false => rw [hbd] at hbad; cases hbad
end Go.Proofs.YtofomlbhbbhdjaaDoor
