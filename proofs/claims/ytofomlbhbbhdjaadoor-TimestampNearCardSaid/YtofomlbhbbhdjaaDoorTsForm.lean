/- The contracts of the first form, readFull. -/
import Derived.Test.YtofomlbhbbhdjaaDoorTsSt
namespace Go.Proofs.YtofomlbhbbhdjaaDoor
open Go.RowKit

theorem rt_ii {a b c d : Int} (h : a = c) (k : b = d) : Ending.returned (.tuple #[.int .i64 a, .int .i64 b]) = .returned (.tuple #[.int .i64 c, .int .i64 d]) := by rw [h, k]
def fu1 (s : ByteArray) : CS := digitsC s ⟨0, false⟩ 4 4
def fu2 (s : ByteArray) : CS := expectC s (fu1 s) 45
def fu3 (s : ByteArray) : CS := digitsC s (fu2 s) 2 2
def fu4 (s : ByteArray) : CS := expectC s (fu3 s) 45
def fu5 (s : ByteArray) : CS := digitsC s (fu4 s) 2 2
def fu6 (s : ByteArray) : CS := if byN s (fu5 s).pos = 84 then (fu5 s).next else expectC s (fu5 s) 32
def fu7 (s : ByteArray) : CS := clockC s (fu6 s)
def fu8 (s : ByteArray) : CS := zoneC s (fu7 s)
def fuD (s : ByteArray) : D7 := ⟨(numC s 0 4 : Nat), (numC s (fu2 s).pos 2 : Nat), (numC s (fu4 s).pos 2 : Nat), (clkH s (fu6 s) : Nat), (clkI s (fu6 s) : Nat), (clkS s (fu6 s) : Nat), (clkM s (fu6 s) : Nat)⟩
def fuZ (s : ByteArray) (z : Int) : Int := zoneV s (fu7 s) z
noncomputable def fuV (s : ByteArray) (z : Int) : Int := if (fu8 s).bad = true then 0 else (fuD s).mV (fuZ s z)
noncomputable def fuE (s : ByteArray) (z : Int) : Int := if (fu8 s).bad = true then 20 else (fuD s).mE (fuZ s z)

set_option maxRecDepth 100000 in
set_option maxHeartbeats 8000000 in
theorem full_any (s : ByteArray) (B : Nat) (ref year zone : Int) (first : Bool) (w : World) (hc : CAt s B ⟨0, false⟩ w) (hg : Glob B w) :
    Calls Tryd.prog 51 #[cPtr B, .agg (hintsA ref year zone first)] w (FmOut s B (fuV s zone) (fuE s zone) (fu8 s).pos w) := by
  have N1 := fun W (h : CAt s B ⟨0, false⟩ W) => cnumber_any s B ⟨0, false⟩ 4 4 (by omega) (by omega) W h
  have N2 := fun W h => expect_any s B (fu1 s) 45 (by omega) W h
  have N3 := fun W h => cnumber_any s B (fu2 s) 2 2 (by omega) (by omega) W h
  have N4 := fun W h => expect_any s B (fu3 s) 45 (by omega) W h
  have N5 := fun W h => cnumber_any s B (fu4 s) 2 2 (by omega) (by omega) W h
  have N9 := fun W h => zone_any s B (fu7 s) zone W h
  have HC := Lib.hid hc
  have HG := Lib.hid hg
  clear hc hg
  unfold hintsA
  have HN := Lib.hid (And.intro N1 (And.intro N2 (And.intro N3 (And.intro N4 (And.intro N5 N9)))))
  clear N1 N2 N3 N4 N5 N9
  by_cases h6 : byN s (fu5 s).pos = 84
  · have e6 : fu6 s = (fu5 s).next := if_pos h6
    have N6 := Lib.hid (fun W h => take_yes s B (fu5 s) 84 W h h6 (by omega))
    rw [← e6] at N6
    clear e6 h6
    unfold cPtr at *
    go_enter Tryd.func51, Tryd.ntmps51
    have ST0 := Lib.hid (St.start HC.out ref year zone first)
    go_wp2_with fail
    refine (HN.out.1 _ ST0.out.c).mono ?_
    rintro e w1 ⟨rfl, h1, k1⟩
    have ST1 := Lib.hid (ST0.out.step h1 k1)
    clear h1 k1
    have a1 := ST1.out.dcell.1
    have f1 := ST1.out.d.free 0
    have SU1 := Lib.hid (ST1.out.s0 (numC s 0 4))
    go_wp2_with fail
    refine (HN.out.2.1 _ SU1.out.c).mono ?_
    rintro e w2 ⟨rfl, h2, k2⟩
    have ST2 := Lib.hid (SU1.out.step h2 k2)
    clear h2 k2
    clear a1 f1
    go_wp2_with fail
    refine (HN.out.2.2.1 _ ST2.out.c).mono ?_
    rintro e w3 ⟨rfl, h3, k3⟩
    have ST3 := Lib.hid (ST2.out.step h3 k3)
    clear h3 k3
    have a3 := ST3.out.dcell.2.1
    have f3 := ST3.out.d.free 1
    have SU3 := Lib.hid (ST3.out.s1 (numC s (fu2 s).pos 2))
    go_wp2_with fail
    refine (HN.out.2.2.2.1 _ SU3.out.c).mono ?_
    rintro e w4 ⟨rfl, h4, k4⟩
    have ST4 := Lib.hid (SU3.out.step h4 k4)
    clear h4 k4
    clear a3 f3
    go_wp2_with fail
    refine (HN.out.2.2.2.2.1 _ ST4.out.c).mono ?_
    rintro e w5 ⟨rfl, h5, k5⟩
    have ST5 := Lib.hid (ST4.out.step h5 k5)
    clear h5 k5
    have a5 := ST5.out.dcell.2.2.1
    have f5 := ST5.out.d.free 2
    have SU5 := Lib.hid (ST5.out.s2 (numC s (fu4 s).pos 2))
    go_wp2_with fail
    refine (N6.out _ SU5.out.c).mono ?_
    rintro e w6 ⟨rfl, h6, k6⟩
    have ST6 := Lib.hid (SU5.out.step h6 k6)
    clear h6 k6
    clear a5 f5
    go_wp2_with fail
    refine (ST6.out.clock).mono ?_
    rintro e w7 ⟨rfl, h7⟩
    have ST7 := Lib.hid h7
    clear h7
    have hz7 := ST7.out.hcell.2.2.1
    go_wp2_with fail
    refine (HN.out.2.2.2.2.2 _ ST7.out.c).mono ?_
    rintro e w8 ⟨rfl, h8, k8⟩
    have ST8 := Lib.hid (ST7.out.step h8 k8)
    clear h8 k8
    clear hz7
    have SZ := Lib.hid (show St s B (w.heap.size + 1) w.heap.size (fu8 s) (fuD s) (hintsA ref year zone first) w w8 from ST8.out)
    have hb2 := SZ.out.c.parts.2.2.1
    have hm := mil_any (fuD s) (fuZ s zone)
    cases hbad : (fu8 s).bad with
    | true =>
      rw [hbad] at hb2
      have HV := Lib.hid (show fuV s zone = 0 ∧ fuE s zone = 20 from ⟨if_pos hbad, if_pos hbad⟩)
      clear hm hbad
      go_wp2
      exact bodyPost_ret (v := .tuple #[.int .i64 0, .int .i64 20]) (by simp [results, Tryd.results51, go_sem]) rfl ⟨rt_ii HV.out.1.symm HV.out.2.symm, ⟨_, SZ.out.c⟩, SZ.out.f⟩
    | false =>
      rw [hbad] at hb2
      have hvv : fuV s zone = (fuD s).mV (fuZ s zone) ∧ fuE s zone = (fuD s).mE (fuZ s zone) := ⟨if_neg (by rw [hbad]; simp), if_neg (by rw [hbad]; simp)⟩
      obtain ⟨d0, d1, d2, d3, d4, d5, d6⟩ := SZ.out.dcell
      have hT := (SZ.out.glob HG.out).days
      have hv : zoneV s (fu7 s) zone = fuZ s zone := rfl
      rw [hv]
      obtain ⟨X, hX⟩ : ∃ X, fuD s = X := ⟨_, rfl⟩
      rw [hX] at hm d0 d1 d2 d3 d4 d5 d6 hvv
      obtain ⟨zz, hzz⟩ : ∃ zz, fuZ s zone = zz := ⟨_, rfl⟩
      rw [hzz] at hm hvv ⊢
      have HV := Lib.hid hvv
      have HM := Lib.hid (fun W h => hm W h)
      have HT := Lib.hid hT
      clear hm hT hX hv hzz hbad hvv
      go_wp2_with fail
      refine (HM.out _ HT.out).mono ?_
      rintro e wm ⟨rfl, hbm⟩
      go_wp2
      exact bodyPost_ret (v := .tuple #[.int .i64 (X.mV zz), .int .i64 (X.mE zz)]) (by simp [results, Tryd.results51, go_sem]) rfl ⟨rt_ii HV.out.1.symm HV.out.2.symm, ⟨_, SZ.out.c.below hbm⟩, SZ.out.f.below hbm⟩
  · have e6 : fu6 s = expectC s (fu5 s) 32 := if_neg h6
    have N6 := Lib.hid (fun W h => take_no s B (fu5 s) 84 W h h6)
    have N7 := Lib.hid (fun W h => expect_any s B (fu5 s) 32 (by omega) W h)
    rw [← e6] at N7
    clear e6 h6
    unfold cPtr at *
    go_enter Tryd.func51, Tryd.ntmps51
    have ST0 := Lib.hid (St.start HC.out ref year zone first)
    go_wp2_with fail
    refine (HN.out.1 _ ST0.out.c).mono ?_
    rintro e w1 ⟨rfl, h1, k1⟩
    have ST1 := Lib.hid (ST0.out.step h1 k1)
    clear h1 k1
    have a1 := ST1.out.dcell.1
    have f1 := ST1.out.d.free 0
    have SU1 := Lib.hid (ST1.out.s0 (numC s 0 4))
    go_wp2_with fail
    refine (HN.out.2.1 _ SU1.out.c).mono ?_
    rintro e w2 ⟨rfl, h2, k2⟩
    have ST2 := Lib.hid (SU1.out.step h2 k2)
    clear h2 k2
    clear a1 f1
    go_wp2_with fail
    refine (HN.out.2.2.1 _ ST2.out.c).mono ?_
    rintro e w3 ⟨rfl, h3, k3⟩
    have ST3 := Lib.hid (ST2.out.step h3 k3)
    clear h3 k3
    have a3 := ST3.out.dcell.2.1
    have f3 := ST3.out.d.free 1
    have SU3 := Lib.hid (ST3.out.s1 (numC s (fu2 s).pos 2))
    go_wp2_with fail
    refine (HN.out.2.2.2.1 _ SU3.out.c).mono ?_
    rintro e w4 ⟨rfl, h4, k4⟩
    have ST4 := Lib.hid (SU3.out.step h4 k4)
    clear h4 k4
    clear a3 f3
    go_wp2_with fail
    refine (HN.out.2.2.2.2.1 _ ST4.out.c).mono ?_
    rintro e w5 ⟨rfl, h5, k5⟩
    have ST5 := Lib.hid (ST4.out.step h5 k5)
    clear h5 k5
    have a5 := ST5.out.dcell.2.2.1
    have f5 := ST5.out.d.free 2
    have SU5 := Lib.hid (ST5.out.s2 (numC s (fu4 s).pos 2))
    go_wp2_with fail
    refine (N6.out _ SU5.out.c).mono ?_
    rintro e w6 ⟨rfl, h6, k6⟩
    have ST6 := Lib.hid (SU5.out.step h6 k6)
    clear h6 k6
    clear a5 f5
    go_wp2_with fail
    refine (N7.out _ ST6.out.c).mono ?_
    rintro e w7 ⟨rfl, h7, k7⟩
    have ST7 := Lib.hid (ST6.out.step h7 k7)
    clear h7 k7
    go_wp2_with fail
    refine (ST7.out.clock).mono ?_
    rintro e w8 ⟨rfl, h8⟩
    have ST8 := Lib.hid h8
    clear h8
    have hz8 := ST8.out.hcell.2.2.1
    go_wp2_with fail
    refine (HN.out.2.2.2.2.2 _ ST8.out.c).mono ?_
    rintro e w9 ⟨rfl, h9, k9⟩
    have ST9 := Lib.hid (ST8.out.step h9 k9)
    clear h9 k9
    clear hz8
    have SZ := Lib.hid (show St s B (w.heap.size + 1) w.heap.size (fu8 s) (fuD s) (hintsA ref year zone first) w w9 from ST9.out)
    have hb2 := SZ.out.c.parts.2.2.1
    have hm := mil_any (fuD s) (fuZ s zone)
    cases hbad : (fu8 s).bad with
    | true =>
      rw [hbad] at hb2
      have HV := Lib.hid (show fuV s zone = 0 ∧ fuE s zone = 20 from ⟨if_pos hbad, if_pos hbad⟩)
      clear hm hbad
      go_wp2
      exact bodyPost_ret (v := .tuple #[.int .i64 0, .int .i64 20]) (by simp [results, Tryd.results51, go_sem]) rfl ⟨rt_ii HV.out.1.symm HV.out.2.symm, ⟨_, SZ.out.c⟩, SZ.out.f⟩
    | false =>
      rw [hbad] at hb2
      have hvv : fuV s zone = (fuD s).mV (fuZ s zone) ∧ fuE s zone = (fuD s).mE (fuZ s zone) := ⟨if_neg (by rw [hbad]; simp), if_neg (by rw [hbad]; simp)⟩
      obtain ⟨d0, d1, d2, d3, d4, d5, d6⟩ := SZ.out.dcell
      have hT := (SZ.out.glob HG.out).days
      have hv : zoneV s (fu7 s) zone = fuZ s zone := rfl
      rw [hv]
      obtain ⟨X, hX⟩ : ∃ X, fuD s = X := ⟨_, rfl⟩
      rw [hX] at hm d0 d1 d2 d3 d4 d5 d6 hvv
      obtain ⟨zz, hzz⟩ : ∃ zz, fuZ s zone = zz := ⟨_, rfl⟩
      rw [hzz] at hm hvv ⊢
      have HV := Lib.hid hvv
      have HM := Lib.hid (fun W h => hm W h)
      have HT := Lib.hid hT
      clear hm hT hX hv hzz hbad hvv
      go_wp2_with fail
      refine (HM.out _ HT.out).mono ?_
      rintro e wm ⟨rfl, hbm⟩
      go_wp2
      exact bodyPost_ret (v := .tuple #[.int .i64 (X.mV zz), .int .i64 (X.mE zz)]) (by simp [results, Tryd.results51, go_sem]) rfl ⟨rt_ii HV.out.1.symm HV.out.2.symm, ⟨_, SZ.out.c.below hbm⟩, SZ.out.f.below hbm⟩
end Go.Proofs.YtofomlbhbbhdjaaDoor
