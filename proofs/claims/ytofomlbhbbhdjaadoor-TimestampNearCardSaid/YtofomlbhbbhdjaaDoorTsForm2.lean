/- The contract of the second form, readSyslog. -/
import Derived.Test.YtofomlbhbbhdjaaDoorTsForm
namespace Go.Proofs.YtofomlbhbbhdjaaDoor
open Go.RowKit

def sy1 (s : ByteArray) : CS := monthC s ⟨0, false⟩
def sy2 (s : ByteArray) : CS := expectC s (sy1 s) 32
def sy3 (s : ByteArray) : CS := takeC s (sy2 s) 32
def sy4 (s : ByteArray) : CS := digitsC s (sy3 s) 1 2
def sy5 (s : ByteArray) : CS := expectC s (sy4 s) 32
def sy6 (s : ByteArray) : CS := clockC s (sy5 s)
def syD (s : ByteArray) (y : Int) : D7 := ⟨y, (cmonN s ⟨0, false⟩ : Nat), (numC s (sy3 s).pos 2 : Nat), (clkH s (sy5 s) : Nat), (clkI s (sy5 s) : Nat), (clkS s (sy5 s) : Nat), (clkM s (sy5 s) : Nat)⟩
noncomputable def syV (s : ByteArray) (ref year z : Int) : Int := if (sy6 s).bad = true then 0 else if year = 0 then (neB (syD s 0) ref z).1 else (syD s year).mV z
noncomputable def syE (s : ByteArray) (ref year z : Int) : Int := if (sy6 s).bad = true then 20 else if year = 0 then (neB (syD s 0) ref z).2 else (syD s year).mE z

set_option maxRecDepth 100000 in
set_option maxHeartbeats 8000000 in
theorem syslog_any (s : ByteArray) (B : Nat) (ref year zone : Int) (first : Bool) (w : World) (hc : CAt s B ⟨0, false⟩ w) (hg : Glob B w) :
    Calls Tryd.prog 52 #[cPtr B, .agg (hintsA ref year zone first)] w (FmOut s B (syV s ref year zone) (syE s ref year zone) (sy6 s).pos w) := by
  have N1 := fun W (h : CAt s B ⟨0, false⟩ W) (hm : MonT W) => cmonth_any s B ⟨0, false⟩ W h hm hg.nm
  have N2 := fun W h => expect_any s B (sy1 s) 32 (by omega) W h
  have N3 := fun W h => take_any s B (sy2 s) 32 (by omega) W h
  have N4 := fun W h => cnumber_any s B (sy3 s) 1 2 (by omega) (by omega) W h
  have N5 := fun W h => expect_any s B (sy4 s) 32 (by omega) W h
  have HC := Lib.hid hc
  have HG := Lib.hid hg
  clear hc hg
  unfold hintsA
  have HN := Lib.hid (And.intro N1 (And.intro N2 (And.intro N3 (And.intro N4 N5))))
  clear N1 N2 N3 N4 N5
  unfold cPtr at *
  go_enter Tryd.func52, Tryd.ntmps52
  have ST0 := Lib.hid (St.start HC.out ref year zone first)
  go_wp2_with fail
  refine (HN.out.1 _ ST0.out.c (ST0.out.glob HG.out).mon).mono ?_
  rintro e w1 ⟨rfl, h1, k1⟩
  have ST1 := Lib.hid (ST0.out.step h1 k1)
  clear h1 k1
  have a1 := ST1.out.dcell.2.1
  have f1 := ST1.out.d.free 1
  have SU1 := Lib.hid (ST1.out.s1 (cmonN s ⟨0, false⟩))
  go_wp2_with fail
  refine (HN.out.2.1 _ SU1.out.c).mono ?_
  rintro e w2 ⟨rfl, h2, k2⟩
  have ST2 := Lib.hid (SU1.out.step h2 k2)
  clear h2 k2
  clear a1 f1
  go_wp2_with fail
  refine (HN.out.2.2.1 _ ST2.out.c).mono ?_
  rintro e w3 ⟨rfl, h3, k3⟩
  have ST3 := Lib.hid (ST2.out.step h3 k3)
  clear h3 k3
  go_wp2_with fail
  refine (HN.out.2.2.2.1 _ ST3.out.c).mono ?_
  rintro e w4 ⟨rfl, h4, k4⟩
  have ST4 := Lib.hid (ST3.out.step h4 k4)
  clear h4 k4
  have a4 := ST4.out.dcell.2.2.1
  have f4 := ST4.out.d.free 2
  have SU4 := Lib.hid (ST4.out.s2 (numC s (sy3 s).pos 2))
  go_wp2_with fail
  refine (HN.out.2.2.2.2 _ SU4.out.c).mono ?_
  rintro e w5 ⟨rfl, h5, k5⟩
  have ST5 := Lib.hid (SU4.out.step h5 k5)
  clear h5 k5
  clear a4 f4
  go_wp2_with fail
  refine (ST5.out.clock).mono ?_
  rintro e w6 ⟨rfl, h6⟩
  have ST6 := Lib.hid h6
  clear h6
  have SZ := Lib.hid (show St s B (w.heap.size + 1) w.heap.size (sy6 s) (syD s 0) (hintsA ref year zone first) w w6 from ST6.out)
  have hb2 := SZ.out.c.parts.2.2.1
  cases hbad : (sy6 s).bad with
  | true =>
    rw [hbad] at hb2
    have HV := Lib.hid (show syV s ref year zone = 0 ∧ syE s ref year zone = 20 from ⟨if_pos hbad, if_pos hbad⟩)
    clear hbad
    go_wp2
    exact bodyPost_ret (v := .tuple #[.int .i64 0, .int .i64 20]) (by simp [results, Tryd.results52, go_sem]) rfl ⟨rt_ii HV.out.1.symm HV.out.2.symm, ⟨_, SZ.out.c⟩, SZ.out.f⟩
  | false =>
    rw [hbad] at hb2
    obtain ⟨d0, d1, d2, d3, d4, d5, d6⟩ := SZ.out.dcell
    obtain ⟨i0, i1, i2, i3⟩ := SZ.out.hcell
    have hT := (SZ.out.glob HG.out).days
    by_cases hy : year = 0
    · have hvv : syV s ref year zone = (neB (syD s 0) ref zone).1 ∧ syE s ref year zone = (neB (syD s 0) ref zone).2 := ⟨by unfold syV; rw [hbad, if_neg (by simp), if_pos hy], by unfold syE; rw [hbad, if_neg (by simp), if_pos hy]⟩
      have hm := fun W h => nearest_any (syD s 0) ref zone W h
      obtain ⟨X, hX⟩ : ∃ X, syD s 0 = X := ⟨_, rfl⟩
      rw [hX] at hm d0 d1 d2 d3 d4 d5 d6 hvv
      rw [hy] at i1
      obtain ⟨⟨nv, ne⟩, hN⟩ : ∃ p, neB X ref zone = p := ⟨_, rfl⟩
      rw [hN] at hm hvv
      simp only at hm hvv
      have HM := Lib.hid (And.intro hm hT)
      have HV := Lib.hid hvv
      clear hm hT hX hN hvv hbad
      go_wp2_with fail
      refine (HM.out.1 _ HM.out.2).mono ?_
      rintro e wm ⟨rfl, hbm⟩
      go_wp2
      exact bodyPost_ret (v := .tuple #[.int .i64 nv, .int .i64 ne]) (by simp [results, Tryd.results52, go_sem]) rfl ⟨rt_ii HV.out.1.symm HV.out.2.symm, ⟨_, SZ.out.c.below hbm⟩, SZ.out.f.below hbm⟩
    · have hvv : syV s ref year zone = (syD s year).mV zone ∧ syE s ref year zone = (syD s year).mE zone := ⟨by unfold syV; rw [hbad, if_neg (by simp), if_neg hy], by unfold syE; rw [hbad, if_neg (by simp), if_neg hy]⟩
      have hm := fun W h => mil_any (syD s year) zone W h
      have e0 : (year == 0) = false := by rw [beq_eq_false_iff_ne]; exact hy
      have f0 := SZ.out.d.free 0
      have SY := Lib.hid (show St s B (w.heap.size + 1) w.heap.size (sy6 s) (syD s year) (hintsA ref year zone first) w _ from SZ.out.s0 year)
      have hT2 := (SY.out.glob HG.out).days
      have hX : ∃ a b c d f g, syD s year = ⟨year, a, b, c, d, f, g⟩ ∧ syD s 0 = ⟨0, a, b, c, d, f, g⟩ := ⟨_, _, _, _, _, _, rfl, rfl⟩
      obtain ⟨xa, xb, xc, xd, xf, xg, hX1, hX2⟩ := hX
      rw [hX1] at hm hvv
      rw [hX2] at d0 d1 d2 d3 d4 d5 d6
      simp only at hm d0 d1 d2 d3 d4 d5 d6
      obtain ⟨zv, hzv⟩ : ∃ v, D7.mV ⟨year, xa, xb, xc, xd, xf, xg⟩ zone = v := ⟨_, rfl⟩
      obtain ⟨ze, hze⟩ : ∃ v, D7.mE ⟨year, xa, xb, xc, xd, xf, xg⟩ zone = v := ⟨_, rfl⟩
      rw [hzv, hze] at hm hvv
      have HM := Lib.hid (And.intro hm hT2)
      have HV := Lib.hid hvv
      have hne : w.heap.size ≠ w.heap.size + 1 := by omega
      clear hm hT hT2 hX1 hX2 hzv hze hvv hbad hy
      go_wp2_with fail
      refine (HM.out.1 _ HM.out.2).mono ?_
      rintro e wm ⟨rfl, hbm⟩
      go_wp2
      exact bodyPost_ret (v := .tuple #[.int .i64 zv, .int .i64 ze]) (by simp [results, Tryd.results52, go_sem]) rfl ⟨rt_ii HV.out.1.symm HV.out.2.symm, ⟨_, SY.out.c.below hbm⟩, SY.out.f.below hbm⟩
end Go.Proofs.YtofomlbhbbhdjaaDoor
