/- The contract of the reference's clock with a fraction of a second. -/
import Derived.Test.YtpbfgafkoodeoaaDoorTsRclk
namespace Go.Proofs.YtpbfgafkoodeoaaDoor
open Go.RowKit

theorem RSt.at {s : ByteArray} {n : Nat} {q : CS} {x : D7} {w0 w : World} (h : RSt s n q x w0 w) (k : Nat) : RSt s n ⟨k, q.bad⟩ x w0 (w.setCell ⟨n, 1, none⟩ (.int .i64 (k : Int))) :=
  ⟨h.c.set 1 _, h.d.other 1 _ (by omega), h.r.other 1 _ (by omega), h.t.other 1 _ (by omega), h.b.setCell (p := ⟨n, 1, none⟩) (Nat.le_refl _) _, h.hn⟩
theorem RSt.drew {s : ByteArray} {n : Nat} {q : CS} {x : D7} {w0 w : World} (h : RSt s n q x w0 w) : RSt s n q x w0 w.drew := ⟨h.c, h.d, h.r, h.t, h.b.drew, h.hn⟩
/-- The milliseconds that k digits give. -/
def frT (s : ByteArray) (k : Nat) : List UInt8 := subL s k (dRun s 9 k) ++ [48, 48]
def frM (s : ByteArray) (k j : Nat) : Nat := valD ((frT s k).take j)
theorem frM_lt {s : ByteArray} {k j : Nat} (hk : k ≤ s.size) (hj : j ≤ 3) : frM s k j < 1000 := by
  have h2 : allD (frT s k) = true := by
    have ha := run_all (s := s) (n := 9) hk
    unfold frT allD at *
    rw [List.all_append, ha]; rfl
  have h3 : allD ((frT s k).take j) = true := by
    unfold allD at *
    rw [List.all_eq_true] at h2 ⊢
    exact fun x hx => h2 x (List.mem_of_mem_take hx)
  exact valD_bd _ 3 h3 (by rw [List.length_take]; omega)
theorem frM_in {s : ByteArray} {k j : Nat} (hk : k ≤ s.size) (hj : j < dRun s 9 k) : ∃ h : k + j < s.size, frM s k (j + 1) = 10 * frM s k j + (s[k + j].toNat - 48) ∧ 48 ≤ s[k + j].toNat ∧ s[k + j].toNat ≤ 57 := by
  have hin := dRun_in s 9 k hk
  have hd := dRun_dig s 9 k j hj
  have h : k + j < s.size := by omega
  rw [byN_in s _ h] at hd
  have hl : (subL s k (dRun s 9 k)).length = dRun s 9 k := subL_len hin
  refine ⟨h, ?_, by simpa [digB] using hd⟩
  unfold frM
  rw [take_snoc' (frT s k) j (by unfold frT; rw [List.length_append, hl]; omega), valD_snoc]
  have e : (frT s k)[j]'(by unfold frT; rw [List.length_append, hl]; omega) = s[k + j] := by
    unfold frT
    rw [List.getElem_append_left (by omega)]
    unfold subL
    simp only [extract_list]
    rw [List.getElem_drop, List.getElem_take]
    rfl
  rw [e]
theorem frM_out {s : ByteArray} {k j : Nat} (hk : k ≤ s.size) (hj : ¬ j < dRun s 9 k) (hj3 : j < 3) (h1 : 1 ≤ dRun s 9 k) : frM s k (j + 1) = 10 * frM s k j := by
  have hin := dRun_in s 9 k hk
  have hl : (subL s k (dRun s 9 k)).length = dRun s 9 k := subL_len hin
  have hlt : j < (frT s k).length := by unfold frT; rw [List.length_append, hl]; simp; omega
  unfold frM
  rw [take_snoc' (frT s k) j hlt, valD_snoc]
  have e : (frT s k)[j]? = some 48 := by
    unfold frT
    rw [List.getElem?_append_right (by omega)]
    have h2 : j - (subL s k (dRun s 9 k)).length = 0 ∨ j - (subL s k (dRun s 9 k)).length = 1 := by omega
    rcases h2 with h2 | h2 <;> rw [h2] <;> rfl
  rw [List.getElem?_eq_getElem hlt] at e
  rw [Option.some.inj e]; rfl
theorem clockC_in {s : ByteArray} {p : CS} (hf : fracB s (clkC s p) = true) (hn : 1 ≤ dRun s 9 ((clkC s p).pos + 1)) : clockC s p = digitsC s ⟨(clkC s p).pos + 1, (clkC s p).bad⟩ 1 9 := by
  unfold clockC fracC digitsC
  rw [if_pos hf]
  simp only [decide_eq_false (show ¬ dRun s 9 ((clkC s p).pos + 1) < 1 by omega), Bool.or_false]
theorem clkM_in {s : ByteArray} {p : CS} (hf : fracB s (clkC s p) = true) : clkM s p = frM s ((clkC s p).pos + 1) 3 := by
  unfold clkM fracV
  rw [if_pos hf]; rfl

set_option maxRecDepth 100000 in
set_option linter.unusedSimpArgs false in
set_option maxHeartbeats 16000000 in
theorem rclk_frac46 (s : ByteArray) (p : CS) (y m d : Int) (hk : p.pos ≤ s.size) (hs : s.size ≤ 20000) (hb : (clkC s p).bad = false) (he : (clkC s p).pos + 1 < s.size) (h1 : byN s (clkC s p).pos = 46) (h2 : digB (byN s ((clkC s p).pos + 1)) = true) (w : World) :
    Calls Tryd.prog 24 #[rcV s p, .agg #[.int .i64 y, .int .i64 m, .int .i64 d, .int .i64 0, .int .i64 0, .int .i64 0, .int .i64 0]] w fun e w' => e = .returned (.tuple #[rcV s (clockC s p), .agg #[.int .i64 y, .int .i64 m, .int .i64 d, .int .i64 (clkH s p : Nat), .int .i64 (clkI s p : Nat), .int .i64 (clkS s p : Nat), .int .i64 (frM s ((clkC s p).pos + 1) 3 : Nat)]]) ∧ Below w.heap.size w w' := by
  have i1 : (kq1 s p).pos ≤ s.size := digitsC_in hk
  have i2 : (kq2 s p).pos ≤ s.size := expectC_in i1 (by omega)
  have i3 : (kq3 s p).pos ≤ s.size := digitsC_in i2
  have i4 : (kq4 s p).pos ≤ s.size := expectC_in i3 (by omega)
  have i5 : (clkC s p).pos ≤ s.size := digitsC_in i4
  have N1 := fun W => rcV_number s p 2 2 hk hs (by omega) (by omega) W
  have N2 := fun W => rcV_byte s (kq1 s p) 58 i1 hs (by omega) W
  have N3 := fun W => rcV_number s (kq2 s p) 2 2 i2 hs (by omega) (by omega) W
  have N4 := fun W => rcV_byte s (kq3 s p) 58 i3 hs (by omega) W
  have N5 := fun W => rcV_number s (kq4 s p) 2 2 i4 hs (by omega) (by omega) W
  have HN := Lib.hid (And.intro N1 (And.intro N2 (And.intro N3 (And.intro N4 N5))))
  clear N1 N2 N3 N4 N5 i1 i2 i3 i4
  have hf : fracB s (clkC s p) = true := by unfold fracB; rw [hb, h1, h2]; rfl
  have HF := Lib.hid hf
  clear hf
  have hb2 : (!(clkC s p).bad) = true := by rw [hb]; rfl
  have hd1 : decide ((s.size : Int) ≤ ((clkC s p).pos : Int) + 1) = false := by rw [decide_eq_false_iff_not]; omega
  have hlt : (clkC s p).pos < s.size := by omega
  rw [byN_in s _ hlt] at h1
  have q1 : ((s[(clkC s p).pos].toNat : Int) == 46) = true := by rw [beq_iff_eq]; omega
  have q2 : ((s[(clkC s p).pos].toNat : Int) != 46) = false := by rw [bne_eq_false_iff_eq]; omega
  have q3 : ((s[(clkC s p).pos].toNat : Int) == 44) = false := by rw [beq_eq_false_iff_ne]; omega
  have q4 : ((s[(clkC s p).pos].toNat : Int) != 44) = true := by rw [bne_iff_ne]; omega
  have hrd := fun W => rdigit_any s[(clkC s p).pos + 1].toNat W
  rw [byN_in s _ he] at h2
  rw [h2] at hrd
  have h2' := h2
  have HRD := Lib.hid hrd
  clear h1 h2 hrd
  unfold rcV at *
  have RS0 := Lib.hid (show RSt s w.heap.size p ⟨y, m, d, 0, 0, 0, 0⟩ w ((((w.alloc (.cells #[.string s, .int .i64 (p.pos : Int), .bool (!p.bad)] 67)).alloc (.cells #[.int .i64 y, .int .i64 m, .int .i64 d, .int .i64 0, .int .i64 0, .int .i64 0, .int .i64 0] 38)).alloc (.cells #[.string ⟨#[]⟩, .int .i64 0, .bool false] 67)).alloc (.cells #[.int .i64 0, .int .i64 0, .int .i64 0, .int .i64 0, .int .i64 0, .int .i64 0, .int .i64 0] 38)) from RSt.start s p ⟨y, m, d, 0, 0, 0, 0⟩ w)
  obtain ⟨n, hn⟩ : ∃ n, w.heap.size = n := ⟨_, rfl⟩
  go_enter Tryd.func24, Tryd.ntmps24
  go_wp2_with fail
  obtain ⟨X, hX⟩ : ∃ X, (((w.alloc (.cells #[.string s, .int .i64 (p.pos : Int), .bool (!p.bad)] 67)).alloc (.cells #[.int .i64 y, .int .i64 m, .int .i64 d, .int .i64 0, .int .i64 0, .int .i64 0, .int .i64 0] 38)).alloc (.cells #[.string ⟨#[]⟩, .int .i64 0, .bool false] 67)).alloc (.cells #[.int .i64 0, .int .i64 0, .int .i64 0, .int .i64 0, .int .i64 0, .int .i64 0, .int .i64 0] 38) = X := ⟨_, rfl⟩
  rw [hX, hn] at RS0
  rw [hX]
  have HNN := Lib.hid hn
  clear hX hn
  have nn1 : n ≠ n + 1 := by omega
  have nn2 : n + 1 ≠ n := by omega
  go_wp2_with fail
  refine (HN.out.1 _).mono ?_
  rintro e w1 ⟨rfl, hb1⟩
  skip
  have RT1 := Lib.hid (RS0.out.below hb1)
  obtain ⟨c0, c1, c2, g0, g1, g2⟩ := RT1.out.cf
  have d0 := RT1.out.d.cell 3
  have f0 := RT1.out.d.free 3
  have RS1 := Lib.hid ((RT1.out.put (q' := kq1 s p)).s3 (clkH s p))
  clear hb1
  go_wp2_with fail
  refine (HN.out.2.1 _).mono ?_
  rintro e w2 ⟨rfl, hb2⟩
  clear c0 c1 c2 g0 g1 g2 d0 f0
  have RT2 := Lib.hid (RS1.out.below hb2)
  obtain ⟨c0, c1, c2, g0, g1, g2⟩ := RT2.out.cf
  have RS2 := Lib.hid (RT2.out.put (q' := kq2 s p))
  clear hb2
  go_wp2_with fail
  refine (HN.out.2.2.1 _).mono ?_
  rintro e w3 ⟨rfl, hb3⟩
  clear c0 c1 c2 g0 g1 g2
  have RT3 := Lib.hid (RS2.out.below hb3)
  obtain ⟨c0, c1, c2, g0, g1, g2⟩ := RT3.out.cf
  have d0 := RT3.out.d.cell 4
  have f0 := RT3.out.d.free 4
  have RS3 := Lib.hid ((RT3.out.put (q' := kq3 s p)).s4 (clkI s p))
  clear hb3
  go_wp2_with fail
  refine (HN.out.2.2.2.1 _).mono ?_
  rintro e w4 ⟨rfl, hb4⟩
  clear c0 c1 c2 g0 g1 g2 d0 f0
  have RT4 := Lib.hid (RS3.out.below hb4)
  obtain ⟨c0, c1, c2, g0, g1, g2⟩ := RT4.out.cf
  have RS4 := Lib.hid (RT4.out.put (q' := kq4 s p))
  clear hb4
  go_wp2_with fail
  refine (HN.out.2.2.2.2 _).mono ?_
  rintro e w5 ⟨rfl, hb5⟩
  clear c0 c1 c2 g0 g1 g2
  have RT5 := Lib.hid (RS4.out.below hb5)
  obtain ⟨c0, c1, c2, g0, g1, g2⟩ := RT5.out.cf
  have d0 := RT5.out.d.cell 5
  have f0 := RT5.out.d.free 5
  have RS5 := Lib.hid ((RT5.out.put (q' := clkC s p)).s5 (clkS s p))
  clear hb5
  have RF := Lib.hid (show RSt s n (clkC s p) ⟨y, m, d, (clkH s p : Nat), (clkI s p : Nat), (clkS s p : Nat), 0⟩ w _ from RS5.out)
  have hcc : digitsC s (kq4 s p) 2 2 = clkC s p := rfl
  rw [hcc]
  clear hb
  go_wp2_with fail
  refine (HRD.out _).mono ?_
  rintro e w' ⟨rfl, rfl⟩
  go_upto_region 8 with (fail)
  have RG : RSt s n (clkC s p) ⟨y, m, d, (clkH s p : Nat), (clkI s p : Nat), (clkS s p : Nat), 0⟩ w ((((w5.setCell ⟨n, 0, none⟩ (.string s)).setCell ⟨n, 1, none⟩ (.int .i64 ((clkC s p).pos : Int))).setCell ⟨n, 2, none⟩ (.bool true)).setCell ⟨n + 1, 5, none⟩ (.int .i64 (numC s (kq4 s p).pos 2 : Nat))) := by
    have h := RF.out
    unfold rput3 at h
    rw [hb2] at h
    exact h
  obtain ⟨W, hW⟩ : ∃ W, (((w5.setCell ⟨n, 0, none⟩ (.string s)).setCell ⟨n, 1, none⟩ (.int .i64 ((clkC s p).pos : Int))).setCell ⟨n, 2, none⟩ (.bool true)).setCell ⟨n + 1, 5, none⟩ (.int .i64 (numC s (kq4 s p).pos 2 : Nat)) = W := ⟨_, rfl⟩
  rw [hW] at RG ⊢
  have RW := Lib.hid RG
  clear c0 c1 c2 g0 g1 g2 d0 f0 RG hW RF RS5 RT5 hcc HN HRD q1 q2 q3 q4 hd1 RS0 RS1 RS2 RS3 RS4 RT1 RT2 RT3 RT4
  obtain ⟨c0, c1, c2, g0, g1, g2⟩ := RW.out.cf
  rw [hb2] at c2
  have hnx : (clkC s p).next.pos ≤ s.size := by show (clkC s p).pos + 1 ≤ s.size; omega
  have N6 := fun W => rcV_number s (clkC s p).next 1 9 hnx hs (by omega) (by omega) W
  unfold rcV CS.next at N6
  simp only at N6
  rw [hb2] at N6
  push_cast at N6
  have HN6 := Lib.hid N6
  have RU := Lib.hid (RW.out.at ((clkC s p).pos + 1))
  clear N6
  obtain ⟨qf, hqf⟩ : ∃ q, digitsC s ⟨(clkC s p).pos + 1, (clkC s p).bad⟩ 1 9 = q := ⟨_, rfl⟩
  have hqp : (qf.pos : Int) = ((clkC s p).pos : Int) + 1 + (dRun s 9 ((clkC s p).pos + 1) : Nat) := by rw [← hqf]; unfold digitsC; push_cast; rfl
  have hN1 : 1 ≤ dRun s 9 ((clkC s p).pos + 1) := by
    unfold dRun
    rw [if_pos (by rw [byN_in s _ he]; exact h2')]; omega
  have hqb : (!qf.bad) = true := by
    rw [← hqf]; unfold digitsC
    rw [show (clkC s p).bad = false by simpa using hb2, decide_eq_false (by simp only; omega)]; rfl
  rw [hqf] at HN6
  rw [hqb] at HN6
  have HQ := Lib.hid (And.intro hqf hqb)
  have hM0 : frM s ((clkC s p).pos + 1) 0 = 0 := rfl
  obtain ⟨N, hN⟩ : ∃ N, dRun s 9 ((clkC s p).pos + 1) = N := ⟨_, rfl⟩
  rw [hN] at hqp hN1
  have HNN2 := Lib.hid (And.intro hN (And.intro hN1 hM0))
  have HQP := Lib.hid hqp
  clear hqf hqb hN hN1 hM0 hqp
  go_wp2_with fail
  refine (HN6.out _).mono ?_
  rintro e w6 ⟨rfl, hb6⟩
  have RT6 := Lib.hid (RU.out.below hb6)
  clear c0 c1 c2 g0 g1 g2 hb6
  obtain ⟨c0, c1, c2, g0, g1, g2⟩ := RT6.out.cf
  have RS6 := Lib.hid (show RSt s n qf ⟨y, m, d, (clkH s p : Nat), (clkI s p : Nat), (clkS s p : Nat), 0⟩ w (((w6.setCell ⟨n, 0, none⟩ (.string s)).setCell ⟨n, 1, none⟩ (.int .i64 (qf.pos : Int))).setCell ⟨n, 2, none⟩ (.bool true)) by
    have h := RT6.out.put (q' := qf)
    unfold rput3 at h
    rw [HQ.out.2] at h
    exact h)
  go_wp2_with fail
  clear c0 c1 c2 g0 g1 g2
  go_loopw [7] (fun i wr => ∃ j : Nat, j ≤ 3 ∧ i = .int .i64 j ∧ RSt s n qf ⟨y, m, d, (clkH s p : Nat), (clkI s p : Nat), (clkS s p : Nat), (frM s ((clkC s p).pos + 1) j : Nat)⟩ w wr) (fun i _ => 3 - (intOf i).toNat)
  case atStart => exact ⟨0, by omega, rfl, by rw [HNN2.out.2.2]; exact RS6.out⟩
  case round =>
    obtain ⟨j, hj, rfl, hrs⟩ := hrel
    have RJ := Lib.hid hrs
    clear hrs
    obtain ⟨c0, c1, c2, g0, g1, g2⟩ := RJ.out.cf
    rw [HQ.out.2] at c2
    have d6 := RJ.out.d.cell 6
    have f6 := RJ.out.d.free 6
    simp only [D7.cs, date7, List.getElem?_toArray, List.getElem?_cons_zero, List.getElem?_cons_succ] at d6
    by_cases hlt3 : j < 3
    · have hd3 : decide ((j : Int) < 3) = true := by rw [decide_eq_true_iff]; omega
      have hMb := frM_lt (s := s) (k := (clkC s p).pos + 1) (j := j) hnx (by omega)
      by_cases hjN : j < N
      · obtain ⟨hix, hst, h48, h57⟩ := frM_in (s := s) (k := (clkC s p).pos + 1) (j := j) hnx (by rw [HNN2.out.1]; exact hjN)
        have hq := HQP.out
        have hd4 : decide (((clkC s p).pos : Int) + 1 + (j : Int) < (qf.pos : Int)) = true := by rw [decide_eq_true_iff]; omega
        obtain ⟨M, hM⟩ : ∃ M, frM s ((clkC s p).pos + 1) j = M := ⟨_, rfl⟩
        rw [hM] at hst hMb d6
        have RJ2 := Lib.hid RJ.out
        rw [hM] at RJ2
        have HST := Lib.hid hst
        clear hst hM RJ hq
        have hwr : IntKind.i64.wrap (((clkC s p).pos : Int) + 1 + (j : Int)) = ((clkC s p).pos : Int) + 1 + (j : Int) := IntWalk.i64_in _ (by omega)
        have hk0 : (0 : Int) ≤ ((clkC s p).pos : Int) + 1 + (j : Int) := by omega
        have hk1 : ((clkC s p).pos : Int) + 1 + (j : Int) < (s.size : Int) := by omega
        have hk2 : (((clkC s p).pos : Int) + 1 + (j : Int)).toNat = (clkC s p).pos + 1 + j := by omega
        go_wp2
        go_region
        go_wp2
        have hv : frM s ((clkC s p).pos + 1) (j + 1) = M * 10 + (s[(clkC s p).pos + 1 + j].toNat - 48) := by rw [HST.out]; omega
        go_roundw
        case measure => simp only [intOf]; omega
        case rel =>
         clear hwr
         refine ⟨j + 1, by omega, by push_cast; rfl, ?_⟩
         have e9 : ((M : Int) * 10 + ((s[(clkC s p).pos + 1 + j].toNat : Int) - 48)) = ((M * 10 + (s[(clkC s p).pos + 1 + j].toNat - 48) : Nat) : Int) := by omega
         rw [hv, ← e9]
         exact ((RJ2.out.s6 ((M : Int) * 10)).drew.s6 _)
      · have hq := HQP.out
        have hd4 : decide (((clkC s p).pos : Int) + 1 + (j : Int) < (qf.pos : Int)) = false := by rw [decide_eq_false_iff_not]; omega
        have hst := frM_out (s := s) (k := (clkC s p).pos + 1) (j := j) hnx (by rw [HNN2.out.1]; exact hjN) hlt3 (by rw [HNN2.out.1]; exact HNN2.out.2.1)
        obtain ⟨M, hM⟩ : ∃ M, frM s ((clkC s p).pos + 1) j = M := ⟨_, rfl⟩
        rw [hM] at hst hMb d6
        have RJ2 := Lib.hid RJ.out
        rw [hM] at RJ2
        have HST := Lib.hid hst
        clear hst hM RJ hq
        go_wp2
        go_roundw
        case measure => simp only [intOf]; omega
        case rel =>
         refine ⟨j + 1, by omega, by push_cast; rfl, ?_⟩
         rw [HST.out, show ((10 * M : Nat) : Int) = (M : Int) * 10 by push_cast; omega]
         exact (RJ2.out.s6 ((M : Int) * 10))
    · have hj3 : j = 3 := by omega
      subst hj3
      have hMb := frM_lt (s := s) (k := (clkC s p).pos + 1) (j := 3) hnx (by omega)
      obtain ⟨M, hM⟩ : ∃ M, frM s ((clkC s p).pos + 1) 3 = M := ⟨_, rfl⟩
      rw [hM] at hMb
      have RW2 := Lib.hid RJ.out
      rw [hM] at RW2
      have HMM := Lib.hid hM
      clear c0 c1 c2 g0 g1 g2 d6 f6 RJ hM
      obtain ⟨c0, c1, c2, g0, g1, g2⟩ := RW2.out.cf
      rw [HQ.out.2] at c2
      have hd3 : decide ((3 : Int) < 3) = false := rfl
      go_wp2
      have r0 := RW2.out.r.cell 0
      have rf0 := RW2.out.r.free 0
      have r1 := RW2.out.r.cell 1
      have rf1 := RW2.out.r.free 1
      have r2 := RW2.out.r.cell 2
      have rf2 := RW2.out.r.free 2
      have t0 := RW2.out.t.cell 0
      have tf0 := RW2.out.t.free 0
      have dd0 := RW2.out.d.cell 0
      have t1 := RW2.out.t.cell 1
      have tf1 := RW2.out.t.free 1
      have dd1 := RW2.out.d.cell 1
      have t2 := RW2.out.t.cell 2
      have tf2 := RW2.out.t.free 2
      have dd2 := RW2.out.d.cell 2
      have t3 := RW2.out.t.cell 3
      have tf3 := RW2.out.t.free 3
      have dd3 := RW2.out.d.cell 3
      have t4 := RW2.out.t.cell 4
      have tf4 := RW2.out.t.free 4
      have dd4 := RW2.out.d.cell 4
      have t5 := RW2.out.t.cell 5
      have tf5 := RW2.out.t.free 5
      have dd5 := RW2.out.d.cell 5
      have t6 := RW2.out.t.cell 6
      have tf6 := RW2.out.t.free 6
      have dd6 := RW2.out.d.cell 6
      simp only [rcA, z7, date7, D7.cs, List.getElem?_toArray, List.getElem?_cons_zero, List.getElem?_cons_succ] at r0 r1 r2 t0 t1 t2 t3 t4 t5 t6 dd0 dd1 dd2 dd3 dd4 dd5 dd6
      have nn3 : n ≠ n + 1 + 1 := by omega
      have nn4 : n + 1 + 1 ≠ n := by omega
      have nn5 : n + 1 ≠ n + 1 + 1 := by omega
      have nn6 : n + 1 + 1 ≠ n + 1 := by omega
      have nn7 : n + 1 + 1 + 1 ≠ n := by omega
      have nn8 : n + 1 + 1 + 1 ≠ n + 1 := by omega
      have nn9 : n + 1 + 1 + 1 ≠ n + 1 + 1 := by omega
      have nn10 : n ≠ n + 1 + 1 + 1 := by omega
      have nn11 : n + 1 ≠ n + 1 + 1 + 1 := by omega
      have nn12 : n + 1 + 1 ≠ n + 1 + 1 + 1 := by omega
      go_region
      all_goals
        go_wp2
        refine bodyPost_ret (v := .tuple #[.agg #[.string s, .int .i64 (qf.pos : Int), .bool true], .agg #[.int .i64 y, .int .i64 m, .int .i64 d, .int .i64 (clkH s p : Nat), .int .i64 (clkI s p : Nat), .int .i64 (clkS s p : Nat), .int .i64 (M : Int)]]) ?_ rfl ⟨(by rw [HMM.out, show clockC s p = qf from (clockC_in HF.out (by rw [HNN2.out.1]; exact HNN2.out.2.1)).trans HQ.out.1]; rw [HQ.out.2]), Below.mono (((((((((((RW2.out.b.setCell (p := ⟨n + 1 + 1, 0, none⟩) (by show n ≤ n + 1 + 1; omega) _).setCell (p := ⟨n + 1 + 1, 1, none⟩) (by show n ≤ n + 1 + 1; omega) _).setCell (p := ⟨n + 1 + 1, 2, none⟩) (by show n ≤ n + 1 + 1; omega) _).setCell (p := ⟨n + 1 + 1 + 1, 0, none⟩) (by show n ≤ n + 1 + 1 + 1; omega) _).setCell (p := ⟨n + 1 + 1 + 1, 1, none⟩) (by show n ≤ n + 1 + 1 + 1; omega) _).setCell (p := ⟨n + 1 + 1 + 1, 2, none⟩) (by show n ≤ n + 1 + 1 + 1; omega) _).setCell (p := ⟨n + 1 + 1 + 1, 3, none⟩) (by show n ≤ n + 1 + 1 + 1; omega) _).setCell (p := ⟨n + 1 + 1 + 1, 4, none⟩) (by show n ≤ n + 1 + 1 + 1; omega) _).setCell (p := ⟨n + 1 + 1 + 1, 5, none⟩) (by show n ≤ n + 1 + 1 + 1; omega) _).setCell (p := ⟨n + 1 + 1 + 1, 6, none⟩) (by show n ≤ n + 1 + 1 + 1; omega) _).drew) (Nat.le_of_eq HNN.out)⟩
        clear hk hs hb2 RW HNN c0 c1 c2 g0 g1 g2 nn1 nn2 nn3 nn4 nn5 nn6 nn7 nn8 nn10 nn11

        simp [results, Tryd.results24, go_sem, nn9, nn12, r0, r1, r2, t0, t1, t2, t3, t4, t5, t6]

set_option maxRecDepth 100000 in
set_option linter.unusedSimpArgs false in
set_option maxHeartbeats 16000000 in
theorem rclk_frac44 (s : ByteArray) (p : CS) (y m d : Int) (hk : p.pos ≤ s.size) (hs : s.size ≤ 20000) (hb : (clkC s p).bad = false) (he : (clkC s p).pos + 1 < s.size) (h1 : byN s (clkC s p).pos = 44) (h2 : digB (byN s ((clkC s p).pos + 1)) = true) (w : World) :
    Calls Tryd.prog 24 #[rcV s p, .agg #[.int .i64 y, .int .i64 m, .int .i64 d, .int .i64 0, .int .i64 0, .int .i64 0, .int .i64 0]] w fun e w' => e = .returned (.tuple #[rcV s (clockC s p), .agg #[.int .i64 y, .int .i64 m, .int .i64 d, .int .i64 (clkH s p : Nat), .int .i64 (clkI s p : Nat), .int .i64 (clkS s p : Nat), .int .i64 (frM s ((clkC s p).pos + 1) 3 : Nat)]]) ∧ Below w.heap.size w w' := by
  have i1 : (kq1 s p).pos ≤ s.size := digitsC_in hk
  have i2 : (kq2 s p).pos ≤ s.size := expectC_in i1 (by omega)
  have i3 : (kq3 s p).pos ≤ s.size := digitsC_in i2
  have i4 : (kq4 s p).pos ≤ s.size := expectC_in i3 (by omega)
  have i5 : (clkC s p).pos ≤ s.size := digitsC_in i4
  have N1 := fun W => rcV_number s p 2 2 hk hs (by omega) (by omega) W
  have N2 := fun W => rcV_byte s (kq1 s p) 58 i1 hs (by omega) W
  have N3 := fun W => rcV_number s (kq2 s p) 2 2 i2 hs (by omega) (by omega) W
  have N4 := fun W => rcV_byte s (kq3 s p) 58 i3 hs (by omega) W
  have N5 := fun W => rcV_number s (kq4 s p) 2 2 i4 hs (by omega) (by omega) W
  have HN := Lib.hid (And.intro N1 (And.intro N2 (And.intro N3 (And.intro N4 N5))))
  clear N1 N2 N3 N4 N5 i1 i2 i3 i4
  have hf : fracB s (clkC s p) = true := by unfold fracB; rw [hb, h1, h2]; rfl
  have HF := Lib.hid hf
  clear hf
  have hb2 : (!(clkC s p).bad) = true := by rw [hb]; rfl
  have hd1 : decide ((s.size : Int) ≤ ((clkC s p).pos : Int) + 1) = false := by rw [decide_eq_false_iff_not]; omega
  have hlt : (clkC s p).pos < s.size := by omega
  rw [byN_in s _ hlt] at h1
  have q1 : ((s[(clkC s p).pos].toNat : Int) == 46) = false := by rw [beq_eq_false_iff_ne]; omega
  have q2 : ((s[(clkC s p).pos].toNat : Int) != 46) = true := by rw [bne_iff_ne]; omega
  have q3 : ((s[(clkC s p).pos].toNat : Int) == 44) = true := by rw [beq_iff_eq]; omega
  have q4 : ((s[(clkC s p).pos].toNat : Int) != 44) = false := by rw [bne_eq_false_iff_eq]; omega
  have hrd := fun W => rdigit_any s[(clkC s p).pos + 1].toNat W
  rw [byN_in s _ he] at h2
  rw [h2] at hrd
  have h2' := h2
  have HRD := Lib.hid hrd
  clear h1 h2 hrd
  unfold rcV at *
  have RS0 := Lib.hid (show RSt s w.heap.size p ⟨y, m, d, 0, 0, 0, 0⟩ w ((((w.alloc (.cells #[.string s, .int .i64 (p.pos : Int), .bool (!p.bad)] 67)).alloc (.cells #[.int .i64 y, .int .i64 m, .int .i64 d, .int .i64 0, .int .i64 0, .int .i64 0, .int .i64 0] 38)).alloc (.cells #[.string ⟨#[]⟩, .int .i64 0, .bool false] 67)).alloc (.cells #[.int .i64 0, .int .i64 0, .int .i64 0, .int .i64 0, .int .i64 0, .int .i64 0, .int .i64 0] 38)) from RSt.start s p ⟨y, m, d, 0, 0, 0, 0⟩ w)
  obtain ⟨n, hn⟩ : ∃ n, w.heap.size = n := ⟨_, rfl⟩
  go_enter Tryd.func24, Tryd.ntmps24
  go_wp2_with fail
  obtain ⟨X, hX⟩ : ∃ X, (((w.alloc (.cells #[.string s, .int .i64 (p.pos : Int), .bool (!p.bad)] 67)).alloc (.cells #[.int .i64 y, .int .i64 m, .int .i64 d, .int .i64 0, .int .i64 0, .int .i64 0, .int .i64 0] 38)).alloc (.cells #[.string ⟨#[]⟩, .int .i64 0, .bool false] 67)).alloc (.cells #[.int .i64 0, .int .i64 0, .int .i64 0, .int .i64 0, .int .i64 0, .int .i64 0, .int .i64 0] 38) = X := ⟨_, rfl⟩
  rw [hX, hn] at RS0
  rw [hX]
  have HNN := Lib.hid hn
  clear hX hn
  have nn1 : n ≠ n + 1 := by omega
  have nn2 : n + 1 ≠ n := by omega
  go_wp2_with fail
  refine (HN.out.1 _).mono ?_
  rintro e w1 ⟨rfl, hb1⟩
  skip
  have RT1 := Lib.hid (RS0.out.below hb1)
  obtain ⟨c0, c1, c2, g0, g1, g2⟩ := RT1.out.cf
  have d0 := RT1.out.d.cell 3
  have f0 := RT1.out.d.free 3
  have RS1 := Lib.hid ((RT1.out.put (q' := kq1 s p)).s3 (clkH s p))
  clear hb1
  go_wp2_with fail
  refine (HN.out.2.1 _).mono ?_
  rintro e w2 ⟨rfl, hb2⟩
  clear c0 c1 c2 g0 g1 g2 d0 f0
  have RT2 := Lib.hid (RS1.out.below hb2)
  obtain ⟨c0, c1, c2, g0, g1, g2⟩ := RT2.out.cf
  have RS2 := Lib.hid (RT2.out.put (q' := kq2 s p))
  clear hb2
  go_wp2_with fail
  refine (HN.out.2.2.1 _).mono ?_
  rintro e w3 ⟨rfl, hb3⟩
  clear c0 c1 c2 g0 g1 g2
  have RT3 := Lib.hid (RS2.out.below hb3)
  obtain ⟨c0, c1, c2, g0, g1, g2⟩ := RT3.out.cf
  have d0 := RT3.out.d.cell 4
  have f0 := RT3.out.d.free 4
  have RS3 := Lib.hid ((RT3.out.put (q' := kq3 s p)).s4 (clkI s p))
  clear hb3
  go_wp2_with fail
  refine (HN.out.2.2.2.1 _).mono ?_
  rintro e w4 ⟨rfl, hb4⟩
  clear c0 c1 c2 g0 g1 g2 d0 f0
  have RT4 := Lib.hid (RS3.out.below hb4)
  obtain ⟨c0, c1, c2, g0, g1, g2⟩ := RT4.out.cf
  have RS4 := Lib.hid (RT4.out.put (q' := kq4 s p))
  clear hb4
  go_wp2_with fail
  refine (HN.out.2.2.2.2 _).mono ?_
  rintro e w5 ⟨rfl, hb5⟩
  clear c0 c1 c2 g0 g1 g2
  have RT5 := Lib.hid (RS4.out.below hb5)
  obtain ⟨c0, c1, c2, g0, g1, g2⟩ := RT5.out.cf
  have d0 := RT5.out.d.cell 5
  have f0 := RT5.out.d.free 5
  have RS5 := Lib.hid ((RT5.out.put (q' := clkC s p)).s5 (clkS s p))
  clear hb5
  have RF := Lib.hid (show RSt s n (clkC s p) ⟨y, m, d, (clkH s p : Nat), (clkI s p : Nat), (clkS s p : Nat), 0⟩ w _ from RS5.out)
  have hcc : digitsC s (kq4 s p) 2 2 = clkC s p := rfl
  rw [hcc]
  clear hb
  go_wp2_with fail
  refine (HRD.out _).mono ?_
  rintro e w' ⟨rfl, rfl⟩
  go_upto_region 8 with (fail)
  have RG : RSt s n (clkC s p) ⟨y, m, d, (clkH s p : Nat), (clkI s p : Nat), (clkS s p : Nat), 0⟩ w ((((w5.setCell ⟨n, 0, none⟩ (.string s)).setCell ⟨n, 1, none⟩ (.int .i64 ((clkC s p).pos : Int))).setCell ⟨n, 2, none⟩ (.bool true)).setCell ⟨n + 1, 5, none⟩ (.int .i64 (numC s (kq4 s p).pos 2 : Nat))) := by
    have h := RF.out
    unfold rput3 at h
    rw [hb2] at h
    exact h
  obtain ⟨W, hW⟩ : ∃ W, (((w5.setCell ⟨n, 0, none⟩ (.string s)).setCell ⟨n, 1, none⟩ (.int .i64 ((clkC s p).pos : Int))).setCell ⟨n, 2, none⟩ (.bool true)).setCell ⟨n + 1, 5, none⟩ (.int .i64 (numC s (kq4 s p).pos 2 : Nat)) = W := ⟨_, rfl⟩
  rw [hW] at RG ⊢
  have RW := Lib.hid RG
  clear c0 c1 c2 g0 g1 g2 d0 f0 RG hW RF RS5 RT5 hcc HN HRD q1 q2 q3 q4 hd1 RS0 RS1 RS2 RS3 RS4 RT1 RT2 RT3 RT4
  obtain ⟨c0, c1, c2, g0, g1, g2⟩ := RW.out.cf
  rw [hb2] at c2
  have hnx : (clkC s p).next.pos ≤ s.size := by show (clkC s p).pos + 1 ≤ s.size; omega
  have N6 := fun W => rcV_number s (clkC s p).next 1 9 hnx hs (by omega) (by omega) W
  unfold rcV CS.next at N6
  simp only at N6
  rw [hb2] at N6
  push_cast at N6
  have HN6 := Lib.hid N6
  have RU := Lib.hid (RW.out.at ((clkC s p).pos + 1))
  clear N6
  obtain ⟨qf, hqf⟩ : ∃ q, digitsC s ⟨(clkC s p).pos + 1, (clkC s p).bad⟩ 1 9 = q := ⟨_, rfl⟩
  have hqp : (qf.pos : Int) = ((clkC s p).pos : Int) + 1 + (dRun s 9 ((clkC s p).pos + 1) : Nat) := by rw [← hqf]; unfold digitsC; push_cast; rfl
  have hN1 : 1 ≤ dRun s 9 ((clkC s p).pos + 1) := by
    unfold dRun
    rw [if_pos (by rw [byN_in s _ he]; exact h2')]; omega
  have hqb : (!qf.bad) = true := by
    rw [← hqf]; unfold digitsC
    rw [show (clkC s p).bad = false by simpa using hb2, decide_eq_false (by simp only; omega)]; rfl
  rw [hqf] at HN6
  rw [hqb] at HN6
  have HQ := Lib.hid (And.intro hqf hqb)
  have hM0 : frM s ((clkC s p).pos + 1) 0 = 0 := rfl
  obtain ⟨N, hN⟩ : ∃ N, dRun s 9 ((clkC s p).pos + 1) = N := ⟨_, rfl⟩
  rw [hN] at hqp hN1
  have HNN2 := Lib.hid (And.intro hN (And.intro hN1 hM0))
  have HQP := Lib.hid hqp
  clear hqf hqb hN hN1 hM0 hqp
  go_wp2_with fail
  refine (HN6.out _).mono ?_
  rintro e w6 ⟨rfl, hb6⟩
  have RT6 := Lib.hid (RU.out.below hb6)
  clear c0 c1 c2 g0 g1 g2 hb6
  obtain ⟨c0, c1, c2, g0, g1, g2⟩ := RT6.out.cf
  have RS6 := Lib.hid (show RSt s n qf ⟨y, m, d, (clkH s p : Nat), (clkI s p : Nat), (clkS s p : Nat), 0⟩ w (((w6.setCell ⟨n, 0, none⟩ (.string s)).setCell ⟨n, 1, none⟩ (.int .i64 (qf.pos : Int))).setCell ⟨n, 2, none⟩ (.bool true)) by
    have h := RT6.out.put (q' := qf)
    unfold rput3 at h
    rw [HQ.out.2] at h
    exact h)
  go_wp2_with fail
  clear c0 c1 c2 g0 g1 g2
  go_loopw [7] (fun i wr => ∃ j : Nat, j ≤ 3 ∧ i = .int .i64 j ∧ RSt s n qf ⟨y, m, d, (clkH s p : Nat), (clkI s p : Nat), (clkS s p : Nat), (frM s ((clkC s p).pos + 1) j : Nat)⟩ w wr) (fun i _ => 3 - (intOf i).toNat)
  case atStart => exact ⟨0, by omega, rfl, by rw [HNN2.out.2.2]; exact RS6.out⟩
  case round =>
    obtain ⟨j, hj, rfl, hrs⟩ := hrel
    have RJ := Lib.hid hrs
    clear hrs
    obtain ⟨c0, c1, c2, g0, g1, g2⟩ := RJ.out.cf
    rw [HQ.out.2] at c2
    have d6 := RJ.out.d.cell 6
    have f6 := RJ.out.d.free 6
    simp only [D7.cs, date7, List.getElem?_toArray, List.getElem?_cons_zero, List.getElem?_cons_succ] at d6
    by_cases hlt3 : j < 3
    · have hd3 : decide ((j : Int) < 3) = true := by rw [decide_eq_true_iff]; omega
      have hMb := frM_lt (s := s) (k := (clkC s p).pos + 1) (j := j) hnx (by omega)
      by_cases hjN : j < N
      · obtain ⟨hix, hst, h48, h57⟩ := frM_in (s := s) (k := (clkC s p).pos + 1) (j := j) hnx (by rw [HNN2.out.1]; exact hjN)
        have hq := HQP.out
        have hd4 : decide (((clkC s p).pos : Int) + 1 + (j : Int) < (qf.pos : Int)) = true := by rw [decide_eq_true_iff]; omega
        obtain ⟨M, hM⟩ : ∃ M, frM s ((clkC s p).pos + 1) j = M := ⟨_, rfl⟩
        rw [hM] at hst hMb d6
        have RJ2 := Lib.hid RJ.out
        rw [hM] at RJ2
        have HST := Lib.hid hst
        clear hst hM RJ hq
        have hwr : IntKind.i64.wrap (((clkC s p).pos : Int) + 1 + (j : Int)) = ((clkC s p).pos : Int) + 1 + (j : Int) := IntWalk.i64_in _ (by omega)
        have hk0 : (0 : Int) ≤ ((clkC s p).pos : Int) + 1 + (j : Int) := by omega
        have hk1 : ((clkC s p).pos : Int) + 1 + (j : Int) < (s.size : Int) := by omega
        have hk2 : (((clkC s p).pos : Int) + 1 + (j : Int)).toNat = (clkC s p).pos + 1 + j := by omega
        go_wp2
        go_region
        go_wp2
        have hv : frM s ((clkC s p).pos + 1) (j + 1) = M * 10 + (s[(clkC s p).pos + 1 + j].toNat - 48) := by rw [HST.out]; omega
        go_roundw
        case measure => simp only [intOf]; omega
        case rel =>
         clear hwr
         refine ⟨j + 1, by omega, by push_cast; rfl, ?_⟩
         have e9 : ((M : Int) * 10 + ((s[(clkC s p).pos + 1 + j].toNat : Int) - 48)) = ((M * 10 + (s[(clkC s p).pos + 1 + j].toNat - 48) : Nat) : Int) := by omega
         rw [hv, ← e9]
         exact ((RJ2.out.s6 ((M : Int) * 10)).drew.s6 _)
      · have hq := HQP.out
        have hd4 : decide (((clkC s p).pos : Int) + 1 + (j : Int) < (qf.pos : Int)) = false := by rw [decide_eq_false_iff_not]; omega
        have hst := frM_out (s := s) (k := (clkC s p).pos + 1) (j := j) hnx (by rw [HNN2.out.1]; exact hjN) hlt3 (by rw [HNN2.out.1]; exact HNN2.out.2.1)
        obtain ⟨M, hM⟩ : ∃ M, frM s ((clkC s p).pos + 1) j = M := ⟨_, rfl⟩
        rw [hM] at hst hMb d6
        have RJ2 := Lib.hid RJ.out
        rw [hM] at RJ2
        have HST := Lib.hid hst
        clear hst hM RJ hq
        go_wp2
        go_roundw
        case measure => simp only [intOf]; omega
        case rel =>
         refine ⟨j + 1, by omega, by push_cast; rfl, ?_⟩
         rw [HST.out, show ((10 * M : Nat) : Int) = (M : Int) * 10 by push_cast; omega]
         exact (RJ2.out.s6 ((M : Int) * 10))
    · have hj3 : j = 3 := by omega
      subst hj3
      have hMb := frM_lt (s := s) (k := (clkC s p).pos + 1) (j := 3) hnx (by omega)
      obtain ⟨M, hM⟩ : ∃ M, frM s ((clkC s p).pos + 1) 3 = M := ⟨_, rfl⟩
      rw [hM] at hMb
      have RW2 := Lib.hid RJ.out
      rw [hM] at RW2
      have HMM := Lib.hid hM
      clear c0 c1 c2 g0 g1 g2 d6 f6 RJ hM
      obtain ⟨c0, c1, c2, g0, g1, g2⟩ := RW2.out.cf
      rw [HQ.out.2] at c2
      have hd3 : decide ((3 : Int) < 3) = false := rfl
      go_wp2
      have r0 := RW2.out.r.cell 0
      have rf0 := RW2.out.r.free 0
      have r1 := RW2.out.r.cell 1
      have rf1 := RW2.out.r.free 1
      have r2 := RW2.out.r.cell 2
      have rf2 := RW2.out.r.free 2
      have t0 := RW2.out.t.cell 0
      have tf0 := RW2.out.t.free 0
      have dd0 := RW2.out.d.cell 0
      have t1 := RW2.out.t.cell 1
      have tf1 := RW2.out.t.free 1
      have dd1 := RW2.out.d.cell 1
      have t2 := RW2.out.t.cell 2
      have tf2 := RW2.out.t.free 2
      have dd2 := RW2.out.d.cell 2
      have t3 := RW2.out.t.cell 3
      have tf3 := RW2.out.t.free 3
      have dd3 := RW2.out.d.cell 3
      have t4 := RW2.out.t.cell 4
      have tf4 := RW2.out.t.free 4
      have dd4 := RW2.out.d.cell 4
      have t5 := RW2.out.t.cell 5
      have tf5 := RW2.out.t.free 5
      have dd5 := RW2.out.d.cell 5
      have t6 := RW2.out.t.cell 6
      have tf6 := RW2.out.t.free 6
      have dd6 := RW2.out.d.cell 6
      simp only [rcA, z7, date7, D7.cs, List.getElem?_toArray, List.getElem?_cons_zero, List.getElem?_cons_succ] at r0 r1 r2 t0 t1 t2 t3 t4 t5 t6 dd0 dd1 dd2 dd3 dd4 dd5 dd6
      have nn3 : n ≠ n + 1 + 1 := by omega
      have nn4 : n + 1 + 1 ≠ n := by omega
      have nn5 : n + 1 ≠ n + 1 + 1 := by omega
      have nn6 : n + 1 + 1 ≠ n + 1 := by omega
      have nn7 : n + 1 + 1 + 1 ≠ n := by omega
      have nn8 : n + 1 + 1 + 1 ≠ n + 1 := by omega
      have nn9 : n + 1 + 1 + 1 ≠ n + 1 + 1 := by omega
      have nn10 : n ≠ n + 1 + 1 + 1 := by omega
      have nn11 : n + 1 ≠ n + 1 + 1 + 1 := by omega
      have nn12 : n + 1 + 1 ≠ n + 1 + 1 + 1 := by omega
      go_region
      all_goals
        go_wp2
        refine bodyPost_ret (v := .tuple #[.agg #[.string s, .int .i64 (qf.pos : Int), .bool true], .agg #[.int .i64 y, .int .i64 m, .int .i64 d, .int .i64 (clkH s p : Nat), .int .i64 (clkI s p : Nat), .int .i64 (clkS s p : Nat), .int .i64 (M : Int)]]) ?_ rfl ⟨(by rw [HMM.out, show clockC s p = qf from (clockC_in HF.out (by rw [HNN2.out.1]; exact HNN2.out.2.1)).trans HQ.out.1]; rw [HQ.out.2]), Below.mono (((((((((((RW2.out.b.setCell (p := ⟨n + 1 + 1, 0, none⟩) (by show n ≤ n + 1 + 1; omega) _).setCell (p := ⟨n + 1 + 1, 1, none⟩) (by show n ≤ n + 1 + 1; omega) _).setCell (p := ⟨n + 1 + 1, 2, none⟩) (by show n ≤ n + 1 + 1; omega) _).setCell (p := ⟨n + 1 + 1 + 1, 0, none⟩) (by show n ≤ n + 1 + 1 + 1; omega) _).setCell (p := ⟨n + 1 + 1 + 1, 1, none⟩) (by show n ≤ n + 1 + 1 + 1; omega) _).setCell (p := ⟨n + 1 + 1 + 1, 2, none⟩) (by show n ≤ n + 1 + 1 + 1; omega) _).setCell (p := ⟨n + 1 + 1 + 1, 3, none⟩) (by show n ≤ n + 1 + 1 + 1; omega) _).setCell (p := ⟨n + 1 + 1 + 1, 4, none⟩) (by show n ≤ n + 1 + 1 + 1; omega) _).setCell (p := ⟨n + 1 + 1 + 1, 5, none⟩) (by show n ≤ n + 1 + 1 + 1; omega) _).setCell (p := ⟨n + 1 + 1 + 1, 6, none⟩) (by show n ≤ n + 1 + 1 + 1; omega) _).drew) (Nat.le_of_eq HNN.out)⟩
        clear hk hs hb2 RW HNN c0 c1 c2 g0 g1 g2 nn1 nn2 nn3 nn4 nn5 nn6 nn7 nn8 nn10 nn11

        simp [results, Tryd.results24, go_sem, nn9, nn12, r0, r1, r2, t0, t1, t2, t3, t4, t5, t6]


theorem rclk_any (s : ByteArray) (p : CS) (y m d : Int) (hk : p.pos ≤ s.size) (hs : s.size ≤ 20000) (w : World) :
    Calls Tryd.prog 24 #[rcV s p, .agg #[.int .i64 y, .int .i64 m, .int .i64 d, .int .i64 0, .int .i64 0, .int .i64 0, .int .i64 0]] w fun e w' => e = .returned (.tuple #[rcV s (clockC s p), .agg #[.int .i64 y, .int .i64 m, .int .i64 d, .int .i64 (clkH s p : Nat), .int .i64 (clkI s p : Nat), .int .i64 (clkS s p : Nat), .int .i64 (clkM s p : Nat)]]) ∧ Below w.heap.size w w' := by
  cases hf : fracB s (clkC s p) with
  | false =>
    have e1 : clockC s p = clkC s p := by unfold clockC fracC; rw [hf]; rfl
    have e2 : clkM s p = 0 := by unfold clkM fracV; rw [hf]; rfl
    rw [e1, e2]
    exact rclk_noFrac s p y m d hk hs hf w
  | true =>
    rw [clkM_in hf]
    have h0 := hf
    unfold fracB at h0
    simp only [Bool.and_eq_true, Bool.or_eq_true, decide_eq_true_iff, Bool.not_eq_true'] at h0
    obtain ⟨⟨hb, h12⟩, hd⟩ := h0
    have he : (clkC s p).pos + 1 < s.size := by
      apply Classical.byContradiction; intro hc
      unfold byN at hd
      rw [dif_neg hc] at hd
      exact absurd hd (by decide)
    rcases h12 with h1 | h1
    · exact rclk_frac46 s p y m d hk hs hb he h1 hd w
    · exact rclk_frac44 s p y m d hk hs hb he h1 hd w
end Go.Proofs.YtpbfgafkoodeoaaDoor
