/- The contract of the reference's form 1. -/
import Derived.Test.YtpbfgafkoodeoaaDoorTsRzone
import Derived.Test.YtpbfgafkoodeoaaDoorRvH
namespace Go.Proofs.YtpbfgafkoodeoaaDoor
open Go.RowKit

/-- What a form of the reference keeps while it reads: the result, the date, the cursor. -/
structure RI (s : ByteArray) (n : Nat) (q : CS) (x : D7) (w0 w : World) : Prop where
  r : RowAt n 38 z7 w
  d : RowAt (n + 1) 38 x.cs w
  c : RowAt (n + 1 + 1) 67 (rcA s q.pos (!q.bad)) w
  b : Below n w0 w
  hn : n = w0.heap.size
variable {s : ByteArray} {n : Nat} {q q' : CS} {x : D7} {w0 w w' : World}
theorem RI.below (h : RI s n q x w0 w) (k : Below w.heap.size w w') : RI s n q x w0 w' := ⟨h.r.below k, h.d.below k, h.c.below k, h.b.trans (k.mono (by have := h.r.lt; omega)), h.hn⟩
theorem RI.put (h : RI s n q x w0 w) : RI s n q' x w0 (rzput w (n + 1 + 1) s q') := by
  refine ⟨((h.r.other 0 _ (by omega)).other 1 _ (by omega)).other 2 _ (by omega), ((h.d.other 0 _ (by omega)).other 1 _ (by omega)).other 2 _ (by omega), ?_, ?_, h.hn⟩
  · exact ((h.c.set 0 (.string s)).set 1 (.int .i64 (q'.pos : Int))).set 2 (.bool (!q'.bad))
  · unfold rzput
    exact ((h.b.setCell (p := ⟨n + 1 + 1, 0, none⟩) (by show n ≤ n + 1 + 1; omega) _).setCell (p := ⟨n + 1 + 1, 1, none⟩) (by show n ≤ n + 1 + 1; omega) _).setCell (p := ⟨n + 1 + 1, 2, none⟩) (by show n ≤ n + 1 + 1; omega) _
theorem RI.at (h : RI s n q x w0 w) (k : Nat) : RI s n ⟨k, q.bad⟩ x w0 (w.setCell ⟨n + 1 + 1, 1, none⟩ (.int .i64 (k : Int))) :=
  ⟨h.r.other 1 _ (by omega), h.d.other 1 _ (by omega), h.c.set 1 _, h.b.setCell (p := ⟨n + 1 + 1, 1, none⟩) (by show n ≤ n + 1 + 1; omega) _, h.hn⟩
theorem RI.ok (h : RI s n q x w0 w) (b : Bool) : RI s n ⟨q.pos, !b⟩ x w0 (w.setCell ⟨n + 1 + 1, 2, none⟩ (.bool b)) := by
  refine ⟨h.r.other 2 _ (by omega), h.d.other 2 _ (by omega), ?_, h.b.setCell (p := ⟨n + 1 + 1, 2, none⟩) (by show n ≤ n + 1 + 1; omega) _, h.hn⟩
  have e := h.c.set 2 (.bool b)
  simp only [Bool.not_not]
  exact e
theorem RI.putd (h : RI s n q x w0 w) (y : D7) : RI s n q y w0 (put7 w (n + 1) 0 y.y y.m y.d y.h y.i y.s y.c) :=
  ⟨put7_other h.r (by omega) 0 _ _ _ _ _ _ _, (show set7 x.cs 0 y.y y.m y.d y.h y.i y.s y.c = y.cs by simp [set7, D7.cs, date7]) ▸ put7_row h.d 0 y.y y.m y.d y.h y.i y.s y.c, put7_other h.c (by omega) 0 _ _ _ _ _ _ _, put7_below h.b (by omega) 0 _ _ _ _ _ _ _, h.hn⟩
theorem RI.setd {x' : D7} (h : RI s n q x w0 w) (i : Nat) (v : Value) (e : x.cs.setIfInBounds i v = x'.cs) : RI s n q x' w0 (w.setCell ⟨n + 1, i, none⟩ v) :=
  ⟨h.r.other i v (by omega), e ▸ h.d.set i v, h.c.other i v (by omega), h.b.setCell (p := ⟨n + 1, i, none⟩) (by show n ≤ n + 1; omega) v, h.hn⟩
theorem RI.s0 (h : RI s n q x w0 w) (v : Int) : RI s n q ⟨v, x.m, x.d, x.h, x.i, x.s, x.c⟩ w0 (w.setCell ⟨n + 1, 0, none⟩ (.int .i64 v)) := h.setd 0 _ rfl
theorem RI.s1 (h : RI s n q x w0 w) (v : Int) : RI s n q ⟨x.y, v, x.d, x.h, x.i, x.s, x.c⟩ w0 (w.setCell ⟨n + 1, 1, none⟩ (.int .i64 v)) := h.setd 1 _ rfl
theorem RI.s2 (h : RI s n q x w0 w) (v : Int) : RI s n q ⟨x.y, x.m, v, x.h, x.i, x.s, x.c⟩ w0 (w.setCell ⟨n + 1, 2, none⟩ (.int .i64 v)) := h.setd 2 _ rfl
theorem RI.cf (h : RI s n q x w0 w) : w.cell? ⟨n + 1 + 1, 0, none⟩ = some (.string s) ∧ w.cell? ⟨n + 1 + 1, 1, none⟩ = some (.int .i64 (q.pos : Int)) ∧ w.cell? ⟨n + 1 + 1, 2, none⟩ = some (.bool (!q.bad)) ∧ w.frozen? ⟨n + 1 + 1, 0, none⟩ = false ∧ w.frozen? ⟨n + 1 + 1, 1, none⟩ = false ∧ w.frozen? ⟨n + 1 + 1, 2, none⟩ = false :=
  ⟨h.c.cell 0, h.c.cell 1, h.c.cell 2, h.c.free 0, h.c.free 1, h.c.free 2⟩
theorem RI.start (s : ByteArray) (q : CS) (w : World) :
    RI s w.heap.size q ⟨0, 0, 0, 0, 0, 0, 0⟩ w (((w.alloc (.cells z7 38)).alloc (.cells z7 38)).alloc (.cells (rcA s q.pos (!q.bad)) 67)) := by
  have e1 : ∀ (W : World) (o : Obj), (W.alloc o).heap.size = W.heap.size + 1 := fun W o => by simp
  have r1 := RowAt.new 38 z7 w
  have r2 := RowAt.new 38 z7 (w.alloc (.cells z7 38))
  have r3 := RowAt.new 67 (rcA s q.pos (!q.bad)) ((w.alloc (.cells z7 38)).alloc (.cells z7 38))
  rw [e1] at r2
  rw [e1, e1] at r3
  exact ⟨(r1.below (below_alloc _ _)).below (below_alloc _ _), r2.below (below_alloc _ _), r3, bl_trans (bl_trans (below_alloc _ _) (below_alloc _ _)) (below_alloc _ _), rfl⟩
theorem clockC_le {s : ByteArray} {p : CS} (h : p.pos ≤ s.size) : (clockC s p).pos ≤ s.size := by
  have h1 := clkC_in (s := s) h
  unfold clockC fracC
  by_cases hf : fracB s (clkC s p) = true
  · rw [if_pos hf]
    have h0 := hf
    unfold fracB at h0
    simp only [Bool.and_eq_true, Bool.or_eq_true, decide_eq_true_iff] at h0
    have h2 : (clkC s p).pos < s.size := byN_pos (by omega)
    exact dRun_in s 9 ((clkC s p).pos + 1) (by omega)
  · rw [if_neg hf]; exact h1
/-- The date as a value. -/
def D7.ag (x : D7) : Value := .agg #[.int .i64 x.y, .int .i64 x.m, .int .i64 x.d, .int .i64 x.h, .int .i64 x.i, .int .i64 x.s, .int .i64 x.c]

set_option maxRecDepth 100000 in
set_option linter.unusedSimpArgs false in
set_option linter.unusedVariables false in
set_option maxHeartbeats 16000000 in
theorem riso_ok (s : ByteArray) (z : Int) (hs : s.size ≤ 20000) (hb : (fu7 s).bad = false) (w : World) :
    Calls Tryd.prog 17 #[.string s, .int .i64 z] w fun e w' => e = .returned (.tuple #[(fuD s).ag, .int .i64 (fuZ s z), .int .i64 ((fu8 s).pos : Int), .bool true]) ∧ Below w.heap.size w w' := by
  have i1 : (fu1 s).pos ≤ s.size := digitsC_in (Nat.zero_le _)
  have i2 : (fu2 s).pos ≤ s.size := expectC_in i1 (by omega)
  have i3 : (fu3 s).pos ≤ s.size := digitsC_in i2
  have i4 : (fu4 s).pos ≤ s.size := expectC_in i3 (by omega)
  have i5 : (fu5 s).pos ≤ s.size := digitsC_in i4
  have N1 : ∀ W, Calls Tryd.prog 37 #[.agg #[.string s, .int .i64 0, .bool true], .int .i64 4, .int .i64 4] W fun e w' => e = .returned (.tuple #[rcV s (fu1 s), .int .i64 (numC s 0 4 : Nat)]) ∧ Below W.heap.size W w' := fun W => rcV_number s ⟨0, false⟩ 4 4 (Nat.zero_le _) hs (by omega) (by omega) W
  have N2 : ∀ W, Calls Tryd.prog 38 #[rcV s (fu1 s), .int .u8 45] W fun e w' => e = .returned (rcV s (fu2 s)) ∧ Below W.heap.size W w' := fun W => rcV_byte s (fu1 s) 45 i1 hs (by omega) W
  have N3 : ∀ W, Calls Tryd.prog 37 #[rcV s (fu2 s), .int .i64 2, .int .i64 2] W fun e w' => e = .returned (.tuple #[rcV s (fu3 s), .int .i64 (numC s (fu2 s).pos 2 : Nat)]) ∧ Below W.heap.size W w' := fun W => rcV_number s (fu2 s) 2 2 i2 hs (by omega) (by omega) W
  have N4 : ∀ W, Calls Tryd.prog 38 #[rcV s (fu3 s), .int .u8 45] W fun e w' => e = .returned (rcV s (fu4 s)) ∧ Below W.heap.size W w' := fun W => rcV_byte s (fu3 s) 45 i3 hs (by omega) W
  have N5 : ∀ W, Calls Tryd.prog 37 #[rcV s (fu4 s), .int .i64 2, .int .i64 2] W fun e w' => e = .returned (.tuple #[rcV s (fu5 s), .int .i64 (numC s (fu4 s).pos 2 : Nat)]) ∧ Below W.heap.size W w' := fun W => rcV_number s (fu4 s) 2 2 i4 hs (by omega) (by omega) W
  have i6 : (fu6 s).pos ≤ s.size := by
    unfold fu6; split
    · rename_i e; exact byN_pos (s := s) (k := (fu5 s).pos) (by omega)
    · exact expectC_in i5 (by omega)
  have i7 : (fu7 s).pos ≤ s.size := clockC_le i6
  have N6 : ∀ W, Calls Tryd.prog 38 #[rcV s (fu5 s), .int .u8 32] W fun e w' => e = .returned (rcV s (expectC s (fu5 s) 32)) ∧ Below W.heap.size W w' := fun W => rcV_byte s (fu5 s) 32 i5 hs (by omega) W
  have N7 : ∀ W, Calls Tryd.prog 24 #[rcV s (fu6 s), .agg #[.int .i64 (numC s 0 4 : Nat), .int .i64 (numC s (fu2 s).pos 2 : Nat), .int .i64 (numC s (fu4 s).pos 2 : Nat), .int .i64 0, .int .i64 0, .int .i64 0, .int .i64 0]] W fun e w' => e = .returned (.tuple #[rcV s (fu7 s), (fuD s).ag]) ∧ Below W.heap.size W w' := fun W => rclk_any s (fu6 s) (numC s 0 4 : Nat) (numC s (fu2 s).pos 2 : Nat) (numC s (fu4 s).pos 2 : Nat) i6 hs W
  have N8 : ∀ W, Calls Tryd.prog 39 #[rcV s (fu7 s), .int .i64 z] W fun e w' => e = .returned (.tuple #[rcV s (fu8 s), .int .i64 (fuZ s z)]) ∧ Below W.heap.size W w' := fun W => rzone_any s (fu7 s) z i7 hs W
  have HN := Lib.hid (And.intro N1 (And.intro N2 (And.intro N3 (And.intro N4 (And.intro N5 (And.intro N6 (And.intro N7 N8)))))))
  clear N1 N2 N3 N4 N5 N6 N7 N8 i1 i2 i3 i4 i6 i7
  unfold rcV D7.ag at HN
  have RS0 := Lib.hid (show RI s w.heap.size ⟨0, false⟩ ⟨0, 0, 0, 0, 0, 0, 0⟩ w (((w.alloc (.cells #[.int .i64 0, .int .i64 0, .int .i64 0, .int .i64 0, .int .i64 0, .int .i64 0, .int .i64 0] 38)).alloc (.cells #[.int .i64 0, .int .i64 0, .int .i64 0, .int .i64 0, .int .i64 0, .int .i64 0, .int .i64 0] 38)).alloc (.cells #[.string s, .int .i64 0, .bool true] 67)) from RI.start s ⟨0, false⟩ w)
  obtain ⟨n, hn⟩ : ∃ n, w.heap.size = n := ⟨_, rfl⟩
  go_enter Tryd.func17, Tryd.ntmps17
  go_wp2_with fail
  obtain ⟨X, hX⟩ : ∃ X, (((w.alloc (.cells #[.int .i64 0, .int .i64 0, .int .i64 0, .int .i64 0, .int .i64 0, .int .i64 0, .int .i64 0] 38)).alloc (.cells #[.int .i64 0, .int .i64 0, .int .i64 0, .int .i64 0, .int .i64 0, .int .i64 0, .int .i64 0] 38)).alloc (.cells #[.string s, .int .i64 0, .bool true] 67)) = X := ⟨_, rfl⟩
  rw [hX, hn] at RS0
  rw [hX]
  have HNN := Lib.hid hn
  clear hX hn
  have nn1 : n + 1 ≠ n + 1 + 1 := by omega
  have nn2 : n + 1 + 1 ≠ n + 1 := by omega
  skip
  refine (HN.out.1 _).mono ?_
  rintro e w1 ⟨rfl, hb1⟩
  have RT1 := Lib.hid (RS0.out.below hb1)
  obtain ⟨c0, c1, c2, g0, g1, g2⟩ := RT1.out.cf
  have d0 := RT1.out.d.cell 0
  have f0 := RT1.out.d.free 0
  have RS1 := Lib.hid ((RT1.out.put (q' := fu1 s)).s0 (numC s 0 4 : Nat))
  clear hb1
  go_wp2_with fail
  refine (HN.out.2.1 _).mono ?_
  rintro e w2 ⟨rfl, hb2⟩
  clear c0 c1 c2 g0 g1 g2 d0 f0
  have RT2 := Lib.hid (RS1.out.below hb2)
  obtain ⟨c0, c1, c2, g0, g1, g2⟩ := RT2.out.cf
  have RS2 := Lib.hid (RT2.out.put (q' := fu2 s))
  clear hb2
  go_wp2_with fail
  refine (HN.out.2.2.1 _).mono ?_
  rintro e w3 ⟨rfl, hb3⟩
  clear c0 c1 c2 g0 g1 g2
  have RT3 := Lib.hid (RS2.out.below hb3)
  obtain ⟨c0, c1, c2, g0, g1, g2⟩ := RT3.out.cf
  have d0 := RT3.out.d.cell 1
  have f0 := RT3.out.d.free 1
  have RS3 := Lib.hid ((RT3.out.put (q' := fu3 s)).s1 (numC s (fu2 s).pos 2 : Nat))
  clear hb3
  go_wp2_with fail
  refine (HN.out.2.2.2.1 _).mono ?_
  rintro e w4 ⟨rfl, hb4⟩
  clear c0 c1 c2 g0 g1 g2 d0 f0
  have RT4 := Lib.hid (RS3.out.below hb4)
  obtain ⟨c0, c1, c2, g0, g1, g2⟩ := RT4.out.cf
  have RS4 := Lib.hid (RT4.out.put (q' := fu4 s))
  clear hb4
  go_wp2_with fail
  refine (HN.out.2.2.2.2.1 _).mono ?_
  rintro e w5 ⟨rfl, hb5⟩
  clear c0 c1 c2 g0 g1 g2
  have RT5 := Lib.hid (RS4.out.below hb5)
  obtain ⟨c0, c1, c2, g0, g1, g2⟩ := RT5.out.cf
  have d0 := RT5.out.d.cell 2
  have f0 := RT5.out.d.free 2
  have RS5 := Lib.hid ((RT5.out.put (q' := fu5 s)).s2 (numC s (fu4 s).pos 2 : Nat))
  clear hb5
  have hbd : (!(fu7 s).bad) = true := by rw [hb]; rfl
  go_upto_region 8 with (fail)
  have RG5 : RI s n (fu5 s) ⟨(numC s 0 4 : Nat), (numC s (fu2 s).pos 2 : Nat), (numC s (fu4 s).pos 2 : Nat), 0, 0, 0, 0⟩ w ((((w5.setCell ⟨n + 1 + 1, 0, none⟩ (.string s)).setCell ⟨n + 1 + 1, 1, none⟩ (.int .i64 ((fu5 s).pos : Int))).setCell ⟨n + 1 + 1, 2, none⟩ (.bool (!(fu5 s).bad))).setCell ⟨n + 1, 2, none⟩ (.int .i64 (numC s (fu4 s).pos 2 : Nat))) := RS5.out
  obtain ⟨W5, hW5⟩ : ∃ W, (((w5.setCell ⟨n + 1 + 1, 0, none⟩ (.string s)).setCell ⟨n + 1 + 1, 1, none⟩ (.int .i64 ((fu5 s).pos : Int))).setCell ⟨n + 1 + 1, 2, none⟩ (.bool (!(fu5 s).bad))).setCell ⟨n + 1, 2, none⟩ (.int .i64 (numC s (fu4 s).pos 2 : Nat)) = W := ⟨_, rfl⟩
  rw [hW5] at RG5 ⊢
  have RW5 := Lib.hid RG5
  clear c0 c1 c2 g0 g1 g2 d0 f0 RG5 hW5 RS5 RT5 RS0 RS1 RS2 RS3 RS4 RT1 RT2 RT3 RT4
  obtain ⟨c0, c1, c2, g0, g1, g2⟩ := RW5.out.cf
  by_cases hz : (fu5 s).pos < s.size
  · have dz : decide (((fu5 s).pos : Int) < (s.size : Int)) = true := by rw [decide_eq_true_iff]; omega
    by_cases hc : byN s (fu5 s).pos = 84
    · have e6 : fu6 s = ⟨(fu5 s).pos + 1, (fu5 s).bad⟩ := by unfold fu6; rw [if_pos hc]; rfl
      rw [byN_in s _ hz] at hc
      have q4 : ((s[(fu5 s).pos].toNat : Int) == 84) = true := by rw [beq_iff_eq]; omega
      clear hc
      go_upto_region 11 with (fail)
      have R6 := Lib.hid (show RI s n (fu6 s) ⟨(numC s 0 4 : Nat), (numC s (fu2 s).pos 2 : Nat), (numC s (fu4 s).pos 2 : Nat), 0, 0, 0, 0⟩ w (W5.setCell ⟨n + 1 + 1, 1, none⟩ (.int .i64 (((fu5 s).pos : Int) + 1))) by rw [e6]; exact RW5.out.at ((fu5 s).pos + 1))
      obtain ⟨W6, hW6⟩ : ∃ W, W5.setCell ⟨n + 1 + 1, 1, none⟩ (.int .i64 (((fu5 s).pos : Int) + 1)) = W := ⟨_, rfl⟩
      rw [hW6] at R6 ⊢
      clear hW6 e6 RW5 c0 c1 c2 g0 g1 g2
      obtain ⟨c0, c1, c2, g0, g1, g2⟩ := R6.out.cf
      have d0 := R6.out.d.cell 0
      have d1 := R6.out.d.cell 1
      have d2 := R6.out.d.cell 2
      have d3 := R6.out.d.cell 3
      have d4 := R6.out.d.cell 4
      have d5 := R6.out.d.cell 5
      have d6 := R6.out.d.cell 6
      simp only [date7, D7.cs, List.getElem?_toArray, List.getElem?_cons_zero, List.getElem?_cons_succ] at d0 d1 d2 d3 d4 d5 d6
      go_wp2_with fail
      refine (HN.out.2.2.2.2.2.2.1 _).mono ?_
      rintro e w7 ⟨rfl, hb7⟩
      clear c0 c1 c2 g0 g1 g2 d0 d1 d2 d3 d4 d5 d6
      have R7 := Lib.hid (R6.out.below hb7)
      clear hb7
      obtain ⟨c0, c1, c2, g0, g1, g2⟩ := R7.out.cf
      have d0 := R7.out.d.cell 0
      have d1 := R7.out.d.cell 1
      have d2 := R7.out.d.cell 2
      have d3 := R7.out.d.cell 3
      have d4 := R7.out.d.cell 4
      have d5 := R7.out.d.cell 5
      have d6 := R7.out.d.cell 6
      simp only [date7, D7.cs, List.getElem?_toArray, List.getElem?_cons_zero, List.getElem?_cons_succ] at d0 d1 d2 d3 d4 d5 d6
      have df0 := R7.out.d.free 0
      have df1 := R7.out.d.free 1
      have df2 := R7.out.d.free 2
      have df3 := R7.out.d.free 3
      have df4 := R7.out.d.free 4
      have df5 := R7.out.d.free 5
      have df6 := R7.out.d.free 6
      have RG7 : RI s n (fu7 s) (fuD s) w ((((((((((w7.setCell ⟨n + 1 + 1, 0, none⟩ (.string s)).setCell ⟨n + 1 + 1, 1, none⟩ (.int .i64 ((fu7 s).pos : Int))).setCell ⟨n + 1 + 1, 2, none⟩ (.bool true)).setCell ⟨n + 1, 0, none⟩ (.int .i64 (fuD s).y)).setCell ⟨n + 1, 1, none⟩ (.int .i64 (fuD s).m)).setCell ⟨n + 1, 2, none⟩ (.int .i64 (fuD s).d)).setCell ⟨n + 1, 3, none⟩ (.int .i64 (fuD s).h)).setCell ⟨n + 1, 4, none⟩ (.int .i64 (fuD s).i)).setCell ⟨n + 1, 5, none⟩ (.int .i64 (fuD s).s)).setCell ⟨n + 1, 6, none⟩ (.int .i64 (fuD s).c)) := by
        have h := (R7.out.put (q' := fu7 s)).putd (fuD s)
        unfold rzput at h
        rw [hbd] at h
        exact h
      go_upto_region 12 with (fail)
      obtain ⟨W7, hW7⟩ : ∃ W, (((((((((w7.setCell ⟨n + 1 + 1, 0, none⟩ (.string s)).setCell ⟨n + 1 + 1, 1, none⟩ (.int .i64 ((fu7 s).pos : Int))).setCell ⟨n + 1 + 1, 2, none⟩ (.bool true)).setCell ⟨n + 1, 0, none⟩ (.int .i64 (fuD s).y)).setCell ⟨n + 1, 1, none⟩ (.int .i64 (fuD s).m)).setCell ⟨n + 1, 2, none⟩ (.int .i64 (fuD s).d)).setCell ⟨n + 1, 3, none⟩ (.int .i64 (fuD s).h)).setCell ⟨n + 1, 4, none⟩ (.int .i64 (fuD s).i)).setCell ⟨n + 1, 5, none⟩ (.int .i64 (fuD s).s)).setCell ⟨n + 1, 6, none⟩ (.int .i64 (fuD s).c) = W := ⟨_, rfl⟩
      rw [hW7] at RG7 ⊢
      have R8 := Lib.hid RG7
      clear RG7 hW7 R7 R6 c0 c1 c2 g0 g1 g2 d0 d1 d2 d3 d4 d5 d6 df0 df1 df2 df3 df4 df5 df6
      obtain ⟨c0, c1, c2, g0, g1, g2⟩ := R8.out.cf
      rw [hbd] at c2
      have d0 := R8.out.d.cell 0
      have d1 := R8.out.d.cell 1
      have d2 := R8.out.d.cell 2
      have d3 := R8.out.d.cell 3
      have d4 := R8.out.d.cell 4
      have d5 := R8.out.d.cell 5
      have d6 := R8.out.d.cell 6
      simp only [date7, D7.cs, List.getElem?_toArray, List.getElem?_cons_zero, List.getElem?_cons_succ] at d0 d1 d2 d3 d4 d5 d6
      have N8 := HN.out.2.2.2.2.2.2.2
      rw [hbd] at N8
      have HN8 := Lib.hid N8
      clear N8
      go_wp2_with fail
      refine (HN8.out _).mono ?_
      rintro e w8 ⟨rfl, hb8⟩
      clear c0 c1 c2 g0 g1 g2 d0 d1 d2 d3 d4 d5 d6
      have R9 := Lib.hid (R8.out.below hb8)
      clear hb8
      obtain ⟨c0, c1, c2, g0, g1, g2⟩ := R9.out.cf
      have RG8 : RI s n (fu8 s) (fuD s) w (((w8.setCell ⟨n + 1 + 1, 0, none⟩ (.string s)).setCell ⟨n + 1 + 1, 1, none⟩ (.int .i64 ((fu8 s).pos : Int))).setCell ⟨n + 1 + 1, 2, none⟩ (.bool (!(fu8 s).bad))) := R9.out.put (q' := fu8 s)
      go_upto_region 15 with (fail)
      obtain ⟨W8, hW8⟩ : ∃ W, ((w8.setCell ⟨n + 1 + 1, 0, none⟩ (.string s)).setCell ⟨n + 1 + 1, 1, none⟩ (.int .i64 ((fu8 s).pos : Int))).setCell ⟨n + 1 + 1, 2, none⟩ (.bool (!(fu8 s).bad)) = W := ⟨_, rfl⟩
      rw [hW8] at RG8 ⊢
      have R10 := Lib.hid RG8
      clear RG8 hW8 R9 R8 c0 c1 c2 g0 g1 g2
      obtain ⟨c0, c1, c2, g0, g1, g2⟩ := R10.out.cf
      have d0 := R10.out.d.cell 0
      have d1 := R10.out.d.cell 1
      have d2 := R10.out.d.cell 2
      have d3 := R10.out.d.cell 3
      have d4 := R10.out.d.cell 4
      have d5 := R10.out.d.cell 5
      have d6 := R10.out.d.cell 6
      simp only [date7, D7.cs, List.getElem?_toArray, List.getElem?_cons_zero, List.getElem?_cons_succ] at d0 d1 d2 d3 d4 d5 d6
      have r0 := R10.out.r.cell 0
      have rf0 := R10.out.r.free 0
      have r1 := R10.out.r.cell 1
      have rf1 := R10.out.r.free 1
      have r2 := R10.out.r.cell 2
      have rf2 := R10.out.r.free 2
      have r3 := R10.out.r.cell 3
      have rf3 := R10.out.r.free 3
      have r4 := R10.out.r.cell 4
      have rf4 := R10.out.r.free 4
      have r5 := R10.out.r.cell 5
      have rf5 := R10.out.r.free 5
      have r6 := R10.out.r.cell 6
      have rf6 := R10.out.r.free 6
      simp only [z7, date7, List.getElem?_toArray, List.getElem?_cons_zero, List.getElem?_cons_succ] at r0 r1 r2 r3 r4 r5 r6
      have nn3 : n ≠ n + 1 := by omega
      have nn4 : n + 1 ≠ n := by omega
      have nn5 : n ≠ n + 1 + 1 := by omega
      have nn6 : n + 1 + 1 ≠ n := by omega
      go_region
      all_goals
        go_wp2
        exact bodyPost_ret (v := .tuple #[.agg #[.int .i64 (fuD s).y, .int .i64 (fuD s).m, .int .i64 (fuD s).d, .int .i64 (fuD s).h, .int .i64 (fuD s).i, .int .i64 (fuD s).s, .int .i64 (fuD s).c], .int .i64 (fuZ s z), .int .i64 ((fu8 s).pos : Int), .bool true]) (by simp [results, Tryd.results17, go_sem, r0, r1, r2, r3, r4, r5, r6, d0, d1, d2, d3, d4, d5, d6]) rfl ⟨rfl, Below.mono (((((((R10.out.b.setCell (p := ⟨n, 0, none⟩) (Nat.le_refl _) _).setCell (p := ⟨n, 1, none⟩) (Nat.le_refl _) _).setCell (p := ⟨n, 2, none⟩) (Nat.le_refl _) _).setCell (p := ⟨n, 3, none⟩) (Nat.le_refl _) _).setCell (p := ⟨n, 4, none⟩) (Nat.le_refl _) _).setCell (p := ⟨n, 5, none⟩) (Nat.le_refl _) _).setCell (p := ⟨n, 6, none⟩) (Nat.le_refl _) _).drew (Nat.le_of_eq HNN.out)⟩
    · have e6 : fu6 s = expectC s (fu5 s) 32 := by unfold fu6; rw [if_neg hc]
      rw [byN_in s _ hz] at hc
      have q4 : ((s[(fu5 s).pos].toNat : Int) == 84) = false := by rw [beq_eq_false_iff_ne]; omega
      clear hc
      go_wp2_with fail
      refine (HN.out.2.2.2.2.2.1 _).mono ?_
      rintro e w6 ⟨rfl, hb6⟩
      clear c0 c1 c2 g0 g1 g2
      have RT6 := Lib.hid (RW5.out.below hb6)
      obtain ⟨c0, c1, c2, g0, g1, g2⟩ := RT6.out.cf
      go_upto_region 11 with (fail)
      have R6 := Lib.hid (show RI s n (fu6 s) ⟨(numC s 0 4 : Nat), (numC s (fu2 s).pos 2 : Nat), (numC s (fu4 s).pos 2 : Nat), 0, 0, 0, 0⟩ w (((w6.setCell ⟨n + 1 + 1, 0, none⟩ (.string s)).setCell ⟨n + 1 + 1, 1, none⟩ (.int .i64 ((expectC s (fu5 s) 32).pos : Int))).setCell ⟨n + 1 + 1, 2, none⟩ (.bool (!(expectC s (fu5 s) 32).bad))) by rw [e6]; exact RT6.out.put (q' := expectC s (fu5 s) 32))
      obtain ⟨W6, hW6⟩ : ∃ W, ((w6.setCell ⟨n + 1 + 1, 0, none⟩ (.string s)).setCell ⟨n + 1 + 1, 1, none⟩ (.int .i64 ((expectC s (fu5 s) 32).pos : Int))).setCell ⟨n + 1 + 1, 2, none⟩ (.bool (!(expectC s (fu5 s) 32).bad)) = W := ⟨_, rfl⟩
      rw [hW6] at R6 ⊢
      clear hW6 e6 hb6 RW5 RT6 c0 c1 c2 g0 g1 g2
      obtain ⟨c0, c1, c2, g0, g1, g2⟩ := R6.out.cf
      have d0 := R6.out.d.cell 0
      have d1 := R6.out.d.cell 1
      have d2 := R6.out.d.cell 2
      have d3 := R6.out.d.cell 3
      have d4 := R6.out.d.cell 4
      have d5 := R6.out.d.cell 5
      have d6 := R6.out.d.cell 6
      simp only [date7, D7.cs, List.getElem?_toArray, List.getElem?_cons_zero, List.getElem?_cons_succ] at d0 d1 d2 d3 d4 d5 d6
      go_wp2_with fail
      refine (HN.out.2.2.2.2.2.2.1 _).mono ?_
      rintro e w7 ⟨rfl, hb7⟩
      clear c0 c1 c2 g0 g1 g2 d0 d1 d2 d3 d4 d5 d6
      have R7 := Lib.hid (R6.out.below hb7)
      clear hb7
      obtain ⟨c0, c1, c2, g0, g1, g2⟩ := R7.out.cf
      have d0 := R7.out.d.cell 0
      have d1 := R7.out.d.cell 1
      have d2 := R7.out.d.cell 2
      have d3 := R7.out.d.cell 3
      have d4 := R7.out.d.cell 4
      have d5 := R7.out.d.cell 5
      have d6 := R7.out.d.cell 6
      simp only [date7, D7.cs, List.getElem?_toArray, List.getElem?_cons_zero, List.getElem?_cons_succ] at d0 d1 d2 d3 d4 d5 d6
      have df0 := R7.out.d.free 0
      have df1 := R7.out.d.free 1
      have df2 := R7.out.d.free 2
      have df3 := R7.out.d.free 3
      have df4 := R7.out.d.free 4
      have df5 := R7.out.d.free 5
      have df6 := R7.out.d.free 6
      have RG7 : RI s n (fu7 s) (fuD s) w ((((((((((w7.setCell ⟨n + 1 + 1, 0, none⟩ (.string s)).setCell ⟨n + 1 + 1, 1, none⟩ (.int .i64 ((fu7 s).pos : Int))).setCell ⟨n + 1 + 1, 2, none⟩ (.bool true)).setCell ⟨n + 1, 0, none⟩ (.int .i64 (fuD s).y)).setCell ⟨n + 1, 1, none⟩ (.int .i64 (fuD s).m)).setCell ⟨n + 1, 2, none⟩ (.int .i64 (fuD s).d)).setCell ⟨n + 1, 3, none⟩ (.int .i64 (fuD s).h)).setCell ⟨n + 1, 4, none⟩ (.int .i64 (fuD s).i)).setCell ⟨n + 1, 5, none⟩ (.int .i64 (fuD s).s)).setCell ⟨n + 1, 6, none⟩ (.int .i64 (fuD s).c)) := by
        have h := (R7.out.put (q' := fu7 s)).putd (fuD s)
        unfold rzput at h
        rw [hbd] at h
        exact h
      go_upto_region 12 with (fail)
      obtain ⟨W7, hW7⟩ : ∃ W, (((((((((w7.setCell ⟨n + 1 + 1, 0, none⟩ (.string s)).setCell ⟨n + 1 + 1, 1, none⟩ (.int .i64 ((fu7 s).pos : Int))).setCell ⟨n + 1 + 1, 2, none⟩ (.bool true)).setCell ⟨n + 1, 0, none⟩ (.int .i64 (fuD s).y)).setCell ⟨n + 1, 1, none⟩ (.int .i64 (fuD s).m)).setCell ⟨n + 1, 2, none⟩ (.int .i64 (fuD s).d)).setCell ⟨n + 1, 3, none⟩ (.int .i64 (fuD s).h)).setCell ⟨n + 1, 4, none⟩ (.int .i64 (fuD s).i)).setCell ⟨n + 1, 5, none⟩ (.int .i64 (fuD s).s)).setCell ⟨n + 1, 6, none⟩ (.int .i64 (fuD s).c) = W := ⟨_, rfl⟩
      rw [hW7] at RG7 ⊢
      have R8 := Lib.hid RG7
      clear RG7 hW7 R7 R6 c0 c1 c2 g0 g1 g2 d0 d1 d2 d3 d4 d5 d6 df0 df1 df2 df3 df4 df5 df6
      obtain ⟨c0, c1, c2, g0, g1, g2⟩ := R8.out.cf
      rw [hbd] at c2
      have d0 := R8.out.d.cell 0
      have d1 := R8.out.d.cell 1
      have d2 := R8.out.d.cell 2
      have d3 := R8.out.d.cell 3
      have d4 := R8.out.d.cell 4
      have d5 := R8.out.d.cell 5
      have d6 := R8.out.d.cell 6
      simp only [date7, D7.cs, List.getElem?_toArray, List.getElem?_cons_zero, List.getElem?_cons_succ] at d0 d1 d2 d3 d4 d5 d6
      have N8 := HN.out.2.2.2.2.2.2.2
      rw [hbd] at N8
      have HN8 := Lib.hid N8
      clear N8
      go_wp2_with fail
      refine (HN8.out _).mono ?_
      rintro e w8 ⟨rfl, hb8⟩
      clear c0 c1 c2 g0 g1 g2 d0 d1 d2 d3 d4 d5 d6
      have R9 := Lib.hid (R8.out.below hb8)
      clear hb8
      obtain ⟨c0, c1, c2, g0, g1, g2⟩ := R9.out.cf
      have RG8 : RI s n (fu8 s) (fuD s) w (((w8.setCell ⟨n + 1 + 1, 0, none⟩ (.string s)).setCell ⟨n + 1 + 1, 1, none⟩ (.int .i64 ((fu8 s).pos : Int))).setCell ⟨n + 1 + 1, 2, none⟩ (.bool (!(fu8 s).bad))) := R9.out.put (q' := fu8 s)
      go_upto_region 15 with (fail)
      obtain ⟨W8, hW8⟩ : ∃ W, ((w8.setCell ⟨n + 1 + 1, 0, none⟩ (.string s)).setCell ⟨n + 1 + 1, 1, none⟩ (.int .i64 ((fu8 s).pos : Int))).setCell ⟨n + 1 + 1, 2, none⟩ (.bool (!(fu8 s).bad)) = W := ⟨_, rfl⟩
      rw [hW8] at RG8 ⊢
      have R10 := Lib.hid RG8
      clear RG8 hW8 R9 R8 c0 c1 c2 g0 g1 g2
      obtain ⟨c0, c1, c2, g0, g1, g2⟩ := R10.out.cf
      have d0 := R10.out.d.cell 0
      have d1 := R10.out.d.cell 1
      have d2 := R10.out.d.cell 2
      have d3 := R10.out.d.cell 3
      have d4 := R10.out.d.cell 4
      have d5 := R10.out.d.cell 5
      have d6 := R10.out.d.cell 6
      simp only [date7, D7.cs, List.getElem?_toArray, List.getElem?_cons_zero, List.getElem?_cons_succ] at d0 d1 d2 d3 d4 d5 d6
      have r0 := R10.out.r.cell 0
      have rf0 := R10.out.r.free 0
      have r1 := R10.out.r.cell 1
      have rf1 := R10.out.r.free 1
      have r2 := R10.out.r.cell 2
      have rf2 := R10.out.r.free 2
      have r3 := R10.out.r.cell 3
      have rf3 := R10.out.r.free 3
      have r4 := R10.out.r.cell 4
      have rf4 := R10.out.r.free 4
      have r5 := R10.out.r.cell 5
      have rf5 := R10.out.r.free 5
      have r6 := R10.out.r.cell 6
      have rf6 := R10.out.r.free 6
      simp only [z7, date7, List.getElem?_toArray, List.getElem?_cons_zero, List.getElem?_cons_succ] at r0 r1 r2 r3 r4 r5 r6
      have nn3 : n ≠ n + 1 := by omega
      have nn4 : n + 1 ≠ n := by omega
      have nn5 : n ≠ n + 1 + 1 := by omega
      have nn6 : n + 1 + 1 ≠ n := by omega
      go_region
      all_goals
        go_wp2
        exact bodyPost_ret (v := .tuple #[.agg #[.int .i64 (fuD s).y, .int .i64 (fuD s).m, .int .i64 (fuD s).d, .int .i64 (fuD s).h, .int .i64 (fuD s).i, .int .i64 (fuD s).s, .int .i64 (fuD s).c], .int .i64 (fuZ s z), .int .i64 ((fu8 s).pos : Int), .bool true]) (by simp [results, Tryd.results17, go_sem, r0, r1, r2, r3, r4, r5, r6, d0, d1, d2, d3, d4, d5, d6]) rfl ⟨rfl, Below.mono (((((((R10.out.b.setCell (p := ⟨n, 0, none⟩) (Nat.le_refl _) _).setCell (p := ⟨n, 1, none⟩) (Nat.le_refl _) _).setCell (p := ⟨n, 2, none⟩) (Nat.le_refl _) _).setCell (p := ⟨n, 3, none⟩) (Nat.le_refl _) _).setCell (p := ⟨n, 4, none⟩) (Nat.le_refl _) _).setCell (p := ⟨n, 5, none⟩) (Nat.le_refl _) _).setCell (p := ⟨n, 6, none⟩) (Nat.le_refl _) _).drew (Nat.le_of_eq HNN.out)⟩
  · have dz : decide (((fu5 s).pos : Int) < (s.size : Int)) = false := by rw [decide_eq_false_iff_not]; omega
    have e6 : fu6 s = expectC s (fu5 s) 32 := by unfold fu6; rw [if_neg (by rw [byN_out s _ hz]; omega)]
    go_wp2_with fail
    refine (HN.out.2.2.2.2.2.1 _).mono ?_
    rintro e w6 ⟨rfl, hb6⟩
    clear c0 c1 c2 g0 g1 g2
    have RT6 := Lib.hid (RW5.out.below hb6)
    obtain ⟨c0, c1, c2, g0, g1, g2⟩ := RT6.out.cf
    go_upto_region 11 with (fail)
    have R6 := Lib.hid (show RI s n (fu6 s) ⟨(numC s 0 4 : Nat), (numC s (fu2 s).pos 2 : Nat), (numC s (fu4 s).pos 2 : Nat), 0, 0, 0, 0⟩ w (((w6.setCell ⟨n + 1 + 1, 0, none⟩ (.string s)).setCell ⟨n + 1 + 1, 1, none⟩ (.int .i64 ((expectC s (fu5 s) 32).pos : Int))).setCell ⟨n + 1 + 1, 2, none⟩ (.bool (!(expectC s (fu5 s) 32).bad))) by rw [e6]; exact RT6.out.put (q' := expectC s (fu5 s) 32))
    obtain ⟨W6, hW6⟩ : ∃ W, ((w6.setCell ⟨n + 1 + 1, 0, none⟩ (.string s)).setCell ⟨n + 1 + 1, 1, none⟩ (.int .i64 ((expectC s (fu5 s) 32).pos : Int))).setCell ⟨n + 1 + 1, 2, none⟩ (.bool (!(expectC s (fu5 s) 32).bad)) = W := ⟨_, rfl⟩
    rw [hW6] at R6 ⊢
    clear hW6 e6 hb6 RW5 RT6 c0 c1 c2 g0 g1 g2
    obtain ⟨c0, c1, c2, g0, g1, g2⟩ := R6.out.cf
    have d0 := R6.out.d.cell 0
    have d1 := R6.out.d.cell 1
    have d2 := R6.out.d.cell 2
    have d3 := R6.out.d.cell 3
    have d4 := R6.out.d.cell 4
    have d5 := R6.out.d.cell 5
    have d6 := R6.out.d.cell 6
    simp only [date7, D7.cs, List.getElem?_toArray, List.getElem?_cons_zero, List.getElem?_cons_succ] at d0 d1 d2 d3 d4 d5 d6
    go_wp2_with fail
    refine (HN.out.2.2.2.2.2.2.1 _).mono ?_
    rintro e w7 ⟨rfl, hb7⟩
    clear c0 c1 c2 g0 g1 g2 d0 d1 d2 d3 d4 d5 d6
    have R7 := Lib.hid (R6.out.below hb7)
    clear hb7
    obtain ⟨c0, c1, c2, g0, g1, g2⟩ := R7.out.cf
    have d0 := R7.out.d.cell 0
    have d1 := R7.out.d.cell 1
    have d2 := R7.out.d.cell 2
    have d3 := R7.out.d.cell 3
    have d4 := R7.out.d.cell 4
    have d5 := R7.out.d.cell 5
    have d6 := R7.out.d.cell 6
    simp only [date7, D7.cs, List.getElem?_toArray, List.getElem?_cons_zero, List.getElem?_cons_succ] at d0 d1 d2 d3 d4 d5 d6
    have df0 := R7.out.d.free 0
    have df1 := R7.out.d.free 1
    have df2 := R7.out.d.free 2
    have df3 := R7.out.d.free 3
    have df4 := R7.out.d.free 4
    have df5 := R7.out.d.free 5
    have df6 := R7.out.d.free 6
    have RG7 : RI s n (fu7 s) (fuD s) w ((((((((((w7.setCell ⟨n + 1 + 1, 0, none⟩ (.string s)).setCell ⟨n + 1 + 1, 1, none⟩ (.int .i64 ((fu7 s).pos : Int))).setCell ⟨n + 1 + 1, 2, none⟩ (.bool true)).setCell ⟨n + 1, 0, none⟩ (.int .i64 (fuD s).y)).setCell ⟨n + 1, 1, none⟩ (.int .i64 (fuD s).m)).setCell ⟨n + 1, 2, none⟩ (.int .i64 (fuD s).d)).setCell ⟨n + 1, 3, none⟩ (.int .i64 (fuD s).h)).setCell ⟨n + 1, 4, none⟩ (.int .i64 (fuD s).i)).setCell ⟨n + 1, 5, none⟩ (.int .i64 (fuD s).s)).setCell ⟨n + 1, 6, none⟩ (.int .i64 (fuD s).c)) := by
      have h := (R7.out.put (q' := fu7 s)).putd (fuD s)
      unfold rzput at h
      rw [hbd] at h
      exact h
    go_upto_region 12 with (fail)
    obtain ⟨W7, hW7⟩ : ∃ W, (((((((((w7.setCell ⟨n + 1 + 1, 0, none⟩ (.string s)).setCell ⟨n + 1 + 1, 1, none⟩ (.int .i64 ((fu7 s).pos : Int))).setCell ⟨n + 1 + 1, 2, none⟩ (.bool true)).setCell ⟨n + 1, 0, none⟩ (.int .i64 (fuD s).y)).setCell ⟨n + 1, 1, none⟩ (.int .i64 (fuD s).m)).setCell ⟨n + 1, 2, none⟩ (.int .i64 (fuD s).d)).setCell ⟨n + 1, 3, none⟩ (.int .i64 (fuD s).h)).setCell ⟨n + 1, 4, none⟩ (.int .i64 (fuD s).i)).setCell ⟨n + 1, 5, none⟩ (.int .i64 (fuD s).s)).setCell ⟨n + 1, 6, none⟩ (.int .i64 (fuD s).c) = W := ⟨_, rfl⟩
    rw [hW7] at RG7 ⊢
    have R8 := Lib.hid RG7
    clear RG7 hW7 R7 R6 c0 c1 c2 g0 g1 g2 d0 d1 d2 d3 d4 d5 d6 df0 df1 df2 df3 df4 df5 df6
    obtain ⟨c0, c1, c2, g0, g1, g2⟩ := R8.out.cf
    rw [hbd] at c2
    have d0 := R8.out.d.cell 0
    have d1 := R8.out.d.cell 1
    have d2 := R8.out.d.cell 2
    have d3 := R8.out.d.cell 3
    have d4 := R8.out.d.cell 4
    have d5 := R8.out.d.cell 5
    have d6 := R8.out.d.cell 6
    simp only [date7, D7.cs, List.getElem?_toArray, List.getElem?_cons_zero, List.getElem?_cons_succ] at d0 d1 d2 d3 d4 d5 d6
    have N8 := HN.out.2.2.2.2.2.2.2
    rw [hbd] at N8
    have HN8 := Lib.hid N8
    clear N8
    go_wp2_with fail
    refine (HN8.out _).mono ?_
    rintro e w8 ⟨rfl, hb8⟩
    clear c0 c1 c2 g0 g1 g2 d0 d1 d2 d3 d4 d5 d6
    have R9 := Lib.hid (R8.out.below hb8)
    clear hb8
    obtain ⟨c0, c1, c2, g0, g1, g2⟩ := R9.out.cf
    have RG8 : RI s n (fu8 s) (fuD s) w (((w8.setCell ⟨n + 1 + 1, 0, none⟩ (.string s)).setCell ⟨n + 1 + 1, 1, none⟩ (.int .i64 ((fu8 s).pos : Int))).setCell ⟨n + 1 + 1, 2, none⟩ (.bool (!(fu8 s).bad))) := R9.out.put (q' := fu8 s)
    go_upto_region 15 with (fail)
    obtain ⟨W8, hW8⟩ : ∃ W, ((w8.setCell ⟨n + 1 + 1, 0, none⟩ (.string s)).setCell ⟨n + 1 + 1, 1, none⟩ (.int .i64 ((fu8 s).pos : Int))).setCell ⟨n + 1 + 1, 2, none⟩ (.bool (!(fu8 s).bad)) = W := ⟨_, rfl⟩
    rw [hW8] at RG8 ⊢
    have R10 := Lib.hid RG8
    clear RG8 hW8 R9 R8 c0 c1 c2 g0 g1 g2
    obtain ⟨c0, c1, c2, g0, g1, g2⟩ := R10.out.cf
    have d0 := R10.out.d.cell 0
    have d1 := R10.out.d.cell 1
    have d2 := R10.out.d.cell 2
    have d3 := R10.out.d.cell 3
    have d4 := R10.out.d.cell 4
    have d5 := R10.out.d.cell 5
    have d6 := R10.out.d.cell 6
    simp only [date7, D7.cs, List.getElem?_toArray, List.getElem?_cons_zero, List.getElem?_cons_succ] at d0 d1 d2 d3 d4 d5 d6
    have r0 := R10.out.r.cell 0
    have rf0 := R10.out.r.free 0
    have r1 := R10.out.r.cell 1
    have rf1 := R10.out.r.free 1
    have r2 := R10.out.r.cell 2
    have rf2 := R10.out.r.free 2
    have r3 := R10.out.r.cell 3
    have rf3 := R10.out.r.free 3
    have r4 := R10.out.r.cell 4
    have rf4 := R10.out.r.free 4
    have r5 := R10.out.r.cell 5
    have rf5 := R10.out.r.free 5
    have r6 := R10.out.r.cell 6
    have rf6 := R10.out.r.free 6
    simp only [z7, date7, List.getElem?_toArray, List.getElem?_cons_zero, List.getElem?_cons_succ] at r0 r1 r2 r3 r4 r5 r6
    have nn3 : n ≠ n + 1 := by omega
    have nn4 : n + 1 ≠ n := by omega
    have nn5 : n ≠ n + 1 + 1 := by omega
    have nn6 : n + 1 + 1 ≠ n := by omega
    go_region
    all_goals
      go_wp2
      exact bodyPost_ret (v := .tuple #[.agg #[.int .i64 (fuD s).y, .int .i64 (fuD s).m, .int .i64 (fuD s).d, .int .i64 (fuD s).h, .int .i64 (fuD s).i, .int .i64 (fuD s).s, .int .i64 (fuD s).c], .int .i64 (fuZ s z), .int .i64 ((fu8 s).pos : Int), .bool true]) (by simp [results, Tryd.results17, go_sem, r0, r1, r2, r3, r4, r5, r6, d0, d1, d2, d3, d4, d5, d6]) rfl ⟨rfl, Below.mono (((((((R10.out.b.setCell (p := ⟨n, 0, none⟩) (Nat.le_refl _) _).setCell (p := ⟨n, 1, none⟩) (Nat.le_refl _) _).setCell (p := ⟨n, 2, none⟩) (Nat.le_refl _) _).setCell (p := ⟨n, 3, none⟩) (Nat.le_refl _) _).setCell (p := ⟨n, 4, none⟩) (Nat.le_refl _) _).setCell (p := ⟨n, 5, none⟩) (Nat.le_refl _) _).setCell (p := ⟨n, 6, none⟩) (Nat.le_refl _) _).drew (Nat.le_of_eq HNN.out)⟩
set_option maxRecDepth 100000 in
set_option linter.unusedSimpArgs false in
set_option linter.unusedVariables false in
set_option maxHeartbeats 16000000 in
theorem riso_bad (s : ByteArray) (z : Int) (hs : s.size ≤ 20000) (hb : (fu7 s).bad = true) (w : World) :
    Calls Tryd.prog 17 #[.string s, .int .i64 z] w fun e w' => e = .returned (.tuple #[(fuD s).ag, .int .i64 0, .int .i64 0, .bool false]) ∧ Below w.heap.size w w' := by
  have i1 : (fu1 s).pos ≤ s.size := digitsC_in (Nat.zero_le _)
  have i2 : (fu2 s).pos ≤ s.size := expectC_in i1 (by omega)
  have i3 : (fu3 s).pos ≤ s.size := digitsC_in i2
  have i4 : (fu4 s).pos ≤ s.size := expectC_in i3 (by omega)
  have i5 : (fu5 s).pos ≤ s.size := digitsC_in i4
  have N1 : ∀ W, Calls Tryd.prog 37 #[.agg #[.string s, .int .i64 0, .bool true], .int .i64 4, .int .i64 4] W fun e w' => e = .returned (.tuple #[rcV s (fu1 s), .int .i64 (numC s 0 4 : Nat)]) ∧ Below W.heap.size W w' := fun W => rcV_number s ⟨0, false⟩ 4 4 (Nat.zero_le _) hs (by omega) (by omega) W
  have N2 : ∀ W, Calls Tryd.prog 38 #[rcV s (fu1 s), .int .u8 45] W fun e w' => e = .returned (rcV s (fu2 s)) ∧ Below W.heap.size W w' := fun W => rcV_byte s (fu1 s) 45 i1 hs (by omega) W
  have N3 : ∀ W, Calls Tryd.prog 37 #[rcV s (fu2 s), .int .i64 2, .int .i64 2] W fun e w' => e = .returned (.tuple #[rcV s (fu3 s), .int .i64 (numC s (fu2 s).pos 2 : Nat)]) ∧ Below W.heap.size W w' := fun W => rcV_number s (fu2 s) 2 2 i2 hs (by omega) (by omega) W
  have N4 : ∀ W, Calls Tryd.prog 38 #[rcV s (fu3 s), .int .u8 45] W fun e w' => e = .returned (rcV s (fu4 s)) ∧ Below W.heap.size W w' := fun W => rcV_byte s (fu3 s) 45 i3 hs (by omega) W
  have N5 : ∀ W, Calls Tryd.prog 37 #[rcV s (fu4 s), .int .i64 2, .int .i64 2] W fun e w' => e = .returned (.tuple #[rcV s (fu5 s), .int .i64 (numC s (fu4 s).pos 2 : Nat)]) ∧ Below W.heap.size W w' := fun W => rcV_number s (fu4 s) 2 2 i4 hs (by omega) (by omega) W
  have i6 : (fu6 s).pos ≤ s.size := by
    unfold fu6; split
    · rename_i e; exact byN_pos (s := s) (k := (fu5 s).pos) (by omega)
    · exact expectC_in i5 (by omega)
  have i7 : (fu7 s).pos ≤ s.size := clockC_le i6
  have N6 : ∀ W, Calls Tryd.prog 38 #[rcV s (fu5 s), .int .u8 32] W fun e w' => e = .returned (rcV s (expectC s (fu5 s) 32)) ∧ Below W.heap.size W w' := fun W => rcV_byte s (fu5 s) 32 i5 hs (by omega) W
  have N7 : ∀ W, Calls Tryd.prog 24 #[rcV s (fu6 s), .agg #[.int .i64 (numC s 0 4 : Nat), .int .i64 (numC s (fu2 s).pos 2 : Nat), .int .i64 (numC s (fu4 s).pos 2 : Nat), .int .i64 0, .int .i64 0, .int .i64 0, .int .i64 0]] W fun e w' => e = .returned (.tuple #[rcV s (fu7 s), (fuD s).ag]) ∧ Below W.heap.size W w' := fun W => rclk_any s (fu6 s) (numC s 0 4 : Nat) (numC s (fu2 s).pos 2 : Nat) (numC s (fu4 s).pos 2 : Nat) i6 hs W
  have N8 : ∀ W, Calls Tryd.prog 39 #[rcV s (fu7 s), .int .i64 z] W fun e w' => e = .returned (.tuple #[rcV s (fu8 s), .int .i64 (fuZ s z)]) ∧ Below W.heap.size W w' := fun W => rzone_any s (fu7 s) z i7 hs W
  have HN := Lib.hid (And.intro N1 (And.intro N2 (And.intro N3 (And.intro N4 (And.intro N5 (And.intro N6 (And.intro N7 N8)))))))
  clear N1 N2 N3 N4 N5 N6 N7 N8 i1 i2 i3 i4 i6 i7
  unfold rcV D7.ag at HN
  have RS0 := Lib.hid (show RI s w.heap.size ⟨0, false⟩ ⟨0, 0, 0, 0, 0, 0, 0⟩ w (((w.alloc (.cells #[.int .i64 0, .int .i64 0, .int .i64 0, .int .i64 0, .int .i64 0, .int .i64 0, .int .i64 0] 38)).alloc (.cells #[.int .i64 0, .int .i64 0, .int .i64 0, .int .i64 0, .int .i64 0, .int .i64 0, .int .i64 0] 38)).alloc (.cells #[.string s, .int .i64 0, .bool true] 67)) from RI.start s ⟨0, false⟩ w)
  obtain ⟨n, hn⟩ : ∃ n, w.heap.size = n := ⟨_, rfl⟩
  go_enter Tryd.func17, Tryd.ntmps17
  go_wp2_with fail
  obtain ⟨X, hX⟩ : ∃ X, (((w.alloc (.cells #[.int .i64 0, .int .i64 0, .int .i64 0, .int .i64 0, .int .i64 0, .int .i64 0, .int .i64 0] 38)).alloc (.cells #[.int .i64 0, .int .i64 0, .int .i64 0, .int .i64 0, .int .i64 0, .int .i64 0, .int .i64 0] 38)).alloc (.cells #[.string s, .int .i64 0, .bool true] 67)) = X := ⟨_, rfl⟩
  rw [hX, hn] at RS0
  rw [hX]
  have HNN := Lib.hid hn
  clear hX hn
  have nn1 : n + 1 ≠ n + 1 + 1 := by omega
  have nn2 : n + 1 + 1 ≠ n + 1 := by omega
  skip
  refine (HN.out.1 _).mono ?_
  rintro e w1 ⟨rfl, hb1⟩
  have RT1 := Lib.hid (RS0.out.below hb1)
  obtain ⟨c0, c1, c2, g0, g1, g2⟩ := RT1.out.cf
  have d0 := RT1.out.d.cell 0
  have f0 := RT1.out.d.free 0
  have RS1 := Lib.hid ((RT1.out.put (q' := fu1 s)).s0 (numC s 0 4 : Nat))
  clear hb1
  go_wp2_with fail
  refine (HN.out.2.1 _).mono ?_
  rintro e w2 ⟨rfl, hb2⟩
  clear c0 c1 c2 g0 g1 g2 d0 f0
  have RT2 := Lib.hid (RS1.out.below hb2)
  obtain ⟨c0, c1, c2, g0, g1, g2⟩ := RT2.out.cf
  have RS2 := Lib.hid (RT2.out.put (q' := fu2 s))
  clear hb2
  go_wp2_with fail
  refine (HN.out.2.2.1 _).mono ?_
  rintro e w3 ⟨rfl, hb3⟩
  clear c0 c1 c2 g0 g1 g2
  have RT3 := Lib.hid (RS2.out.below hb3)
  obtain ⟨c0, c1, c2, g0, g1, g2⟩ := RT3.out.cf
  have d0 := RT3.out.d.cell 1
  have f0 := RT3.out.d.free 1
  have RS3 := Lib.hid ((RT3.out.put (q' := fu3 s)).s1 (numC s (fu2 s).pos 2 : Nat))
  clear hb3
  go_wp2_with fail
  refine (HN.out.2.2.2.1 _).mono ?_
  rintro e w4 ⟨rfl, hb4⟩
  clear c0 c1 c2 g0 g1 g2 d0 f0
  have RT4 := Lib.hid (RS3.out.below hb4)
  obtain ⟨c0, c1, c2, g0, g1, g2⟩ := RT4.out.cf
  have RS4 := Lib.hid (RT4.out.put (q' := fu4 s))
  clear hb4
  go_wp2_with fail
  refine (HN.out.2.2.2.2.1 _).mono ?_
  rintro e w5 ⟨rfl, hb5⟩
  clear c0 c1 c2 g0 g1 g2
  have RT5 := Lib.hid (RS4.out.below hb5)
  obtain ⟨c0, c1, c2, g0, g1, g2⟩ := RT5.out.cf
  have d0 := RT5.out.d.cell 2
  have f0 := RT5.out.d.free 2
  have RS5 := Lib.hid ((RT5.out.put (q' := fu5 s)).s2 (numC s (fu4 s).pos 2 : Nat))
  clear hb5
  have hbd : (!(fu7 s).bad) = false := by rw [hb]; rfl
  go_upto_region 8 with (fail)
  have RG5 : RI s n (fu5 s) ⟨(numC s 0 4 : Nat), (numC s (fu2 s).pos 2 : Nat), (numC s (fu4 s).pos 2 : Nat), 0, 0, 0, 0⟩ w ((((w5.setCell ⟨n + 1 + 1, 0, none⟩ (.string s)).setCell ⟨n + 1 + 1, 1, none⟩ (.int .i64 ((fu5 s).pos : Int))).setCell ⟨n + 1 + 1, 2, none⟩ (.bool (!(fu5 s).bad))).setCell ⟨n + 1, 2, none⟩ (.int .i64 (numC s (fu4 s).pos 2 : Nat))) := RS5.out
  obtain ⟨W5, hW5⟩ : ∃ W, (((w5.setCell ⟨n + 1 + 1, 0, none⟩ (.string s)).setCell ⟨n + 1 + 1, 1, none⟩ (.int .i64 ((fu5 s).pos : Int))).setCell ⟨n + 1 + 1, 2, none⟩ (.bool (!(fu5 s).bad))).setCell ⟨n + 1, 2, none⟩ (.int .i64 (numC s (fu4 s).pos 2 : Nat)) = W := ⟨_, rfl⟩
  rw [hW5] at RG5 ⊢
  have RW5 := Lib.hid RG5
  clear c0 c1 c2 g0 g1 g2 d0 f0 RG5 hW5 RS5 RT5 RS0 RS1 RS2 RS3 RS4 RT1 RT2 RT3 RT4
  obtain ⟨c0, c1, c2, g0, g1, g2⟩ := RW5.out.cf
  by_cases hz : (fu5 s).pos < s.size
  · have dz : decide (((fu5 s).pos : Int) < (s.size : Int)) = true := by rw [decide_eq_true_iff]; omega
    by_cases hc : byN s (fu5 s).pos = 84
    · have e6 : fu6 s = ⟨(fu5 s).pos + 1, (fu5 s).bad⟩ := by unfold fu6; rw [if_pos hc]; rfl
      rw [byN_in s _ hz] at hc
      have q4 : ((s[(fu5 s).pos].toNat : Int) == 84) = true := by rw [beq_iff_eq]; omega
      clear hc
      go_upto_region 11 with (fail)
      have R6 := Lib.hid (show RI s n (fu6 s) ⟨(numC s 0 4 : Nat), (numC s (fu2 s).pos 2 : Nat), (numC s (fu4 s).pos 2 : Nat), 0, 0, 0, 0⟩ w (W5.setCell ⟨n + 1 + 1, 1, none⟩ (.int .i64 (((fu5 s).pos : Int) + 1))) by rw [e6]; exact RW5.out.at ((fu5 s).pos + 1))
      obtain ⟨W6, hW6⟩ : ∃ W, W5.setCell ⟨n + 1 + 1, 1, none⟩ (.int .i64 (((fu5 s).pos : Int) + 1)) = W := ⟨_, rfl⟩
      rw [hW6] at R6 ⊢
      clear hW6 e6 RW5 c0 c1 c2 g0 g1 g2
      obtain ⟨c0, c1, c2, g0, g1, g2⟩ := R6.out.cf
      have d0 := R6.out.d.cell 0
      have d1 := R6.out.d.cell 1
      have d2 := R6.out.d.cell 2
      have d3 := R6.out.d.cell 3
      have d4 := R6.out.d.cell 4
      have d5 := R6.out.d.cell 5
      have d6 := R6.out.d.cell 6
      simp only [date7, D7.cs, List.getElem?_toArray, List.getElem?_cons_zero, List.getElem?_cons_succ] at d0 d1 d2 d3 d4 d5 d6
      go_wp2_with fail
      refine (HN.out.2.2.2.2.2.2.1 _).mono ?_
      rintro e w7 ⟨rfl, hb7⟩
      clear c0 c1 c2 g0 g1 g2 d0 d1 d2 d3 d4 d5 d6
      have R7 := Lib.hid (R6.out.below hb7)
      clear hb7
      obtain ⟨c0, c1, c2, g0, g1, g2⟩ := R7.out.cf
      have d0 := R7.out.d.cell 0
      have d1 := R7.out.d.cell 1
      have d2 := R7.out.d.cell 2
      have d3 := R7.out.d.cell 3
      have d4 := R7.out.d.cell 4
      have d5 := R7.out.d.cell 5
      have d6 := R7.out.d.cell 6
      simp only [date7, D7.cs, List.getElem?_toArray, List.getElem?_cons_zero, List.getElem?_cons_succ] at d0 d1 d2 d3 d4 d5 d6
      have df0 := R7.out.d.free 0
      have df1 := R7.out.d.free 1
      have df2 := R7.out.d.free 2
      have df3 := R7.out.d.free 3
      have df4 := R7.out.d.free 4
      have df5 := R7.out.d.free 5
      have df6 := R7.out.d.free 6
      have RG7 : RI s n (fu7 s) (fuD s) w ((((((((((w7.setCell ⟨n + 1 + 1, 0, none⟩ (.string s)).setCell ⟨n + 1 + 1, 1, none⟩ (.int .i64 ((fu7 s).pos : Int))).setCell ⟨n + 1 + 1, 2, none⟩ (.bool false)).setCell ⟨n + 1, 0, none⟩ (.int .i64 (fuD s).y)).setCell ⟨n + 1, 1, none⟩ (.int .i64 (fuD s).m)).setCell ⟨n + 1, 2, none⟩ (.int .i64 (fuD s).d)).setCell ⟨n + 1, 3, none⟩ (.int .i64 (fuD s).h)).setCell ⟨n + 1, 4, none⟩ (.int .i64 (fuD s).i)).setCell ⟨n + 1, 5, none⟩ (.int .i64 (fuD s).s)).setCell ⟨n + 1, 6, none⟩ (.int .i64 (fuD s).c)) := by
        have h := (R7.out.put (q' := fu7 s)).putd (fuD s)
        unfold rzput at h
        rw [hbd] at h
        exact h
      go_upto_region 12 with (fail)
      obtain ⟨W7, hW7⟩ : ∃ W, (((((((((w7.setCell ⟨n + 1 + 1, 0, none⟩ (.string s)).setCell ⟨n + 1 + 1, 1, none⟩ (.int .i64 ((fu7 s).pos : Int))).setCell ⟨n + 1 + 1, 2, none⟩ (.bool false)).setCell ⟨n + 1, 0, none⟩ (.int .i64 (fuD s).y)).setCell ⟨n + 1, 1, none⟩ (.int .i64 (fuD s).m)).setCell ⟨n + 1, 2, none⟩ (.int .i64 (fuD s).d)).setCell ⟨n + 1, 3, none⟩ (.int .i64 (fuD s).h)).setCell ⟨n + 1, 4, none⟩ (.int .i64 (fuD s).i)).setCell ⟨n + 1, 5, none⟩ (.int .i64 (fuD s).s)).setCell ⟨n + 1, 6, none⟩ (.int .i64 (fuD s).c) = W := ⟨_, rfl⟩
      rw [hW7] at RG7 ⊢
      have R8 := Lib.hid RG7
      clear RG7 hW7 R7 R6 c0 c1 c2 g0 g1 g2 d0 d1 d2 d3 d4 d5 d6 df0 df1 df2 df3 df4 df5 df6
      obtain ⟨c0, c1, c2, g0, g1, g2⟩ := R8.out.cf
      rw [hbd] at c2
      have d0 := R8.out.d.cell 0
      have d1 := R8.out.d.cell 1
      have d2 := R8.out.d.cell 2
      have d3 := R8.out.d.cell 3
      have d4 := R8.out.d.cell 4
      have d5 := R8.out.d.cell 5
      have d6 := R8.out.d.cell 6
      simp only [date7, D7.cs, List.getElem?_toArray, List.getElem?_cons_zero, List.getElem?_cons_succ] at d0 d1 d2 d3 d4 d5 d6
      have r0 := R8.out.r.cell 0
      have rf0 := R8.out.r.free 0
      have r1 := R8.out.r.cell 1
      have rf1 := R8.out.r.free 1
      have r2 := R8.out.r.cell 2
      have rf2 := R8.out.r.free 2
      have r3 := R8.out.r.cell 3
      have rf3 := R8.out.r.free 3
      have r4 := R8.out.r.cell 4
      have rf4 := R8.out.r.free 4
      have r5 := R8.out.r.cell 5
      have rf5 := R8.out.r.free 5
      have r6 := R8.out.r.cell 6
      have rf6 := R8.out.r.free 6
      simp only [z7, date7, List.getElem?_toArray, List.getElem?_cons_zero, List.getElem?_cons_succ] at r0 r1 r2 r3 r4 r5 r6
      have nn3 : n ≠ n + 1 := by omega
      have nn4 : n + 1 ≠ n := by omega
      have nn5 : n ≠ n + 1 + 1 := by omega
      have nn6 : n + 1 + 1 ≠ n := by omega
      go_wp2
      exact bodyPost_ret (v := .tuple #[.agg #[.int .i64 (fuD s).y, .int .i64 (fuD s).m, .int .i64 (fuD s).d, .int .i64 (fuD s).h, .int .i64 (fuD s).i, .int .i64 (fuD s).s, .int .i64 (fuD s).c], .int .i64 0, .int .i64 0, .bool false]) (by simp [results, Tryd.results17, go_sem, r0, r1, r2, r3, r4, r5, r6, d0, d1, d2, d3, d4, d5, d6]) rfl ⟨rfl, Below.mono (((((((R8.out.b.setCell (p := ⟨n, 0, none⟩) (Nat.le_refl _) _).setCell (p := ⟨n, 1, none⟩) (Nat.le_refl _) _).setCell (p := ⟨n, 2, none⟩) (Nat.le_refl _) _).setCell (p := ⟨n, 3, none⟩) (Nat.le_refl _) _).setCell (p := ⟨n, 4, none⟩) (Nat.le_refl _) _).setCell (p := ⟨n, 5, none⟩) (Nat.le_refl _) _).setCell (p := ⟨n, 6, none⟩) (Nat.le_refl _) _) (Nat.le_of_eq HNN.out)⟩
    · have e6 : fu6 s = expectC s (fu5 s) 32 := by unfold fu6; rw [if_neg hc]
      rw [byN_in s _ hz] at hc
      have q4 : ((s[(fu5 s).pos].toNat : Int) == 84) = false := by rw [beq_eq_false_iff_ne]; omega
      clear hc
      go_wp2_with fail
      refine (HN.out.2.2.2.2.2.1 _).mono ?_
      rintro e w6 ⟨rfl, hb6⟩
      clear c0 c1 c2 g0 g1 g2
      have RT6 := Lib.hid (RW5.out.below hb6)
      obtain ⟨c0, c1, c2, g0, g1, g2⟩ := RT6.out.cf
      go_upto_region 11 with (fail)
      have R6 := Lib.hid (show RI s n (fu6 s) ⟨(numC s 0 4 : Nat), (numC s (fu2 s).pos 2 : Nat), (numC s (fu4 s).pos 2 : Nat), 0, 0, 0, 0⟩ w (((w6.setCell ⟨n + 1 + 1, 0, none⟩ (.string s)).setCell ⟨n + 1 + 1, 1, none⟩ (.int .i64 ((expectC s (fu5 s) 32).pos : Int))).setCell ⟨n + 1 + 1, 2, none⟩ (.bool (!(expectC s (fu5 s) 32).bad))) by rw [e6]; exact RT6.out.put (q' := expectC s (fu5 s) 32))
      obtain ⟨W6, hW6⟩ : ∃ W, ((w6.setCell ⟨n + 1 + 1, 0, none⟩ (.string s)).setCell ⟨n + 1 + 1, 1, none⟩ (.int .i64 ((expectC s (fu5 s) 32).pos : Int))).setCell ⟨n + 1 + 1, 2, none⟩ (.bool (!(expectC s (fu5 s) 32).bad)) = W := ⟨_, rfl⟩
      rw [hW6] at R6 ⊢
      clear hW6 e6 hb6 RW5 RT6 c0 c1 c2 g0 g1 g2
      obtain ⟨c0, c1, c2, g0, g1, g2⟩ := R6.out.cf
      have d0 := R6.out.d.cell 0
      have d1 := R6.out.d.cell 1
      have d2 := R6.out.d.cell 2
      have d3 := R6.out.d.cell 3
      have d4 := R6.out.d.cell 4
      have d5 := R6.out.d.cell 5
      have d6 := R6.out.d.cell 6
      simp only [date7, D7.cs, List.getElem?_toArray, List.getElem?_cons_zero, List.getElem?_cons_succ] at d0 d1 d2 d3 d4 d5 d6
      go_wp2_with fail
      refine (HN.out.2.2.2.2.2.2.1 _).mono ?_
      rintro e w7 ⟨rfl, hb7⟩
      clear c0 c1 c2 g0 g1 g2 d0 d1 d2 d3 d4 d5 d6
      have R7 := Lib.hid (R6.out.below hb7)
      clear hb7
      obtain ⟨c0, c1, c2, g0, g1, g2⟩ := R7.out.cf
      have d0 := R7.out.d.cell 0
      have d1 := R7.out.d.cell 1
      have d2 := R7.out.d.cell 2
      have d3 := R7.out.d.cell 3
      have d4 := R7.out.d.cell 4
      have d5 := R7.out.d.cell 5
      have d6 := R7.out.d.cell 6
      simp only [date7, D7.cs, List.getElem?_toArray, List.getElem?_cons_zero, List.getElem?_cons_succ] at d0 d1 d2 d3 d4 d5 d6
      have df0 := R7.out.d.free 0
      have df1 := R7.out.d.free 1
      have df2 := R7.out.d.free 2
      have df3 := R7.out.d.free 3
      have df4 := R7.out.d.free 4
      have df5 := R7.out.d.free 5
      have df6 := R7.out.d.free 6
      have RG7 : RI s n (fu7 s) (fuD s) w ((((((((((w7.setCell ⟨n + 1 + 1, 0, none⟩ (.string s)).setCell ⟨n + 1 + 1, 1, none⟩ (.int .i64 ((fu7 s).pos : Int))).setCell ⟨n + 1 + 1, 2, none⟩ (.bool false)).setCell ⟨n + 1, 0, none⟩ (.int .i64 (fuD s).y)).setCell ⟨n + 1, 1, none⟩ (.int .i64 (fuD s).m)).setCell ⟨n + 1, 2, none⟩ (.int .i64 (fuD s).d)).setCell ⟨n + 1, 3, none⟩ (.int .i64 (fuD s).h)).setCell ⟨n + 1, 4, none⟩ (.int .i64 (fuD s).i)).setCell ⟨n + 1, 5, none⟩ (.int .i64 (fuD s).s)).setCell ⟨n + 1, 6, none⟩ (.int .i64 (fuD s).c)) := by
        have h := (R7.out.put (q' := fu7 s)).putd (fuD s)
        unfold rzput at h
        rw [hbd] at h
        exact h
      go_upto_region 12 with (fail)
      obtain ⟨W7, hW7⟩ : ∃ W, (((((((((w7.setCell ⟨n + 1 + 1, 0, none⟩ (.string s)).setCell ⟨n + 1 + 1, 1, none⟩ (.int .i64 ((fu7 s).pos : Int))).setCell ⟨n + 1 + 1, 2, none⟩ (.bool false)).setCell ⟨n + 1, 0, none⟩ (.int .i64 (fuD s).y)).setCell ⟨n + 1, 1, none⟩ (.int .i64 (fuD s).m)).setCell ⟨n + 1, 2, none⟩ (.int .i64 (fuD s).d)).setCell ⟨n + 1, 3, none⟩ (.int .i64 (fuD s).h)).setCell ⟨n + 1, 4, none⟩ (.int .i64 (fuD s).i)).setCell ⟨n + 1, 5, none⟩ (.int .i64 (fuD s).s)).setCell ⟨n + 1, 6, none⟩ (.int .i64 (fuD s).c) = W := ⟨_, rfl⟩
      rw [hW7] at RG7 ⊢
      have R8 := Lib.hid RG7
      clear RG7 hW7 R7 R6 c0 c1 c2 g0 g1 g2 d0 d1 d2 d3 d4 d5 d6 df0 df1 df2 df3 df4 df5 df6
      obtain ⟨c0, c1, c2, g0, g1, g2⟩ := R8.out.cf
      rw [hbd] at c2
      have d0 := R8.out.d.cell 0
      have d1 := R8.out.d.cell 1
      have d2 := R8.out.d.cell 2
      have d3 := R8.out.d.cell 3
      have d4 := R8.out.d.cell 4
      have d5 := R8.out.d.cell 5
      have d6 := R8.out.d.cell 6
      simp only [date7, D7.cs, List.getElem?_toArray, List.getElem?_cons_zero, List.getElem?_cons_succ] at d0 d1 d2 d3 d4 d5 d6
      have r0 := R8.out.r.cell 0
      have rf0 := R8.out.r.free 0
      have r1 := R8.out.r.cell 1
      have rf1 := R8.out.r.free 1
      have r2 := R8.out.r.cell 2
      have rf2 := R8.out.r.free 2
      have r3 := R8.out.r.cell 3
      have rf3 := R8.out.r.free 3
      have r4 := R8.out.r.cell 4
      have rf4 := R8.out.r.free 4
      have r5 := R8.out.r.cell 5
      have rf5 := R8.out.r.free 5
      have r6 := R8.out.r.cell 6
      have rf6 := R8.out.r.free 6
      simp only [z7, date7, List.getElem?_toArray, List.getElem?_cons_zero, List.getElem?_cons_succ] at r0 r1 r2 r3 r4 r5 r6
      have nn3 : n ≠ n + 1 := by omega
      have nn4 : n + 1 ≠ n := by omega
      have nn5 : n ≠ n + 1 + 1 := by omega
      have nn6 : n + 1 + 1 ≠ n := by omega
      go_wp2
      exact bodyPost_ret (v := .tuple #[.agg #[.int .i64 (fuD s).y, .int .i64 (fuD s).m, .int .i64 (fuD s).d, .int .i64 (fuD s).h, .int .i64 (fuD s).i, .int .i64 (fuD s).s, .int .i64 (fuD s).c], .int .i64 0, .int .i64 0, .bool false]) (by simp [results, Tryd.results17, go_sem, r0, r1, r2, r3, r4, r5, r6, d0, d1, d2, d3, d4, d5, d6]) rfl ⟨rfl, Below.mono (((((((R8.out.b.setCell (p := ⟨n, 0, none⟩) (Nat.le_refl _) _).setCell (p := ⟨n, 1, none⟩) (Nat.le_refl _) _).setCell (p := ⟨n, 2, none⟩) (Nat.le_refl _) _).setCell (p := ⟨n, 3, none⟩) (Nat.le_refl _) _).setCell (p := ⟨n, 4, none⟩) (Nat.le_refl _) _).setCell (p := ⟨n, 5, none⟩) (Nat.le_refl _) _).setCell (p := ⟨n, 6, none⟩) (Nat.le_refl _) _) (Nat.le_of_eq HNN.out)⟩
  · have dz : decide (((fu5 s).pos : Int) < (s.size : Int)) = false := by rw [decide_eq_false_iff_not]; omega
    have e6 : fu6 s = expectC s (fu5 s) 32 := by unfold fu6; rw [if_neg (by rw [byN_out s _ hz]; omega)]
    go_wp2_with fail
    refine (HN.out.2.2.2.2.2.1 _).mono ?_
    rintro e w6 ⟨rfl, hb6⟩
    clear c0 c1 c2 g0 g1 g2
    have RT6 := Lib.hid (RW5.out.below hb6)
    obtain ⟨c0, c1, c2, g0, g1, g2⟩ := RT6.out.cf
    go_upto_region 11 with (fail)
    have R6 := Lib.hid (show RI s n (fu6 s) ⟨(numC s 0 4 : Nat), (numC s (fu2 s).pos 2 : Nat), (numC s (fu4 s).pos 2 : Nat), 0, 0, 0, 0⟩ w (((w6.setCell ⟨n + 1 + 1, 0, none⟩ (.string s)).setCell ⟨n + 1 + 1, 1, none⟩ (.int .i64 ((expectC s (fu5 s) 32).pos : Int))).setCell ⟨n + 1 + 1, 2, none⟩ (.bool (!(expectC s (fu5 s) 32).bad))) by rw [e6]; exact RT6.out.put (q' := expectC s (fu5 s) 32))
    obtain ⟨W6, hW6⟩ : ∃ W, ((w6.setCell ⟨n + 1 + 1, 0, none⟩ (.string s)).setCell ⟨n + 1 + 1, 1, none⟩ (.int .i64 ((expectC s (fu5 s) 32).pos : Int))).setCell ⟨n + 1 + 1, 2, none⟩ (.bool (!(expectC s (fu5 s) 32).bad)) = W := ⟨_, rfl⟩
    rw [hW6] at R6 ⊢
    clear hW6 e6 hb6 RW5 RT6 c0 c1 c2 g0 g1 g2
    obtain ⟨c0, c1, c2, g0, g1, g2⟩ := R6.out.cf
    have d0 := R6.out.d.cell 0
    have d1 := R6.out.d.cell 1
    have d2 := R6.out.d.cell 2
    have d3 := R6.out.d.cell 3
    have d4 := R6.out.d.cell 4
    have d5 := R6.out.d.cell 5
    have d6 := R6.out.d.cell 6
    simp only [date7, D7.cs, List.getElem?_toArray, List.getElem?_cons_zero, List.getElem?_cons_succ] at d0 d1 d2 d3 d4 d5 d6
    go_wp2_with fail
    refine (HN.out.2.2.2.2.2.2.1 _).mono ?_
    rintro e w7 ⟨rfl, hb7⟩
    clear c0 c1 c2 g0 g1 g2 d0 d1 d2 d3 d4 d5 d6
    have R7 := Lib.hid (R6.out.below hb7)
    clear hb7
    obtain ⟨c0, c1, c2, g0, g1, g2⟩ := R7.out.cf
    have d0 := R7.out.d.cell 0
    have d1 := R7.out.d.cell 1
    have d2 := R7.out.d.cell 2
    have d3 := R7.out.d.cell 3
    have d4 := R7.out.d.cell 4
    have d5 := R7.out.d.cell 5
    have d6 := R7.out.d.cell 6
    simp only [date7, D7.cs, List.getElem?_toArray, List.getElem?_cons_zero, List.getElem?_cons_succ] at d0 d1 d2 d3 d4 d5 d6
    have df0 := R7.out.d.free 0
    have df1 := R7.out.d.free 1
    have df2 := R7.out.d.free 2
    have df3 := R7.out.d.free 3
    have df4 := R7.out.d.free 4
    have df5 := R7.out.d.free 5
    have df6 := R7.out.d.free 6
    have RG7 : RI s n (fu7 s) (fuD s) w ((((((((((w7.setCell ⟨n + 1 + 1, 0, none⟩ (.string s)).setCell ⟨n + 1 + 1, 1, none⟩ (.int .i64 ((fu7 s).pos : Int))).setCell ⟨n + 1 + 1, 2, none⟩ (.bool false)).setCell ⟨n + 1, 0, none⟩ (.int .i64 (fuD s).y)).setCell ⟨n + 1, 1, none⟩ (.int .i64 (fuD s).m)).setCell ⟨n + 1, 2, none⟩ (.int .i64 (fuD s).d)).setCell ⟨n + 1, 3, none⟩ (.int .i64 (fuD s).h)).setCell ⟨n + 1, 4, none⟩ (.int .i64 (fuD s).i)).setCell ⟨n + 1, 5, none⟩ (.int .i64 (fuD s).s)).setCell ⟨n + 1, 6, none⟩ (.int .i64 (fuD s).c)) := by
      have h := (R7.out.put (q' := fu7 s)).putd (fuD s)
      unfold rzput at h
      rw [hbd] at h
      exact h
    go_upto_region 12 with (fail)
    obtain ⟨W7, hW7⟩ : ∃ W, (((((((((w7.setCell ⟨n + 1 + 1, 0, none⟩ (.string s)).setCell ⟨n + 1 + 1, 1, none⟩ (.int .i64 ((fu7 s).pos : Int))).setCell ⟨n + 1 + 1, 2, none⟩ (.bool false)).setCell ⟨n + 1, 0, none⟩ (.int .i64 (fuD s).y)).setCell ⟨n + 1, 1, none⟩ (.int .i64 (fuD s).m)).setCell ⟨n + 1, 2, none⟩ (.int .i64 (fuD s).d)).setCell ⟨n + 1, 3, none⟩ (.int .i64 (fuD s).h)).setCell ⟨n + 1, 4, none⟩ (.int .i64 (fuD s).i)).setCell ⟨n + 1, 5, none⟩ (.int .i64 (fuD s).s)).setCell ⟨n + 1, 6, none⟩ (.int .i64 (fuD s).c) = W := ⟨_, rfl⟩
    rw [hW7] at RG7 ⊢
    have R8 := Lib.hid RG7
    clear RG7 hW7 R7 R6 c0 c1 c2 g0 g1 g2 d0 d1 d2 d3 d4 d5 d6 df0 df1 df2 df3 df4 df5 df6
    obtain ⟨c0, c1, c2, g0, g1, g2⟩ := R8.out.cf
    rw [hbd] at c2
    have d0 := R8.out.d.cell 0
    have d1 := R8.out.d.cell 1
    have d2 := R8.out.d.cell 2
    have d3 := R8.out.d.cell 3
    have d4 := R8.out.d.cell 4
    have d5 := R8.out.d.cell 5
    have d6 := R8.out.d.cell 6
    simp only [date7, D7.cs, List.getElem?_toArray, List.getElem?_cons_zero, List.getElem?_cons_succ] at d0 d1 d2 d3 d4 d5 d6
    have r0 := R8.out.r.cell 0
    have rf0 := R8.out.r.free 0
    have r1 := R8.out.r.cell 1
    have rf1 := R8.out.r.free 1
    have r2 := R8.out.r.cell 2
    have rf2 := R8.out.r.free 2
    have r3 := R8.out.r.cell 3
    have rf3 := R8.out.r.free 3
    have r4 := R8.out.r.cell 4
    have rf4 := R8.out.r.free 4
    have r5 := R8.out.r.cell 5
    have rf5 := R8.out.r.free 5
    have r6 := R8.out.r.cell 6
    have rf6 := R8.out.r.free 6
    simp only [z7, date7, List.getElem?_toArray, List.getElem?_cons_zero, List.getElem?_cons_succ] at r0 r1 r2 r3 r4 r5 r6
    have nn3 : n ≠ n + 1 := by omega
    have nn4 : n + 1 ≠ n := by omega
    have nn5 : n ≠ n + 1 + 1 := by omega
    have nn6 : n + 1 + 1 ≠ n := by omega
    go_wp2
    exact bodyPost_ret (v := .tuple #[.agg #[.int .i64 (fuD s).y, .int .i64 (fuD s).m, .int .i64 (fuD s).d, .int .i64 (fuD s).h, .int .i64 (fuD s).i, .int .i64 (fuD s).s, .int .i64 (fuD s).c], .int .i64 0, .int .i64 0, .bool false]) (by simp [results, Tryd.results17, go_sem, r0, r1, r2, r3, r4, r5, r6, d0, d1, d2, d3, d4, d5, d6]) rfl ⟨rfl, Below.mono (((((((R8.out.b.setCell (p := ⟨n, 0, none⟩) (Nat.le_refl _) _).setCell (p := ⟨n, 1, none⟩) (Nat.le_refl _) _).setCell (p := ⟨n, 2, none⟩) (Nat.le_refl _) _).setCell (p := ⟨n, 3, none⟩) (Nat.le_refl _) _).setCell (p := ⟨n, 4, none⟩) (Nat.le_refl _) _).setCell (p := ⟨n, 5, none⟩) (Nat.le_refl _) _).setCell (p := ⟨n, 6, none⟩) (Nat.le_refl _) _) (Nat.le_of_eq HNN.out)⟩
end Go.Proofs.YtpbfgafkoodeoaaDoor
