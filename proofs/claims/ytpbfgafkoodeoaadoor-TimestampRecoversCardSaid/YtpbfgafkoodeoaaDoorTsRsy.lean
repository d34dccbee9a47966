/- The contract of the reference's form 2. -/
import Derived.Test.YtpbfgafkoodeoaaDoorTsRiso
import Derived.Test.YtpbfgafkoodeoaaDoorRvL
import Derived.Test.YtpbfgafkoodeoaaDoorRvK
namespace Go.Proofs.YtpbfgafkoodeoaaDoor
open Go.RowKit

/-- What a form of the reference keeps while it reads: the result, the date, the cursor. -/
structure RJ (s : ByteArray) (n cb : Nat) (q : CS) (x : D7) (w0 w : World) : Prop where
  r : RowAt n 38 z7 w
  d : RowAt (n + 1) 38 x.cs w
  c : RowAt (cb) 67 (rcA s q.pos (!q.bad)) w
  b : Below n w0 w
  hn : n = w0.heap.size
  hc : n + 1 < cb
variable {s : ByteArray} {n cb : Nat} {q q' : CS} {x : D7} {w0 w w' : World}
theorem RJ.below (h : RJ s n cb q x w0 w) (k : Below w.heap.size w w') : RJ s n cb q x w0 w' := ⟨h.r.below k, h.d.below k, h.c.below k, h.b.trans (k.mono (by have := h.r.lt; omega)), h.hn, h.hc⟩
theorem RJ.put (h : RJ s n cb q x w0 w) : RJ s n cb q' x w0 (rzput w (cb) s q') := by
  refine ⟨((h.r.other 0 _ (by have := h.hc; omega)).other 1 _ (by have := h.hc; omega)).other 2 _ (by have := h.hc; omega), ((h.d.other 0 _ (by have := h.hc; omega)).other 1 _ (by have := h.hc; omega)).other 2 _ (by have := h.hc; omega), ?_, ?_, h.hn, h.hc⟩
  · exact ((h.c.set 0 (.string s)).set 1 (.int .i64 (q'.pos : Int))).set 2 (.bool (!q'.bad))
  · unfold rzput
    exact ((h.b.setCell (p := ⟨cb, 0, none⟩) (by show n ≤ cb; have := h.hc; omega) _).setCell (p := ⟨cb, 1, none⟩) (by show n ≤ cb; have := h.hc; omega) _).setCell (p := ⟨cb, 2, none⟩) (by show n ≤ cb; have := h.hc; omega) _
theorem RJ.at (h : RJ s n cb q x w0 w) (k : Nat) : RJ s n cb ⟨k, q.bad⟩ x w0 (w.setCell ⟨cb, 1, none⟩ (.int .i64 (k : Int))) :=
  ⟨h.r.other 1 _ (by have := h.hc; omega), h.d.other 1 _ (by have := h.hc; omega), h.c.set 1 _, h.b.setCell (p := ⟨cb, 1, none⟩) (by show n ≤ cb; have := h.hc; omega) _, h.hn, h.hc⟩
theorem RJ.ok (h : RJ s n cb q x w0 w) (b : Bool) : RJ s n cb ⟨q.pos, !b⟩ x w0 (w.setCell ⟨cb, 2, none⟩ (.bool b)) := by
  refine ⟨h.r.other 2 _ (by have := h.hc; omega), h.d.other 2 _ (by have := h.hc; omega), ?_, h.b.setCell (p := ⟨cb, 2, none⟩) (by show n ≤ cb; have := h.hc; omega) _, h.hn, h.hc⟩
  have e := h.c.set 2 (.bool b)
  simp only [Bool.not_not]
  exact e
theorem RJ.putd (h : RJ s n cb q x w0 w) (y : D7) : RJ s n cb q y w0 (put7 w (n + 1) 0 y.y y.m y.d y.h y.i y.s y.c) :=
  ⟨put7_other h.r (by have := h.hc; omega) 0 _ _ _ _ _ _ _, (show set7 x.cs 0 y.y y.m y.d y.h y.i y.s y.c = y.cs by simp [set7, D7.cs, date7]) ▸ put7_row h.d 0 y.y y.m y.d y.h y.i y.s y.c, put7_other h.c (by have := h.hc; omega) 0 _ _ _ _ _ _ _, put7_below h.b (by have := h.hc; omega) 0 _ _ _ _ _ _ _, h.hn, h.hc⟩
theorem RJ.setd {x' : D7} (h : RJ s n cb q x w0 w) (i : Nat) (v : Value) (e : x.cs.setIfInBounds i v = x'.cs) : RJ s n cb q x' w0 (w.setCell ⟨n + 1, i, none⟩ v) :=
  ⟨h.r.other i v (by have := h.hc; omega), e ▸ h.d.set i v, h.c.other i v (by have := h.hc; omega), h.b.setCell (p := ⟨n + 1, i, none⟩) (by show n ≤ n + 1; omega) v, h.hn, h.hc⟩
theorem RJ.s0 (h : RJ s n cb q x w0 w) (v : Int) : RJ s n cb q ⟨v, x.m, x.d, x.h, x.i, x.s, x.c⟩ w0 (w.setCell ⟨n + 1, 0, none⟩ (.int .i64 v)) := h.setd 0 _ rfl
theorem RJ.s1 (h : RJ s n cb q x w0 w) (v : Int) : RJ s n cb q ⟨x.y, v, x.d, x.h, x.i, x.s, x.c⟩ w0 (w.setCell ⟨n + 1, 1, none⟩ (.int .i64 v)) := h.setd 1 _ rfl
theorem RJ.s2 (h : RJ s n cb q x w0 w) (v : Int) : RJ s n cb q ⟨x.y, x.m, v, x.h, x.i, x.s, x.c⟩ w0 (w.setCell ⟨n + 1, 2, none⟩ (.int .i64 v)) := h.setd 2 _ rfl
theorem RJ.cf (h : RJ s n cb q x w0 w) : w.cell? ⟨cb, 0, none⟩ = some (.string s) ∧ w.cell? ⟨cb, 1, none⟩ = some (.int .i64 (q.pos : Int)) ∧ w.cell? ⟨cb, 2, none⟩ = some (.bool (!q.bad)) ∧ w.frozen? ⟨cb, 0, none⟩ = false ∧ w.frozen? ⟨cb, 1, none⟩ = false ∧ w.frozen? ⟨cb, 2, none⟩ = false :=
  ⟨h.c.cell 0, h.c.cell 1, h.c.cell 2, h.c.free 0, h.c.free 1, h.c.free 2⟩
/-- Before there is a cursor. -/
structure RP (n : Nat) (x : D7) (w0 w : World) : Prop where
  r : RowAt n 38 z7 w
  d : RowAt (n + 1) 38 x.cs w
  b : Below n w0 w
  hn : n = w0.heap.size
theorem RP.below (h : RP n x w0 w) (k : Below w.heap.size w w') : RP n x w0 w' := ⟨h.r.below k, h.d.below k, h.b.trans (k.mono (by have := h.r.lt; omega)), h.hn⟩
theorem RP.s1 (h : RP n x w0 w) (v : Int) : RP n ⟨x.y, v, x.d, x.h, x.i, x.s, x.c⟩ w0 (w.setCell ⟨n + 1, 1, none⟩ (.int .i64 v)) :=
  ⟨h.r.other 1 _ (by omega), h.d.set 1 _, h.b.setCell (p := ⟨n + 1, 1, none⟩) (by show n ≤ n + 1; omega) _, h.hn⟩
theorem RP.start (w : World) : RP w.heap.size ⟨0, 0, 0, 0, 0, 0, 0⟩ w ((w.alloc (.cells z7 38)).alloc (.cells z7 38)) := by
  have e1 : ∀ (W : World) (o : Obj), (W.alloc o).heap.size = W.heap.size + 1 := fun W o => by simp
  have r1 := RowAt.new 38 z7 w
  have r2 := RowAt.new 38 z7 (w.alloc (.cells z7 38))
  rw [e1] at r2
  exact ⟨r1.below (below_alloc _ _), r2, bl_trans (below_alloc _ _) (below_alloc _ _), rfl⟩
theorem RP.cur (h : RP n x w0 w) (s : ByteArray) (q : CS) : RJ s n w.heap.size q x w0 (w.alloc (.cells (rcA s q.pos (!q.bad)) 67)) :=
  ⟨h.r.below (below_alloc _ _), h.d.below (below_alloc _ _), RowAt.new _ _ _, h.b.trans ((below_alloc _ _).mono (by have := h.r.lt; omega)), h.hn, h.d.lt⟩

set_option maxRecDepth 100000 in
set_option linter.unusedSimpArgs false in
set_option linter.unusedVariables false in
set_option maxHeartbeats 16000000 in
theorem rsyslog_long (s : ByteArray) (hs : s.size ≤ 20000) (h4 : 4 ≤ s.size) (w : World) :
    Calls Tryd.prog 20 #[.string s] w fun e w' => e = .returned (.tuple #[(tyD s).ag, .int .i64 ((ty6 s).pos : Int), .bool (!(ty6 s).bad)]) ∧ Below w.heap.size w w' := by
  have i1 : (sy1 s).pos ≤ s.size := by unfold sy1 monthC monQ; simp only; omega
  have p1 : (sy1 s).pos = 3 := by unfold sy1 monthC monQ; simp only; omega
  have i2 : (sy2 s).pos ≤ s.size := expectC_in i1 (by omega)
  have i3 : (ty3 s).pos ≤ s.size := by unfold ty3; split; exact i2; exact takeC_in i2 (by omega)
  have i4 : (ty4 s).pos ≤ s.size := digitsC_in i3
  have i5 : (ty5 s).pos ≤ s.size := expectC_in i4 (by omega)
  have em : cmonN s ⟨0, false⟩ = monthN (s.extract 0 3).data.toList := by unfold cmonN monQ; simp only; rw [show min (0 + 3) s.size = 3 by omega]
  have hm0 := fun W => rmonth_any (s.extract 0 3) (by rw [ByteArray.size_extract]; omega) W
  rw [← em] at hm0
  have N1 : ∀ W, Calls Tryd.prog 38 #[.agg #[.string s, .int .i64 3, .bool (!(sy1 s).bad)], .int .u8 32] W fun e w' => e = .returned (rcV s (sy2 s)) ∧ Below W.heap.size W w' := fun W => by
    have h := rcV_byte s (sy1 s) 32 i1 hs (by omega) W
    unfold rcV at h ⊢
    rw [p1] at h
    exact h
  have N4 : ∀ W, Calls Tryd.prog 37 #[rcV s (ty3 s), .int .i64 1, .int .i64 2] W fun e w' => e = .returned (.tuple #[rcV s (ty4 s), .int .i64 (numC s (ty3 s).pos 2 : Nat)]) ∧ Below W.heap.size W w' := fun W => rcV_number s (ty3 s) 1 2 i3 hs (by omega) (by omega) W
  have N5 : ∀ W, Calls Tryd.prog 38 #[rcV s (ty4 s), .int .u8 32] W fun e w' => e = .returned (rcV s (ty5 s)) ∧ Below W.heap.size W w' := fun W => rcV_byte s (ty4 s) 32 i4 hs (by omega) W
  have N6 : ∀ W, Calls Tryd.prog 24 #[rcV s (ty5 s), .agg #[.int .i64 0, .int .i64 (cmonN s ⟨0, false⟩ : Nat), .int .i64 (numC s (ty3 s).pos 2 : Nat), .int .i64 0, .int .i64 0, .int .i64 0, .int .i64 0]] W fun e w' => e = .returned (.tuple #[rcV s (ty6 s), (tyD s).ag]) ∧ Below W.heap.size W w' := fun W => rclk_any s (ty5 s) 0 (cmonN s ⟨0, false⟩ : Nat) (numC s (ty3 s).pos 2 : Nat) i5 hs W
  have hbm : decide ((0 : Int) < (cmonN s ⟨0, false⟩ : Nat)) = !(sy1 s).bad := by
    unfold sy1 monthC
    simp only [Bool.false_or]
    by_cases h : cmonN s ⟨0, false⟩ = 0
    · rw [h]; rfl
    · rw [decide_eq_true (by omega), decide_eq_false h]; rfl
  have hml := monthN_le (s.extract 0 3).data.toList
  rw [← em] at hml
  have hnn := And.intro hm0 (And.intro N1 (And.intro N4 (And.intro N5 N6)))
  obtain ⟨M, hM⟩ : ∃ M : Nat, cmonN s ⟨0, false⟩ = M := ⟨_, rfl⟩
  rw [hM] at hnn hbm hml
  obtain ⟨b1, hb1⟩ : ∃ b, (!(sy1 s).bad) = b := ⟨_, rfl⟩
  rw [hb1] at hnn hbm
  have hbm2 : decide (0 < M) = b1 := by rw [← hbm]; simp
  have HN := Lib.hid hnn
  clear hnn hM hb1
  have HI := Lib.hid i2
  clear N1 N4 N5 N6 hm0 i1 i2 i3 i4 i5 em p1
  unfold rcV D7.ag at HN
  have RS0 := Lib.hid (show RP w.heap.size ⟨0, 0, 0, 0, 0, 0, 0⟩ w ((w.alloc (.cells #[.int .i64 0, .int .i64 0, .int .i64 0, .int .i64 0, .int .i64 0, .int .i64 0, .int .i64 0] 38)).alloc (.cells #[.int .i64 0, .int .i64 0, .int .i64 0, .int .i64 0, .int .i64 0, .int .i64 0, .int .i64 0] 38)) from RP.start w)
  obtain ⟨n, hn⟩ : ∃ n, w.heap.size = n := ⟨_, rfl⟩
  have d4 : decide ((s.size : Int) < 4) = false := by rw [decide_eq_false_iff_not]; omega
  have hx3 : (3 : Int) ≤ (s.size : Int) := by omega
  go_enter Tryd.func20, Tryd.ntmps20
  go_wp2_with fail
  rw [hn] at RS0
  obtain ⟨X, hX⟩ : ∃ X, ((w.alloc (.cells #[.int .i64 0, .int .i64 0, .int .i64 0, .int .i64 0, .int .i64 0, .int .i64 0, .int .i64 0] 38)).alloc (.cells #[.int .i64 0, .int .i64 0, .int .i64 0, .int .i64 0, .int .i64 0, .int .i64 0, .int .i64 0] 38)) = X := ⟨_, rfl⟩
  rw [hX] at RS0 ⊢
  have HNN := Lib.hid hn
  clear hX hn
  have nn1 : n ≠ n + 1 := by omega
  have nn2 : n + 1 ≠ n := by omega
  refine (HN.out.1 _).mono ?_
  rintro e w1 ⟨rfl, hb1⟩
  have RT1 := Lib.hid (RS0.out.below hb1)
  clear hb1
  have d1 := RT1.out.d.cell 1
  have f1 := RT1.out.d.free 1
  have RS1 := Lib.hid (RT1.out.s1 (M : Int))
  go_wp2_with fail
  refine (HN.out.2.1 _).mono ?_
  rintro e w2 ⟨rfl, hb2⟩
  clear d1 f1
  have RT2 := Lib.hid (RS1.out.below hb2)
  have RC := Lib.hid (RT2.out.cur s (sy2 s))
  clear hb2 hbm hbm2
  go_upto_region 6 with (fail)
  obtain ⟨c, hc⟩ : ∃ c, w2.heap.size = c := ⟨_, rfl⟩
  have HC1 := Lib.hid (show n + 1 < c by have := RC.out.hc; omega)
  rw [hc] at RC ⊢
  have RG2 : RJ s n c (sy2 s) ⟨0, (M : Int), 0, 0, 0, 0, 0⟩ w (w2.alloc (.cells #[.string s, .int .i64 ((sy2 s).pos : Int), .bool (!(sy2 s).bad)] 67)) := RC.out
  obtain ⟨W2, hW2⟩ : ∃ W, w2.alloc (.cells #[.string s, .int .i64 ((sy2 s).pos : Int), .bool (!(sy2 s).bad)] 67) = W := ⟨_, rfl⟩
  rw [hW2] at RG2 ⊢
  have R5 := Lib.hid RG2
  clear RG2 hW2 hc RC RT2 RS1 RT1 RS0
  have nn7 : n + 1 ≠ c := by have := HC1.out; omega
  have nn8 : c ≠ n + 1 := by have := HC1.out; omega
  obtain ⟨c0, c1, c2, g0, g1, g2⟩ := R5.out.cf
  cases hb2 : (sy2 s).bad with
  | true =>
    have e3 : ty3 s = sy2 s := by unfold ty3; rw [if_pos hb2]
    rw [hb2] at c2
    go_upto_region 8 with (fail)
    have R6 := R5
    rw [← e3] at R6
    clear R5 e3 hb2 c0 c1 c2 g0 g1 g2
    obtain ⟨c0, c1, c2, g0, g1, g2⟩ := R6.out.cf
    go_wp2_with fail
    refine (HN.out.2.2.1 _).mono ?_
    rintro e w4 ⟨rfl, hb4⟩
    clear c0 c1 c2 g0 g1 g2
    have RT4 := Lib.hid (R6.out.below hb4)
    clear hb4
    obtain ⟨c0, c1, c2, g0, g1, g2⟩ := RT4.out.cf
    have d2 := RT4.out.d.cell 2
    have f2 := RT4.out.d.free 2
    have RS4 := Lib.hid ((RT4.out.put (q' := ty4 s)).s2 (numC s (ty3 s).pos 2 : Nat))
    go_wp2_with fail
    refine (HN.out.2.2.2.1 _).mono ?_
    rintro e w5 ⟨rfl, hb5⟩
    clear c0 c1 c2 g0 g1 g2 d2 f2
    have RT5 := Lib.hid (RS4.out.below hb5)
    clear hb5
    obtain ⟨c0, c1, c2, g0, g1, g2⟩ := RT5.out.cf
    have RG5 : RJ s n c (ty5 s) ⟨0, (M : Int), (numC s (ty3 s).pos 2 : Nat), 0, 0, 0, 0⟩ w (((w5.setCell ⟨c, 0, none⟩ (.string s)).setCell ⟨c, 1, none⟩ (.int .i64 ((ty5 s).pos : Int))).setCell ⟨c, 2, none⟩ (.bool (!(ty5 s).bad))) := RT5.out.put (q' := ty5 s)
    go_upto_region 10 with (fail)
    obtain ⟨W5, hW5⟩ : ∃ W, ((w5.setCell ⟨c, 0, none⟩ (.string s)).setCell ⟨c, 1, none⟩ (.int .i64 ((ty5 s).pos : Int))).setCell ⟨c, 2, none⟩ (.bool (!(ty5 s).bad)) = W := ⟨_, rfl⟩
    rw [hW5] at RG5 ⊢
    have R7 := Lib.hid RG5
    clear hW5 RG5 RT5 RS4 RT4 R6 c0 c1 c2 g0 g1 g2
    obtain ⟨c0, c1, c2, g0, g1, g2⟩ := R7.out.cf
    have d0 := R7.out.d.cell 0
    have d1 := R7.out.d.cell 1
    have d2 := R7.out.d.cell 2
    have d3 := R7.out.d.cell 3
    have d4 := R7.out.d.cell 4
    have d5 := R7.out.d.cell 5
    have d6 := R7.out.d.cell 6
    simp only [date7, D7.cs, List.getElem?_toArray, List.getElem?_cons_zero, List.getElem?_cons_succ] at d0 d1 d2 d3 d4 d5 d6
    go_wp2_with fail
    refine (HN.out.2.2.2.2 _).mono ?_
    rintro e w8 ⟨rfl, hb8⟩
    clear c0 c1 c2 g0 g1 g2 d0 d1 d2 d3 d4 d5 d6
    have R8 := Lib.hid (R7.out.below hb8)
    clear hb8
    obtain ⟨c0, c1, c2, g0, g1, g2⟩ := R8.out.cf
    have d0 := R8.out.d.cell 0
    have d1 := R8.out.d.cell 1
    have d2 := R8.out.d.cell 2
    have d3 := R8.out.d.cell 3
    have d4 := R8.out.d.cell 4
    have d5 := R8.out.d.cell 5
    have d6 := R8.out.d.cell 6
    simp only [date7, D7.cs, List.getElem?_toArray, List.getElem?_cons_zero, List.getElem?_cons_succ] at d0 d1 d2 d3 d4 d5 d6
    have df0 := R8.out.d.free 0
    have df1 := R8.out.d.free 1
    have df2 := R8.out.d.free 2
    have df3 := R8.out.d.free 3
    have df4 := R8.out.d.free 4
    have df5 := R8.out.d.free 5
    have df6 := R8.out.d.free 6
    have RG8 : RJ s n c (ty6 s) (tyD s) w ((((((((((w8.setCell ⟨c, 0, none⟩ (.string s)).setCell ⟨c, 1, none⟩ (.int .i64 ((ty6 s).pos : Int))).setCell ⟨c, 2, none⟩ (.bool (!(ty6 s).bad))).setCell ⟨n + 1, 0, none⟩ (.int .i64 (tyD s).y)).setCell ⟨n + 1, 1, none⟩ (.int .i64 (tyD s).m)).setCell ⟨n + 1, 2, none⟩ (.int .i64 (tyD s).d)).setCell ⟨n + 1, 3, none⟩ (.int .i64 (tyD s).h)).setCell ⟨n + 1, 4, none⟩ (.int .i64 (tyD s).i)).setCell ⟨n + 1, 5, none⟩ (.int .i64 (tyD s).s)).setCell ⟨n + 1, 6, none⟩ (.int .i64 (tyD s).c)) := (R8.out.put (q' := ty6 s)).putd (tyD s)
    go_upto_region 11 with (fail)
    obtain ⟨W8, hW8⟩ : ∃ W, (((((((((w8.setCell ⟨c, 0, none⟩ (.string s)).setCell ⟨c, 1, none⟩ (.int .i64 ((ty6 s).pos : Int))).setCell ⟨c, 2, none⟩ (.bool (!(ty6 s).bad))).setCell ⟨n + 1, 0, none⟩ (.int .i64 (tyD s).y)).setCell ⟨n + 1, 1, none⟩ (.int .i64 (tyD s).m)).setCell ⟨n + 1, 2, none⟩ (.int .i64 (tyD s).d)).setCell ⟨n + 1, 3, none⟩ (.int .i64 (tyD s).h)).setCell ⟨n + 1, 4, none⟩ (.int .i64 (tyD s).i)).setCell ⟨n + 1, 5, none⟩ (.int .i64 (tyD s).s)).setCell ⟨n + 1, 6, none⟩ (.int .i64 (tyD s).c) = W := ⟨_, rfl⟩
    rw [hW8] at RG8 ⊢
    have R9 := Lib.hid RG8
    clear RG8 hW8 R8 R7 c0 c1 c2 g0 g1 g2 d0 d1 d2 d3 d4 d5 d6 df0 df1 df2 df3 df4 df5 df6
    obtain ⟨c0, c1, c2, g0, g1, g2⟩ := R9.out.cf
    have d0 := R9.out.d.cell 0
    have d1 := R9.out.d.cell 1
    have d2 := R9.out.d.cell 2
    have d3 := R9.out.d.cell 3
    have d4 := R9.out.d.cell 4
    have d5 := R9.out.d.cell 5
    have d6 := R9.out.d.cell 6
    simp only [date7, D7.cs, List.getElem?_toArray, List.getElem?_cons_zero, List.getElem?_cons_succ] at d0 d1 d2 d3 d4 d5 d6
    have r0 := R9.out.r.cell 0
    have rf0 := R9.out.r.free 0
    have r1 := R9.out.r.cell 1
    have rf1 := R9.out.r.free 1
    have r2 := R9.out.r.cell 2
    have rf2 := R9.out.r.free 2
    have r3 := R9.out.r.cell 3
    have rf3 := R9.out.r.free 3
    have r4 := R9.out.r.cell 4
    have rf4 := R9.out.r.free 4
    have r5 := R9.out.r.cell 5
    have rf5 := R9.out.r.free 5
    have r6 := R9.out.r.cell 6
    have rf6 := R9.out.r.free 6
    simp only [z7, date7, List.getElem?_toArray, List.getElem?_cons_zero, List.getElem?_cons_succ] at r0 r1 r2 r3 r4 r5 r6
    have nn3 : n ≠ n + 1 := by omega
    have nn4 : n + 1 ≠ n := by omega
    have nn5 : n ≠ c := by have := HC1.out; omega
    have nn6 : c ≠ n := by have := HC1.out; omega
    go_region
    all_goals
      go_wp2
      exact bodyPost_ret (v := .tuple #[.agg #[.int .i64 (tyD s).y, .int .i64 (tyD s).m, .int .i64 (tyD s).d, .int .i64 (tyD s).h, .int .i64 (tyD s).i, .int .i64 (tyD s).s, .int .i64 (tyD s).c], .int .i64 ((ty6 s).pos : Int), .bool (!(ty6 s).bad)]) (by simp [results, Tryd.results20, go_sem, r0, r1, r2, r3, r4, r5, r6, d0, d1, d2, d3, d4, d5, d6]) rfl ⟨rfl, Below.mono (((((((R9.out.b.setCell (p := ⟨n, 0, none⟩) (Nat.le_refl _) _).setCell (p := ⟨n, 1, none⟩) (Nat.le_refl _) _).setCell (p := ⟨n, 2, none⟩) (Nat.le_refl _) _).setCell (p := ⟨n, 3, none⟩) (Nat.le_refl _) _).setCell (p := ⟨n, 4, none⟩) (Nat.le_refl _) _).setCell (p := ⟨n, 5, none⟩) (Nat.le_refl _) _).setCell (p := ⟨n, 6, none⟩) (Nat.le_refl _) _).drew (Nat.le_of_eq HNN.out)⟩
  | false =>
    have e3 : ty3 s = sy3 s := by unfold ty3; rw [hb2]; rfl
    rw [hb2] at c2
    by_cases hz : (sy2 s).pos < s.size
    · have dz : decide (((sy2 s).pos : Int) < (s.size : Int)) = true := by rw [decide_eq_true_iff]; omega
      by_cases hc : byN s (sy2 s).pos = 32
      · have e4 : sy3 s = ⟨(sy2 s).pos + 1, (sy2 s).bad⟩ := by unfold sy3 takeC; rw [if_pos hc]; rfl
        rw [byN_in s _ hz] at hc
        have q4 : ((s[(sy2 s).pos].toNat : Int) == 32) = true := by rw [beq_iff_eq]; omega
        clear hc
        go_upto_region 8 with (fail)
        have R6 := Lib.hid (show RJ s n c (ty3 s) ⟨0, (M : Int), 0, 0, 0, 0, 0⟩ w (W2.setCell ⟨c, 1, none⟩ (.int .i64 (((sy2 s).pos : Int) + 1))) by rw [e3, e4]; exact R5.out.at ((sy2 s).pos + 1))
        obtain ⟨W3, hW3⟩ : ∃ W, W2.setCell ⟨c, 1, none⟩ (.int .i64 (((sy2 s).pos : Int) + 1)) = W := ⟨_, rfl⟩
        rw [hW3] at R6 ⊢
        clear hW3 R5 e3 e4 hb2 c0 c1 c2 g0 g1 g2
        obtain ⟨c0, c1, c2, g0, g1, g2⟩ := R6.out.cf
        go_wp2_with fail
        refine (HN.out.2.2.1 _).mono ?_
        rintro e w4 ⟨rfl, hb4⟩
        clear c0 c1 c2 g0 g1 g2
        have RT4 := Lib.hid (R6.out.below hb4)
        clear hb4
        obtain ⟨c0, c1, c2, g0, g1, g2⟩ := RT4.out.cf
        have d2 := RT4.out.d.cell 2
        have f2 := RT4.out.d.free 2
        have RS4 := Lib.hid ((RT4.out.put (q' := ty4 s)).s2 (numC s (ty3 s).pos 2 : Nat))
        go_wp2_with fail
        refine (HN.out.2.2.2.1 _).mono ?_
        rintro e w5 ⟨rfl, hb5⟩
        clear c0 c1 c2 g0 g1 g2 d2 f2
        have RT5 := Lib.hid (RS4.out.below hb5)
        clear hb5
        obtain ⟨c0, c1, c2, g0, g1, g2⟩ := RT5.out.cf
        have RG5 : RJ s n c (ty5 s) ⟨0, (M : Int), (numC s (ty3 s).pos 2 : Nat), 0, 0, 0, 0⟩ w (((w5.setCell ⟨c, 0, none⟩ (.string s)).setCell ⟨c, 1, none⟩ (.int .i64 ((ty5 s).pos : Int))).setCell ⟨c, 2, none⟩ (.bool (!(ty5 s).bad))) := RT5.out.put (q' := ty5 s)
        go_upto_region 10 with (fail)
        obtain ⟨W5, hW5⟩ : ∃ W, ((w5.setCell ⟨c, 0, none⟩ (.string s)).setCell ⟨c, 1, none⟩ (.int .i64 ((ty5 s).pos : Int))).setCell ⟨c, 2, none⟩ (.bool (!(ty5 s).bad)) = W := ⟨_, rfl⟩
        rw [hW5] at RG5 ⊢
        have R7 := Lib.hid RG5
        clear hW5 RG5 RT5 RS4 RT4 R6 c0 c1 c2 g0 g1 g2
        obtain ⟨c0, c1, c2, g0, g1, g2⟩ := R7.out.cf
        have d0 := R7.out.d.cell 0
        have d1 := R7.out.d.cell 1
        have d2 := R7.out.d.cell 2
        have d3 := R7.out.d.cell 3
        have d4 := R7.out.d.cell 4
        have d5 := R7.out.d.cell 5
        have d6 := R7.out.d.cell 6
        simp only [date7, D7.cs, List.getElem?_toArray, List.getElem?_cons_zero, List.getElem?_cons_succ] at d0 d1 d2 d3 d4 d5 d6
        go_wp2_with fail
        refine (HN.out.2.2.2.2 _).mono ?_
        rintro e w8 ⟨rfl, hb8⟩
        clear c0 c1 c2 g0 g1 g2 d0 d1 d2 d3 d4 d5 d6
        have R8 := Lib.hid (R7.out.below hb8)
        clear hb8
        obtain ⟨c0, c1, c2, g0, g1, g2⟩ := R8.out.cf
        have d0 := R8.out.d.cell 0
        have d1 := R8.out.d.cell 1
        have d2 := R8.out.d.cell 2
        have d3 := R8.out.d.cell 3
        have d4 := R8.out.d.cell 4
        have d5 := R8.out.d.cell 5
        have d6 := R8.out.d.cell 6
        simp only [date7, D7.cs, List.getElem?_toArray, List.getElem?_cons_zero, List.getElem?_cons_succ] at d0 d1 d2 d3 d4 d5 d6
        have df0 := R8.out.d.free 0
        have df1 := R8.out.d.free 1
        have df2 := R8.out.d.free 2
        have df3 := R8.out.d.free 3
        have df4 := R8.out.d.free 4
        have df5 := R8.out.d.free 5
        have df6 := R8.out.d.free 6
        have RG8 : RJ s n c (ty6 s) (tyD s) w ((((((((((w8.setCell ⟨c, 0, none⟩ (.string s)).setCell ⟨c, 1, none⟩ (.int .i64 ((ty6 s).pos : Int))).setCell ⟨c, 2, none⟩ (.bool (!(ty6 s).bad))).setCell ⟨n + 1, 0, none⟩ (.int .i64 (tyD s).y)).setCell ⟨n + 1, 1, none⟩ (.int .i64 (tyD s).m)).setCell ⟨n + 1, 2, none⟩ (.int .i64 (tyD s).d)).setCell ⟨n + 1, 3, none⟩ (.int .i64 (tyD s).h)).setCell ⟨n + 1, 4, none⟩ (.int .i64 (tyD s).i)).setCell ⟨n + 1, 5, none⟩ (.int .i64 (tyD s).s)).setCell ⟨n + 1, 6, none⟩ (.int .i64 (tyD s).c)) := (R8.out.put (q' := ty6 s)).putd (tyD s)
        go_upto_region 11 with (fail)
        obtain ⟨W8, hW8⟩ : ∃ W, (((((((((w8.setCell ⟨c, 0, none⟩ (.string s)).setCell ⟨c, 1, none⟩ (.int .i64 ((ty6 s).pos : Int))).setCell ⟨c, 2, none⟩ (.bool (!(ty6 s).bad))).setCell ⟨n + 1, 0, none⟩ (.int .i64 (tyD s).y)).setCell ⟨n + 1, 1, none⟩ (.int .i64 (tyD s).m)).setCell ⟨n + 1, 2, none⟩ (.int .i64 (tyD s).d)).setCell ⟨n + 1, 3, none⟩ (.int .i64 (tyD s).h)).setCell ⟨n + 1, 4, none⟩ (.int .i64 (tyD s).i)).setCell ⟨n + 1, 5, none⟩ (.int .i64 (tyD s).s)).setCell ⟨n + 1, 6, none⟩ (.int .i64 (tyD s).c) = W := ⟨_, rfl⟩
        rw [hW8] at RG8 ⊢
        have R9 := Lib.hid RG8
        clear RG8 hW8 R8 R7 c0 c1 c2 g0 g1 g2 d0 d1 d2 d3 d4 d5 d6 df0 df1 df2 df3 df4 df5 df6
        obtain ⟨c0, c1, c2, g0, g1, g2⟩ := R9.out.cf
        have d0 := R9.out.d.cell 0
        have d1 := R9.out.d.cell 1
        have d2 := R9.out.d.cell 2
        have d3 := R9.out.d.cell 3
        have d4 := R9.out.d.cell 4
        have d5 := R9.out.d.cell 5
        have d6 := R9.out.d.cell 6
        simp only [date7, D7.cs, List.getElem?_toArray, List.getElem?_cons_zero, List.getElem?_cons_succ] at d0 d1 d2 d3 d4 d5 d6
        have r0 := R9.out.r.cell 0
        have rf0 := R9.out.r.free 0
        have r1 := R9.out.r.cell 1
        have rf1 := R9.out.r.free 1
        have r2 := R9.out.r.cell 2
        have rf2 := R9.out.r.free 2
        have r3 := R9.out.r.cell 3
        have rf3 := R9.out.r.free 3
        have r4 := R9.out.r.cell 4
        have rf4 := R9.out.r.free 4
        have r5 := R9.out.r.cell 5
        have rf5 := R9.out.r.free 5
        have r6 := R9.out.r.cell 6
        have rf6 := R9.out.r.free 6
        simp only [z7, date7, List.getElem?_toArray, List.getElem?_cons_zero, List.getElem?_cons_succ] at r0 r1 r2 r3 r4 r5 r6
        have nn3 : n ≠ n + 1 := by omega
        have nn4 : n + 1 ≠ n := by omega
        have nn5 : n ≠ c := by have := HC1.out; omega
        have nn6 : c ≠ n := by have := HC1.out; omega
        go_region
        all_goals
          go_wp2
          exact bodyPost_ret (v := .tuple #[.agg #[.int .i64 (tyD s).y, .int .i64 (tyD s).m, .int .i64 (tyD s).d, .int .i64 (tyD s).h, .int .i64 (tyD s).i, .int .i64 (tyD s).s, .int .i64 (tyD s).c], .int .i64 ((ty6 s).pos : Int), .bool (!(ty6 s).bad)]) (by simp [results, Tryd.results20, go_sem, r0, r1, r2, r3, r4, r5, r6, d0, d1, d2, d3, d4, d5, d6]) rfl ⟨rfl, Below.mono (((((((R9.out.b.setCell (p := ⟨n, 0, none⟩) (Nat.le_refl _) _).setCell (p := ⟨n, 1, none⟩) (Nat.le_refl _) _).setCell (p := ⟨n, 2, none⟩) (Nat.le_refl _) _).setCell (p := ⟨n, 3, none⟩) (Nat.le_refl _) _).setCell (p := ⟨n, 4, none⟩) (Nat.le_refl _) _).setCell (p := ⟨n, 5, none⟩) (Nat.le_refl _) _).setCell (p := ⟨n, 6, none⟩) (Nat.le_refl _) _).drew (Nat.le_of_eq HNN.out)⟩
      · have e4 : sy3 s = sy2 s := by unfold sy3 takeC; rw [if_neg hc]
        rw [byN_in s _ hz] at hc
        have q4 : ((s[(sy2 s).pos].toNat : Int) == 32) = false := by rw [beq_eq_false_iff_ne]; omega
        clear hc
        go_upto_region 8 with (fail)
        have R6 := R5
        rw [← e4, ← e3] at R6
        clear R5 e3 e4 hb2 c0 c1 c2 g0 g1 g2
        obtain ⟨c0, c1, c2, g0, g1, g2⟩ := R6.out.cf
        go_wp2_with fail
        refine (HN.out.2.2.1 _).mono ?_
        rintro e w4 ⟨rfl, hb4⟩
        clear c0 c1 c2 g0 g1 g2
        have RT4 := Lib.hid (R6.out.below hb4)
        clear hb4
        obtain ⟨c0, c1, c2, g0, g1, g2⟩ := RT4.out.cf
        have d2 := RT4.out.d.cell 2
        have f2 := RT4.out.d.free 2
        have RS4 := Lib.hid ((RT4.out.put (q' := ty4 s)).s2 (numC s (ty3 s).pos 2 : Nat))
        go_wp2_with fail
        refine (HN.out.2.2.2.1 _).mono ?_
        rintro e w5 ⟨rfl, hb5⟩
        clear c0 c1 c2 g0 g1 g2 d2 f2
        have RT5 := Lib.hid (RS4.out.below hb5)
        clear hb5
        obtain ⟨c0, c1, c2, g0, g1, g2⟩ := RT5.out.cf
        have RG5 : RJ s n c (ty5 s) ⟨0, (M : Int), (numC s (ty3 s).pos 2 : Nat), 0, 0, 0, 0⟩ w (((w5.setCell ⟨c, 0, none⟩ (.string s)).setCell ⟨c, 1, none⟩ (.int .i64 ((ty5 s).pos : Int))).setCell ⟨c, 2, none⟩ (.bool (!(ty5 s).bad))) := RT5.out.put (q' := ty5 s)
        go_upto_region 10 with (fail)
        obtain ⟨W5, hW5⟩ : ∃ W, ((w5.setCell ⟨c, 0, none⟩ (.string s)).setCell ⟨c, 1, none⟩ (.int .i64 ((ty5 s).pos : Int))).setCell ⟨c, 2, none⟩ (.bool (!(ty5 s).bad)) = W := ⟨_, rfl⟩
        rw [hW5] at RG5 ⊢
        have R7 := Lib.hid RG5
        clear hW5 RG5 RT5 RS4 RT4 R6 c0 c1 c2 g0 g1 g2
        obtain ⟨c0, c1, c2, g0, g1, g2⟩ := R7.out.cf
        have d0 := R7.out.d.cell 0
        have d1 := R7.out.d.cell 1
        have d2 := R7.out.d.cell 2
        have d3 := R7.out.d.cell 3
        have d4 := R7.out.d.cell 4
        have d5 := R7.out.d.cell 5
        have d6 := R7.out.d.cell 6
        simp only [date7, D7.cs, List.getElem?_toArray, List.getElem?_cons_zero, List.getElem?_cons_succ] at d0 d1 d2 d3 d4 d5 d6
        go_wp2_with fail
        refine (HN.out.2.2.2.2 _).mono ?_
        rintro e w8 ⟨rfl, hb8⟩
        clear c0 c1 c2 g0 g1 g2 d0 d1 d2 d3 d4 d5 d6
        have R8 := Lib.hid (R7.out.below hb8)
        clear hb8
        obtain ⟨c0, c1, c2, g0, g1, g2⟩ := R8.out.cf
        have d0 := R8.out.d.cell 0
        have d1 := R8.out.d.cell 1
        have d2 := R8.out.d.cell 2
        have d3 := R8.out.d.cell 3
        have d4 := R8.out.d.cell 4
        have d5 := R8.out.d.cell 5
        have d6 := R8.out.d.cell 6
        simp only [date7, D7.cs, List.getElem?_toArray, List.getElem?_cons_zero, List.getElem?_cons_succ] at d0 d1 d2 d3 d4 d5 d6
        have df0 := R8.out.d.free 0
        have df1 := R8.out.d.free 1
        have df2 := R8.out.d.free 2
        have df3 := R8.out.d.free 3
        have df4 := R8.out.d.free 4
        have df5 := R8.out.d.free 5
        have df6 := R8.out.d.free 6
        have RG8 : RJ s n c (ty6 s) (tyD s) w ((((((((((w8.setCell ⟨c, 0, none⟩ (.string s)).setCell ⟨c, 1, none⟩ (.int .i64 ((ty6 s).pos : Int))).setCell ⟨c, 2, none⟩ (.bool (!(ty6 s).bad))).setCell ⟨n + 1, 0, none⟩ (.int .i64 (tyD s).y)).setCell ⟨n + 1, 1, none⟩ (.int .i64 (tyD s).m)).setCell ⟨n + 1, 2, none⟩ (.int .i64 (tyD s).d)).setCell ⟨n + 1, 3, none⟩ (.int .i64 (tyD s).h)).setCell ⟨n + 1, 4, none⟩ (.int .i64 (tyD s).i)).setCell ⟨n + 1, 5, none⟩ (.int .i64 (tyD s).s)).setCell ⟨n + 1, 6, none⟩ (.int .i64 (tyD s).c)) := (R8.out.put (q' := ty6 s)).putd (tyD s)
        go_upto_region 11 with (fail)
        obtain ⟨W8, hW8⟩ : ∃ W, (((((((((w8.setCell ⟨c, 0, none⟩ (.string s)).setCell ⟨c, 1, none⟩ (.int .i64 ((ty6 s).pos : Int))).setCell ⟨c, 2, none⟩ (.bool (!(ty6 s).bad))).setCell ⟨n + 1, 0, none⟩ (.int .i64 (tyD s).y)).setCell ⟨n + 1, 1, none⟩ (.int .i64 (tyD s).m)).setCell ⟨n + 1, 2, none⟩ (.int .i64 (tyD s).d)).setCell ⟨n + 1, 3, none⟩ (.int .i64 (tyD s).h)).setCell ⟨n + 1, 4, none⟩ (.int .i64 (tyD s).i)).setCell ⟨n + 1, 5, none⟩ (.int .i64 (tyD s).s)).setCell ⟨n + 1, 6, none⟩ (.int .i64 (tyD s).c) = W := ⟨_, rfl⟩
        rw [hW8] at RG8 ⊢
        have R9 := Lib.hid RG8
        clear RG8 hW8 R8 R7 c0 c1 c2 g0 g1 g2 d0 d1 d2 d3 d4 d5 d6 df0 df1 df2 df3 df4 df5 df6
        obtain ⟨c0, c1, c2, g0, g1, g2⟩ := R9.out.cf
        have d0 := R9.out.d.cell 0
        have d1 := R9.out.d.cell 1
        have d2 := R9.out.d.cell 2
        have d3 := R9.out.d.cell 3
        have d4 := R9.out.d.cell 4
        have d5 := R9.out.d.cell 5
        have d6 := R9.out.d.cell 6
        simp only [date7, D7.cs, List.getElem?_toArray, List.getElem?_cons_zero, List.getElem?_cons_succ] at d0 d1 d2 d3 d4 d5 d6
        have r0 := R9.out.r.cell 0
        have rf0 := R9.out.r.free 0
        have r1 := R9.out.r.cell 1
        have rf1 := R9.out.r.free 1
        have r2 := R9.out.r.cell 2
        have rf2 := R9.out.r.free 2
        have r3 := R9.out.r.cell 3
        have rf3 := R9.out.r.free 3
        have r4 := R9.out.r.cell 4
        have rf4 := R9.out.r.free 4
        have r5 := R9.out.r.cell 5
        have rf5 := R9.out.r.free 5
        have r6 := R9.out.r.cell 6
        have rf6 := R9.out.r.free 6
        simp only [z7, date7, List.getElem?_toArray, List.getElem?_cons_zero, List.getElem?_cons_succ] at r0 r1 r2 r3 r4 r5 r6
        have nn3 : n ≠ n + 1 := by omega
        have nn4 : n + 1 ≠ n := by omega
        have nn5 : n ≠ c := by have := HC1.out; omega
        have nn6 : c ≠ n := by have := HC1.out; omega
        go_region
        all_goals
          go_wp2
          exact bodyPost_ret (v := .tuple #[.agg #[.int .i64 (tyD s).y, .int .i64 (tyD s).m, .int .i64 (tyD s).d, .int .i64 (tyD s).h, .int .i64 (tyD s).i, .int .i64 (tyD s).s, .int .i64 (tyD s).c], .int .i64 ((ty6 s).pos : Int), .bool (!(ty6 s).bad)]) (by simp [results, Tryd.results20, go_sem, r0, r1, r2, r3, r4, r5, r6, d0, d1, d2, d3, d4, d5, d6]) rfl ⟨rfl, Below.mono (((((((R9.out.b.setCell (p := ⟨n, 0, none⟩) (Nat.le_refl _) _).setCell (p := ⟨n, 1, none⟩) (Nat.le_refl _) _).setCell (p := ⟨n, 2, none⟩) (Nat.le_refl _) _).setCell (p := ⟨n, 3, none⟩) (Nat.le_refl _) _).setCell (p := ⟨n, 4, none⟩) (Nat.le_refl _) _).setCell (p := ⟨n, 5, none⟩) (Nat.le_refl _) _).setCell (p := ⟨n, 6, none⟩) (Nat.le_refl _) _).drew (Nat.le_of_eq HNN.out)⟩
    · have dz : decide (((sy2 s).pos : Int) < (s.size : Int)) = false := by rw [decide_eq_false_iff_not]; omega
      have e4 : sy3 s = sy2 s := by unfold sy3 takeC; rw [if_neg (by rw [byN_out s _ hz]; omega)]
      go_upto_region 8 with (fail)
      have R6 := R5
      rw [← e4, ← e3] at R6
      clear R5 e3 e4 hb2 c0 c1 c2 g0 g1 g2
      obtain ⟨c0, c1, c2, g0, g1, g2⟩ := R6.out.cf
      go_wp2_with fail
      refine (HN.out.2.2.1 _).mono ?_
      rintro e w4 ⟨rfl, hb4⟩
      clear c0 c1 c2 g0 g1 g2
      have RT4 := Lib.hid (R6.out.below hb4)
      clear hb4
      obtain ⟨c0, c1, c2, g0, g1, g2⟩ := RT4.out.cf
      have d2 := RT4.out.d.cell 2
      have f2 := RT4.out.d.free 2
      have RS4 := Lib.hid ((RT4.out.put (q' := ty4 s)).s2 (numC s (ty3 s).pos 2 : Nat))
      go_wp2_with fail
      refine (HN.out.2.2.2.1 _).mono ?_
      rintro e w5 ⟨rfl, hb5⟩
      clear c0 c1 c2 g0 g1 g2 d2 f2
      have RT5 := Lib.hid (RS4.out.below hb5)
      clear hb5
      obtain ⟨c0, c1, c2, g0, g1, g2⟩ := RT5.out.cf
      have RG5 : RJ s n c (ty5 s) ⟨0, (M : Int), (numC s (ty3 s).pos 2 : Nat), 0, 0, 0, 0⟩ w (((w5.setCell ⟨c, 0, none⟩ (.string s)).setCell ⟨c, 1, none⟩ (.int .i64 ((ty5 s).pos : Int))).setCell ⟨c, 2, none⟩ (.bool (!(ty5 s).bad))) := RT5.out.put (q' := ty5 s)
      go_upto_region 10 with (fail)
      obtain ⟨W5, hW5⟩ : ∃ W, ((w5.setCell ⟨c, 0, none⟩ (.string s)).setCell ⟨c, 1, none⟩ (.int .i64 ((ty5 s).pos : Int))).setCell ⟨c, 2, none⟩ (.bool (!(ty5 s).bad)) = W := ⟨_, rfl⟩
      rw [hW5] at RG5 ⊢
      have R7 := Lib.hid RG5
      clear hW5 RG5 RT5 RS4 RT4 R6 c0 c1 c2 g0 g1 g2
      obtain ⟨c0, c1, c2, g0, g1, g2⟩ := R7.out.cf
      have d0 := R7.out.d.cell 0
      have d1 := R7.out.d.cell 1
      have d2 := R7.out.d.cell 2
      have d3 := R7.out.d.cell 3
      have d4 := R7.out.d.cell 4
      have d5 := R7.out.d.cell 5
      have d6 := R7.out.d.cell 6
      simp only [date7, D7.cs, List.getElem?_toArray, List.getElem?_cons_zero, List.getElem?_cons_succ] at d0 d1 d2 d3 d4 d5 d6
      go_wp2_with fail
      refine (HN.out.2.2.2.2 _).mono ?_
      rintro e w8 ⟨rfl, hb8⟩
      clear c0 c1 c2 g0 g1 g2 d0 d1 d2 d3 d4 d5 d6
      have R8 := Lib.hid (R7.out.below hb8)
      clear hb8
      obtain ⟨c0, c1, c2, g0, g1, g2⟩ := R8.out.cf
      have d0 := R8.out.d.cell 0
      have d1 := R8.out.d.cell 1
      have d2 := R8.out.d.cell 2
      have d3 := R8.out.d.cell 3
      have d4 := R8.out.d.cell 4
      have d5 := R8.out.d.cell 5
      have d6 := R8.out.d.cell 6
      simp only [date7, D7.cs, List.getElem?_toArray, List.getElem?_cons_zero, List.getElem?_cons_succ] at d0 d1 d2 d3 d4 d5 d6
      have df0 := R8.out.d.free 0
      have df1 := R8.out.d.free 1
      have df2 := R8.out.d.free 2
      have df3 := R8.out.d.free 3
      have df4 := R8.out.d.free 4
      have df5 := R8.out.d.free 5
      have df6 := R8.out.d.free 6
      have RG8 : RJ s n c (ty6 s) (tyD s) w ((((((((((w8.setCell ⟨c, 0, none⟩ (.string s)).setCell ⟨c, 1, none⟩ (.int .i64 ((ty6 s).pos : Int))).setCell ⟨c, 2, none⟩ (.bool (!(ty6 s).bad))).setCell ⟨n + 1, 0, none⟩ (.int .i64 (tyD s).y)).setCell ⟨n + 1, 1, none⟩ (.int .i64 (tyD s).m)).setCell ⟨n + 1, 2, none⟩ (.int .i64 (tyD s).d)).setCell ⟨n + 1, 3, none⟩ (.int .i64 (tyD s).h)).setCell ⟨n + 1, 4, none⟩ (.int .i64 (tyD s).i)).setCell ⟨n + 1, 5, none⟩ (.int .i64 (tyD s).s)).setCell ⟨n + 1, 6, none⟩ (.int .i64 (tyD s).c)) := (R8.out.put (q' := ty6 s)).putd (tyD s)
      go_upto_region 11 with (fail)
      obtain ⟨W8, hW8⟩ : ∃ W, (((((((((w8.setCell ⟨c, 0, none⟩ (.string s)).setCell ⟨c, 1, none⟩ (.int .i64 ((ty6 s).pos : Int))).setCell ⟨c, 2, none⟩ (.bool (!(ty6 s).bad))).setCell ⟨n + 1, 0, none⟩ (.int .i64 (tyD s).y)).setCell ⟨n + 1, 1, none⟩ (.int .i64 (tyD s).m)).setCell ⟨n + 1, 2, none⟩ (.int .i64 (tyD s).d)).setCell ⟨n + 1, 3, none⟩ (.int .i64 (tyD s).h)).setCell ⟨n + 1, 4, none⟩ (.int .i64 (tyD s).i)).setCell ⟨n + 1, 5, none⟩ (.int .i64 (tyD s).s)).setCell ⟨n + 1, 6, none⟩ (.int .i64 (tyD s).c) = W := ⟨_, rfl⟩
      rw [hW8] at RG8 ⊢
      have R9 := Lib.hid RG8
      clear RG8 hW8 R8 R7 c0 c1 c2 g0 g1 g2 d0 d1 d2 d3 d4 d5 d6 df0 df1 df2 df3 df4 df5 df6
      obtain ⟨c0, c1, c2, g0, g1, g2⟩ := R9.out.cf
      have d0 := R9.out.d.cell 0
      have d1 := R9.out.d.cell 1
      have d2 := R9.out.d.cell 2
      have d3 := R9.out.d.cell 3
      have d4 := R9.out.d.cell 4
      have d5 := R9.out.d.cell 5
      have d6 := R9.out.d.cell 6
      simp only [date7, D7.cs, List.getElem?_toArray, List.getElem?_cons_zero, List.getElem?_cons_succ] at d0 d1 d2 d3 d4 d5 d6
      have r0 := R9.out.r.cell 0
      have rf0 := R9.out.r.free 0
      have r1 := R9.out.r.cell 1
      have rf1 := R9.out.r.free 1
      have r2 := R9.out.r.cell 2
      have rf2 := R9.out.r.free 2
      have r3 := R9.out.r.cell 3
      have rf3 := R9.out.r.free 3
      have r4 := R9.out.r.cell 4
      have rf4 := R9.out.r.free 4
      have r5 := R9.out.r.cell 5
      have rf5 := R9.out.r.free 5
      have r6 := R9.out.r.cell 6
      have rf6 := R9.out.r.free 6
      simp only [z7, date7, List.getElem?_toArray, List.getElem?_cons_zero, List.getElem?_cons_succ] at r0 r1 r2 r3 r4 r5 r6
      have nn3 : n ≠ n + 1 := by omega
      have nn4 : n + 1 ≠ n := by omega
      have nn5 : n ≠ c := by have := HC1.out; omega
      have nn6 : c ≠ n := by have := HC1.out; omega
      go_region
      all_goals
        go_wp2
        exact bodyPost_ret (v := .tuple #[.agg #[.int .i64 (tyD s).y, .int .i64 (tyD s).m, .int .i64 (tyD s).d, .int .i64 (tyD s).h, .int .i64 (tyD s).i, .int .i64 (tyD s).s, .int .i64 (tyD s).c], .int .i64 ((ty6 s).pos : Int), .bool (!(ty6 s).bad)]) (by simp [results, Tryd.results20, go_sem, r0, r1, r2, r3, r4, r5, r6, d0, d1, d2, d3, d4, d5, d6]) rfl ⟨rfl, Below.mono (((((((R9.out.b.setCell (p := ⟨n, 0, none⟩) (Nat.le_refl _) _).setCell (p := ⟨n, 1, none⟩) (Nat.le_refl _) _).setCell (p := ⟨n, 2, none⟩) (Nat.le_refl _) _).setCell (p := ⟨n, 3, none⟩) (Nat.le_refl _) _).setCell (p := ⟨n, 4, none⟩) (Nat.le_refl _) _).setCell (p := ⟨n, 5, none⟩) (Nat.le_refl _) _).setCell (p := ⟨n, 6, none⟩) (Nat.le_refl _) _).drew (Nat.le_of_eq HNN.out)⟩
set_option maxRecDepth 100000 in
set_option maxHeartbeats 4000000 in
theorem rsyslog_short (s : ByteArray) (h4 : s.size < 4) (w : World) :
    Calls Tryd.prog 20 #[.string s] w fun e w' => e = .returned (.tuple #[.agg #[.int .i64 0, .int .i64 0, .int .i64 0, .int .i64 0, .int .i64 0, .int .i64 0, .int .i64 0], .int .i64 0, .bool false]) ∧ Below w.heap.size w w' := by
  have d4 : decide ((s.size : Int) < 4) = true := by rw [decide_eq_true_iff]; omega
  have hb := bl_trans (below_alloc w (.cells z7 38)) (below_alloc _ (.cells z7 38))
  unfold z7 date7 at hb
  have HB := Lib.hid hb
  clear hb
  go_enter Tryd.func20, Tryd.ntmps20
  go_wp2
  exact bodyPost_ret (v := .tuple #[.agg #[.int .i64 0, .int .i64 0, .int .i64 0, .int .i64 0, .int .i64 0, .int .i64 0, .int .i64 0], .int .i64 0, .bool false]) (by simp [results, Tryd.results20, go_sem]) rfl ⟨rfl, HB.out⟩
theorem rsyslog_any (s : ByteArray) (hs : s.size ≤ 20000) (w : World) :
    Calls Tryd.prog 20 #[.string s] w fun e w' => (∃ (x : D7) (k : Nat) (b : Bool), e = .returned (.tuple #[x.ag, .int .i64 (k : Int), .bool b]) ∧ b = !(sy6 s).bad ∧ (b = true → x = syD s 0 ∧ k = (sy6 s).pos)) ∧ Below w.heap.size w w' := by
  by_cases h4 : s.size < 4
  · refine (rsyslog_short s h4 w).mono fun e w' ⟨he, hb⟩ => ⟨⟨⟨0, 0, 0, 0, 0, 0, 0⟩, 0, false, he, by rw [sy_short h4]; rfl, fun h => by cases h⟩, hb⟩
  · refine (rsyslog_long s hs (by omega) w).mono fun e w' ⟨he, hb⟩ => ⟨⟨tyD s, (ty6 s).pos, _, he, by rw [ty_badEq], fun h => ?_⟩, hb⟩
    rw [ty_badEq] at h
    obtain ⟨e1, e2⟩ := ty_good (s := s) (by simpa using h)
    exact ⟨e2, by rw [e1]⟩
end Go.Proofs.YtpbfgafkoodeoaaDoor
