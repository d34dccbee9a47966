/- The contract of the reference's clock. -/
import Derived.Test.YtpbfgafkoodeoaaDoorRvK
import Derived.Test.YtpbfgafkoodeoaaDoorRvH
import Derived.Deep.RegionHeld3
import Derived.Deep.DeepCutAuto
import Derived.RegionTactic
import Derived.ChangeAlike
namespace Go.Proofs.YtpbfgafkoodeoaaDoor
open Go.RowKit

def rput3 (w : World) (n : Nat) (s : ByteArray) (q : CS) : World := ((w.setCell ⟨n, 0, none⟩ (.string s)).setCell ⟨n, 1, none⟩ (.int .i64 (q.pos : Int))).setCell ⟨n, 2, none⟩ (.bool (!q.bad))
/-- What the reference's clock keeps while it reads. -/
structure RSt (s : ByteArray) (n : Nat) (q : CS) (x : D7) (w0 w : World) : Prop where
  c : RowAt n 67 (rcA s q.pos (!q.bad)) w
  d : RowAt (n + 1) 38 x.cs w
  r : RowAt (n + 1 + 1) 67 (rcA ⟨#[]⟩ 0 false) w
  t : RowAt (n + 1 + 1 + 1) 38 z7 w
  b : Below n w0 w
  hn : n = w0.heap.size
variable {s : ByteArray} {n : Nat} {q q' : CS} {x : D7} {w0 w w' : World}
theorem RSt.below (h : RSt s n q x w0 w) (k : Below w.heap.size w w') : RSt s n q x w0 w' := ⟨h.c.below k, h.d.below k, h.r.below k, h.t.below k, h.b.trans (k.mono (by have := h.c.lt; omega)), h.hn⟩
theorem RSt.put (h : RSt s n q x w0 w) : RSt s n q' x w0 (rput3 w n s q') := by
  refine ⟨?_, ((h.d.other 0 _ (by omega)).other 1 _ (by omega)).other 2 _ (by omega), ((h.r.other 0 _ (by omega)).other 1 _ (by omega)).other 2 _ (by omega), ((h.t.other 0 _ (by omega)).other 1 _ (by omega)).other 2 _ (by omega), ?_, h.hn⟩
  · exact ((h.c.set 0 (.string s)).set 1 (.int .i64 (q'.pos : Int))).set 2 (.bool (!q'.bad))
  · unfold rput3
    exact ((h.b.setCell (p := ⟨n, 0, none⟩) (Nat.le_refl _) _).setCell (p := ⟨n, 1, none⟩) (Nat.le_refl _) _).setCell (p := ⟨n, 2, none⟩) (Nat.le_refl _) _
theorem RSt.setd {x' : D7} (h : RSt s n q x w0 w) (i : Nat) (v : Value) (e : x.cs.setIfInBounds i v = x'.cs) : RSt s n q x' w0 (w.setCell ⟨n + 1, i, none⟩ v) :=
  ⟨h.c.other i v (by omega), e ▸ h.d.set i v, h.r.other i v (by omega), h.t.other i v (by omega), h.b.setCell (p := ⟨n + 1, i, none⟩) (by show n ≤ n + 1; omega) v, h.hn⟩
theorem RSt.s3 (h : RSt s n q x w0 w) (v : Int) : RSt s n q ⟨x.y, x.m, x.d, v, x.i, x.s, x.c⟩ w0 (w.setCell ⟨n + 1, 3, none⟩ (.int .i64 v)) := h.setd 3 _ rfl
theorem RSt.s4 (h : RSt s n q x w0 w) (v : Int) : RSt s n q ⟨x.y, x.m, x.d, x.h, v, x.s, x.c⟩ w0 (w.setCell ⟨n + 1, 4, none⟩ (.int .i64 v)) := h.setd 4 _ rfl
theorem RSt.s5 (h : RSt s n q x w0 w) (v : Int) : RSt s n q ⟨x.y, x.m, x.d, x.h, x.i, v, x.c⟩ w0 (w.setCell ⟨n + 1, 5, none⟩ (.int .i64 v)) := h.setd 5 _ rfl
theorem RSt.s6 (h : RSt s n q x w0 w) (v : Int) : RSt s n q ⟨x.y, x.m, x.d, x.h, x.i, x.s, v⟩ w0 (w.setCell ⟨n + 1, 6, none⟩ (.int .i64 v)) := h.setd 6 _ rfl
theorem RSt.cf (h : RSt s n q x w0 w) : w.cell? ⟨n, 0, none⟩ = some (.string s) ∧ w.cell? ⟨n, 1, none⟩ = some (.int .i64 (q.pos : Int)) ∧ w.cell? ⟨n, 2, none⟩ = some (.bool (!q.bad)) ∧ w.frozen? ⟨n, 0, none⟩ = false ∧ w.frozen? ⟨n, 1, none⟩ = false ∧ w.frozen? ⟨n, 2, none⟩ = false :=
  ⟨h.c.cell 0, h.c.cell 1, h.c.cell 2, h.c.free 0, h.c.free 1, h.c.free 2⟩
theorem RSt.start (s : ByteArray) (q : CS) (x : D7) (w : World) :
    RSt s w.heap.size q x w ((((w.alloc (.cells (rcA s q.pos (!q.bad)) 67)).alloc (.cells x.cs 38)).alloc (.cells (rcA ⟨#[]⟩ 0 false) 67)).alloc (.cells z7 38)) := by
  have e1 : ∀ (W : World) (o : Obj), (W.alloc o).heap.size = W.heap.size + 1 := fun W o => by simp
  have r1 := RowAt.new 67 (rcA s q.pos (!q.bad)) w
  have r2 := RowAt.new 38 x.cs (w.alloc (.cells (rcA s q.pos (!q.bad)) 67))
  have r3 := RowAt.new 67 (rcA ⟨#[]⟩ 0 false) ((w.alloc (.cells (rcA s q.pos (!q.bad)) 67)).alloc (.cells x.cs 38))
  have r4 := RowAt.new 38 z7 (((w.alloc (.cells (rcA s q.pos (!q.bad)) 67)).alloc (.cells x.cs 38)).alloc (.cells (rcA ⟨#[]⟩ 0 false) 67))
  rw [e1] at r2
  rw [e1, e1] at r3
  rw [e1, e1, e1] at r4
  exact ⟨((r1.below (below_alloc _ _)).below (below_alloc _ _)).below (below_alloc _ _), (r2.below (below_alloc _ _)).below (below_alloc _ _), r3.below (below_alloc _ _), r4, bl_trans (bl_trans (bl_trans (below_alloc _ _) (below_alloc _ _)) (below_alloc _ _)) (below_alloc _ _), rfl⟩

/-- The states of the reading. -/
def kq1 (s : ByteArray) (p : CS) : CS := digitsC s p 2 2
def kq2 (s : ByteArray) (p : CS) : CS := expectC s (kq1 s p) 58
def kq3 (s : ByteArray) (p : CS) : CS := digitsC s (kq2 s p) 2 2
def kq4 (s : ByteArray) (p : CS) : CS := expectC s (kq3 s p) 58
set_option maxRecDepth 100000 in
set_option linter.unusedSimpArgs false in
set_option maxHeartbeats 16000000 in
theorem rclk_bad (s : ByteArray) (p : CS) (y m d : Int) (hk : p.pos ≤ s.size) (hs : s.size ≤ 20000) (hb : (clkC s p).bad = true) (w : World) :
    Calls Tryd.prog 24 #[rcV s p, .agg #[.int .i64 y, .int .i64 m, .int .i64 d, .int .i64 0, .int .i64 0, .int .i64 0, .int .i64 0]] w fun e w' => e = .returned (.tuple #[rcV s (clkC s p), .agg #[.int .i64 y, .int .i64 m, .int .i64 d, .int .i64 (clkH s p : Nat), .int .i64 (clkI s p : Nat), .int .i64 (clkS s p : Nat), .int .i64 0]]) ∧ Below w.heap.size w w' := by
  have i1 : (kq1 s p).pos ≤ s.size := digitsC_in hk
  have i2 : (kq2 s p).pos ≤ s.size := expectC_in i1 (by omega)
  have i3 : (kq3 s p).pos ≤ s.size := digitsC_in i2
  have i4 : (kq4 s p).pos ≤ s.size := expectC_in i3 (by omega)
  have i5 : (clkC s p).pos ≤ s.size := digitsC_in i4
  have N1 := fun W => rcV_number s p 2 2 hk hs (by omega) (by omega) W
  have N2 := fun W => rcV_byte s (kq1 s p) 58 i1 hs (by omega) W
  have N3 := fun W => rcV_number s (kq2 s p) 2 2 i2 hs (by omega) (by omega) W
  have N4 := fun W => rcV_byte s (kq3 s p) 58 i3 hs (by omega) W
  have N5 := fun W => rcV_number s (kq4 s p) 2 2 i4 hs (by omega) (by omega) W
  have HN := Lib.hid (And.intro N1 (And.intro N2 (And.intro N3 (And.intro N4 N5))))
  clear N1 N2 N3 N4 N5 i1 i2 i3 i4
  have hb2 : (!(clkC s p).bad) = false := by rw [hb]; rfl
  clear i5
  unfold rcV at *
  have RS0 := Lib.hid (show RSt s w.heap.size p ⟨y, m, d, 0, 0, 0, 0⟩ w ((((w.alloc (.cells #[.string s, .int .i64 (p.pos : Int), .bool (!p.bad)] 67)).alloc (.cells #[.int .i64 y, .int .i64 m, .int .i64 d, .int .i64 0, .int .i64 0, .int .i64 0, .int .i64 0] 38)).alloc (.cells #[.string ⟨#[]⟩, .int .i64 0, .bool false] 67)).alloc (.cells #[.int .i64 0, .int .i64 0, .int .i64 0, .int .i64 0, .int .i64 0, .int .i64 0, .int .i64 0] 38)) from RSt.start s p ⟨y, m, d, 0, 0, 0, 0⟩ w)
  obtain ⟨n, hn⟩ : ∃ n, w.heap.size = n := ⟨_, rfl⟩
  go_enter Tryd.func24, Tryd.ntmps24
  go_wp2_with fail
  obtain ⟨X, hX⟩ : ∃ X, (((w.alloc (.cells #[.string s, .int .i64 (p.pos : Int), .bool (!p.bad)] 67)).alloc (.cells #[.int .i64 y, .int .i64 m, .int .i64 d, .int .i64 0, .int .i64 0, .int .i64 0, .int .i64 0] 38)).alloc (.cells #[.string ⟨#[]⟩, .int .i64 0, .bool false] 67)).alloc (.cells #[.int .i64 0, .int .i64 0, .int .i64 0, .int .i64 0, .int .i64 0, .int .i64 0, .int .i64 0] 38) = X := ⟨_, rfl⟩
  rw [hX, hn] at RS0
  rw [hX]
  have HNN := Lib.hid hn
  clear hX hn
  have nn1 : n ≠ n + 1 := by omega
  have nn2 : n + 1 ≠ n := by omega
  go_wp2_with fail
  refine (HN.out.1 _).mono ?_
  rintro e w1 ⟨rfl, hb1⟩
  skip
  have RT1 := Lib.hid (RS0.out.below hb1)
  obtain ⟨c0, c1, c2, g0, g1, g2⟩ := RT1.out.cf
  have d0 := RT1.out.d.cell 3
  have f0 := RT1.out.d.free 3
  have RS1 := Lib.hid ((RT1.out.put (q' := kq1 s p)).s3 (clkH s p))
  clear hb1
  go_wp2_with fail
  refine (HN.out.2.1 _).mono ?_
  rintro e w2 ⟨rfl, hb2⟩
  clear c0 c1 c2 g0 g1 g2 d0 f0
  have RT2 := Lib.hid (RS1.out.below hb2)
  obtain ⟨c0, c1, c2, g0, g1, g2⟩ := RT2.out.cf
  have RS2 := Lib.hid (RT2.out.put (q' := kq2 s p))
  clear hb2
  go_wp2_with fail
  refine (HN.out.2.2.1 _).mono ?_
  rintro e w3 ⟨rfl, hb3⟩
  clear c0 c1 c2 g0 g1 g2
  have RT3 := Lib.hid (RS2.out.below hb3)
  obtain ⟨c0, c1, c2, g0, g1, g2⟩ := RT3.out.cf
  have d0 := RT3.out.d.cell 4
  have f0 := RT3.out.d.free 4
  have RS3 := Lib.hid ((RT3.out.put (q' := kq3 s p)).s4 (clkI s p))
  clear hb3
  go_wp2_with fail
  refine (HN.out.2.2.2.1 _).mono ?_
  rintro e w4 ⟨rfl, hb4⟩
  clear c0 c1 c2 g0 g1 g2 d0 f0
  have RT4 := Lib.hid (RS3.out.below hb4)
  obtain ⟨c0, c1, c2, g0, g1, g2⟩ := RT4.out.cf
  have RS4 := Lib.hid (RT4.out.put (q' := kq4 s p))
  clear hb4
  go_wp2_with fail
  refine (HN.out.2.2.2.2 _).mono ?_
  rintro e w5 ⟨rfl, hb5⟩
  clear c0 c1 c2 g0 g1 g2
  have RT5 := Lib.hid (RS4.out.below hb5)
  obtain ⟨c0, c1, c2, g0, g1, g2⟩ := RT5.out.cf
  have d0 := RT5.out.d.cell 5
  have f0 := RT5.out.d.free 5
  have RS5 := Lib.hid ((RT5.out.put (q' := clkC s p)).s5 (clkS s p))
  clear hb5
  have RF := Lib.hid (show RSt s n (clkC s p) ⟨y, m, d, (clkH s p : Nat), (clkI s p : Nat), (clkS s p : Nat), 0⟩ w _ from RS5.out)
  have hcc : digitsC s (kq4 s p) 2 2 = clkC s p := rfl
  rw [hcc]
  clear hb
  go_wp2
  have RG : RSt s n (clkC s p) ⟨y, m, d, (clkH s p : Nat), (clkI s p : Nat), (clkS s p : Nat), 0⟩ w ((((w5.setCell ⟨n, 0, none⟩ (.string s)).setCell ⟨n, 1, none⟩ (.int .i64 ((clkC s p).pos : Int))).setCell ⟨n, 2, none⟩ (.bool false)).setCell ⟨n + 1, 5, none⟩ (.int .i64 (numC s (kq4 s p).pos 2 : Nat))) := by
    have h := RF.out
    unfold rput3 at h
    rw [hb2] at h
    exact h
  obtain ⟨W, hW⟩ : ∃ W, (((w5.setCell ⟨n, 0, none⟩ (.string s)).setCell ⟨n, 1, none⟩ (.int .i64 ((clkC s p).pos : Int))).setCell ⟨n, 2, none⟩ (.bool false)).setCell ⟨n + 1, 5, none⟩ (.int .i64 (numC s (kq4 s p).pos 2 : Nat)) = W := ⟨_, rfl⟩
  rw [hW] at RG ⊢
  have RW := Lib.hid RG
  clear c0 c1 c2 g0 g1 g2 d0 f0 RG hW RF RS5 RT5
  obtain ⟨c0, c1, c2, g0, g1, g2⟩ := RW.out.cf
  rw [hb2] at c2
  have r0 := RW.out.r.cell 0
  have rf0 := RW.out.r.free 0
  have r1 := RW.out.r.cell 1
  have rf1 := RW.out.r.free 1
  have r2 := RW.out.r.cell 2
  have rf2 := RW.out.r.free 2
  have t0 := RW.out.t.cell 0
  have tf0 := RW.out.t.free 0
  have dd0 := RW.out.d.cell 0
  have t1 := RW.out.t.cell 1
  have tf1 := RW.out.t.free 1
  have dd1 := RW.out.d.cell 1
  have t2 := RW.out.t.cell 2
  have tf2 := RW.out.t.free 2
  have dd2 := RW.out.d.cell 2
  have t3 := RW.out.t.cell 3
  have tf3 := RW.out.t.free 3
  have dd3 := RW.out.d.cell 3
  have t4 := RW.out.t.cell 4
  have tf4 := RW.out.t.free 4
  have dd4 := RW.out.d.cell 4
  have t5 := RW.out.t.cell 5
  have tf5 := RW.out.t.free 5
  have dd5 := RW.out.d.cell 5
  have t6 := RW.out.t.cell 6
  have tf6 := RW.out.t.free 6
  have dd6 := RW.out.d.cell 6
  simp only [rcA, z7, date7, D7.cs, List.getElem?_toArray, List.getElem?_cons_zero, List.getElem?_cons_succ] at r0 r1 r2 t0 t1 t2 t3 t4 t5 t6 dd0 dd1 dd2 dd3 dd4 dd5 dd6
  have nn3 : n ≠ n + 1 + 1 := by omega
  have nn4 : n + 1 + 1 ≠ n := by omega
  have nn5 : n + 1 ≠ n + 1 + 1 := by omega
  have nn6 : n + 1 + 1 ≠ n + 1 := by omega
  have nn7 : n + 1 + 1 + 1 ≠ n := by omega
  have nn8 : n + 1 + 1 + 1 ≠ n + 1 := by omega
  have nn9 : n + 1 + 1 + 1 ≠ n + 1 + 1 := by omega
  have nn10 : n ≠ n + 1 + 1 + 1 := by omega
  have nn11 : n + 1 ≠ n + 1 + 1 + 1 := by omega
  have nn12 : n + 1 + 1 ≠ n + 1 + 1 + 1 := by omega
  clear hcc HN
  go_region
  all_goals
    go_wp2
    refine bodyPost_ret (v := .tuple #[.agg #[.string s, .int .i64 ((clkC s p).pos : Int), .bool false], .agg #[.int .i64 y, .int .i64 m, .int .i64 d, .int .i64 (clkH s p : Nat), .int .i64 (clkI s p : Nat), .int .i64 (clkS s p : Nat), .int .i64 0]]) ?_ rfl ⟨by rw [hb2], Below.mono (((((((((((RW.out.b.setCell (p := ⟨n + 1 + 1, 0, none⟩) (by show n ≤ n + 1 + 1; omega) _).setCell (p := ⟨n + 1 + 1, 1, none⟩) (by show n ≤ n + 1 + 1; omega) _).setCell (p := ⟨n + 1 + 1, 2, none⟩) (by show n ≤ n + 1 + 1; omega) _).setCell (p := ⟨n + 1 + 1 + 1, 0, none⟩) (by show n ≤ n + 1 + 1 + 1; omega) _).setCell (p := ⟨n + 1 + 1 + 1, 1, none⟩) (by show n ≤ n + 1 + 1 + 1; omega) _).setCell (p := ⟨n + 1 + 1 + 1, 2, none⟩) (by show n ≤ n + 1 + 1 + 1; omega) _).setCell (p := ⟨n + 1 + 1 + 1, 3, none⟩) (by show n ≤ n + 1 + 1 + 1; omega) _).setCell (p := ⟨n + 1 + 1 + 1, 4, none⟩) (by show n ≤ n + 1 + 1 + 1; omega) _).setCell (p := ⟨n + 1 + 1 + 1, 5, none⟩) (by show n ≤ n + 1 + 1 + 1; omega) _).setCell (p := ⟨n + 1 + 1 + 1, 6, none⟩) (by show n ≤ n + 1 + 1 + 1; omega) _).drew) (Nat.le_of_eq HNN.out)⟩
    clear hk hs hb2 RS0 RW HNN c0 c1 c2 g0 g1 g2 nn1 nn2 nn3 nn4 nn5 nn6 nn7 nn8 nn10 nn11

    simp [results, Tryd.results24, go_sem, nn9, nn12, r0, r1, r2, t0, t1, t2, t3, t4, t5, t6]

set_option maxRecDepth 100000 in
set_option linter.unusedSimpArgs false in
set_option maxHeartbeats 16000000 in
theorem rclk_end (s : ByteArray) (p : CS) (y m d : Int) (hk : p.pos ≤ s.size) (hs : s.size ≤ 20000) (hb : (clkC s p).bad = false) (he : ¬ (clkC s p).pos + 1 < s.size) (w : World) :
    Calls Tryd.prog 24 #[rcV s p, .agg #[.int .i64 y, .int .i64 m, .int .i64 d, .int .i64 0, .int .i64 0, .int .i64 0, .int .i64 0]] w fun e w' => e = .returned (.tuple #[rcV s (clkC s p), .agg #[.int .i64 y, .int .i64 m, .int .i64 d, .int .i64 (clkH s p : Nat), .int .i64 (clkI s p : Nat), .int .i64 (clkS s p : Nat), .int .i64 0]]) ∧ Below w.heap.size w w' := by
  have i1 : (kq1 s p).pos ≤ s.size := digitsC_in hk
  have i2 : (kq2 s p).pos ≤ s.size := expectC_in i1 (by omega)
  have i3 : (kq3 s p).pos ≤ s.size := digitsC_in i2
  have i4 : (kq4 s p).pos ≤ s.size := expectC_in i3 (by omega)
  have i5 : (clkC s p).pos ≤ s.size := digitsC_in i4
  have N1 := fun W => rcV_number s p 2 2 hk hs (by omega) (by omega) W
  have N2 := fun W => rcV_byte s (kq1 s p) 58 i1 hs (by omega) W
  have N3 := fun W => rcV_number s (kq2 s p) 2 2 i2 hs (by omega) (by omega) W
  have N4 := fun W => rcV_byte s (kq3 s p) 58 i3 hs (by omega) W
  have N5 := fun W => rcV_number s (kq4 s p) 2 2 i4 hs (by omega) (by omega) W
  have HN := Lib.hid (And.intro N1 (And.intro N2 (And.intro N3 (And.intro N4 N5))))
  clear N1 N2 N3 N4 N5 i1 i2 i3 i4
  have hb2 : (!(clkC s p).bad) = true := by rw [hb]; rfl
  have hd1 : decide ((s.size : Int) ≤ ((clkC s p).pos : Int) + 1) = true := by rw [decide_eq_true_iff]; omega
  clear he
  unfold rcV at *
  have RS0 := Lib.hid (show RSt s w.heap.size p ⟨y, m, d, 0, 0, 0, 0⟩ w ((((w.alloc (.cells #[.string s, .int .i64 (p.pos : Int), .bool (!p.bad)] 67)).alloc (.cells #[.int .i64 y, .int .i64 m, .int .i64 d, .int .i64 0, .int .i64 0, .int .i64 0, .int .i64 0] 38)).alloc (.cells #[.string ⟨#[]⟩, .int .i64 0, .bool false] 67)).alloc (.cells #[.int .i64 0, .int .i64 0, .int .i64 0, .int .i64 0, .int .i64 0, .int .i64 0, .int .i64 0] 38)) from RSt.start s p ⟨y, m, d, 0, 0, 0, 0⟩ w)
  obtain ⟨n, hn⟩ : ∃ n, w.heap.size = n := ⟨_, rfl⟩
  go_enter Tryd.func24, Tryd.ntmps24
  go_wp2_with fail
  obtain ⟨X, hX⟩ : ∃ X, (((w.alloc (.cells #[.string s, .int .i64 (p.pos : Int), .bool (!p.bad)] 67)).alloc (.cells #[.int .i64 y, .int .i64 m, .int .i64 d, .int .i64 0, .int .i64 0, .int .i64 0, .int .i64 0] 38)).alloc (.cells #[.string ⟨#[]⟩, .int .i64 0, .bool false] 67)).alloc (.cells #[.int .i64 0, .int .i64 0, .int .i64 0, .int .i64 0, .int .i64 0, .int .i64 0, .int .i64 0] 38) = X := ⟨_, rfl⟩
  rw [hX, hn] at RS0
  rw [hX]
  have HNN := Lib.hid hn
  clear hX hn
  have nn1 : n ≠ n + 1 := by omega
  have nn2 : n + 1 ≠ n := by omega
  go_wp2_with fail
  refine (HN.out.1 _).mono ?_
  rintro e w1 ⟨rfl, hb1⟩
  skip
  have RT1 := Lib.hid (RS0.out.below hb1)
  obtain ⟨c0, c1, c2, g0, g1, g2⟩ := RT1.out.cf
  have d0 := RT1.out.d.cell 3
  have f0 := RT1.out.d.free 3
  have RS1 := Lib.hid ((RT1.out.put (q' := kq1 s p)).s3 (clkH s p))
  clear hb1
  go_wp2_with fail
  refine (HN.out.2.1 _).mono ?_
  rintro e w2 ⟨rfl, hb2⟩
  clear c0 c1 c2 g0 g1 g2 d0 f0
  have RT2 := Lib.hid (RS1.out.below hb2)
  obtain ⟨c0, c1, c2, g0, g1, g2⟩ := RT2.out.cf
  have RS2 := Lib.hid (RT2.out.put (q' := kq2 s p))
  clear hb2
  go_wp2_with fail
  refine (HN.out.2.2.1 _).mono ?_
  rintro e w3 ⟨rfl, hb3⟩
  clear c0 c1 c2 g0 g1 g2
  have RT3 := Lib.hid (RS2.out.below hb3)
  obtain ⟨c0, c1, c2, g0, g1, g2⟩ := RT3.out.cf
  have d0 := RT3.out.d.cell 4
  have f0 := RT3.out.d.free 4
  have RS3 := Lib.hid ((RT3.out.put (q' := kq3 s p)).s4 (clkI s p))
  clear hb3
  go_wp2_with fail
  refine (HN.out.2.2.2.1 _).mono ?_
  rintro e w4 ⟨rfl, hb4⟩
  clear c0 c1 c2 g0 g1 g2 d0 f0
  have RT4 := Lib.hid (RS3.out.below hb4)
  obtain ⟨c0, c1, c2, g0, g1, g2⟩ := RT4.out.cf
  have RS4 := Lib.hid (RT4.out.put (q' := kq4 s p))
  clear hb4
  go_wp2_with fail
  refine (HN.out.2.2.2.2 _).mono ?_
  rintro e w5 ⟨rfl, hb5⟩
  clear c0 c1 c2 g0 g1 g2
  have RT5 := Lib.hid (RS4.out.below hb5)
  obtain ⟨c0, c1, c2, g0, g1, g2⟩ := RT5.out.cf
  have d0 := RT5.out.d.cell 5
  have f0 := RT5.out.d.free 5
  have RS5 := Lib.hid ((RT5.out.put (q' := clkC s p)).s5 (clkS s p))
  clear hb5
  have RF := Lib.hid (show RSt s n (clkC s p) ⟨y, m, d, (clkH s p : Nat), (clkI s p : Nat), (clkS s p : Nat), 0⟩ w _ from RS5.out)
  have hcc : digitsC s (kq4 s p) 2 2 = clkC s p := rfl
  rw [hcc]
  clear hb
  go_wp2
  have RG : RSt s n (clkC s p) ⟨y, m, d, (clkH s p : Nat), (clkI s p : Nat), (clkS s p : Nat), 0⟩ w ((((w5.setCell ⟨n, 0, none⟩ (.string s)).setCell ⟨n, 1, none⟩ (.int .i64 ((clkC s p).pos : Int))).setCell ⟨n, 2, none⟩ (.bool true)).setCell ⟨n + 1, 5, none⟩ (.int .i64 (numC s (kq4 s p).pos 2 : Nat))) := by
    have h := RF.out
    unfold rput3 at h
    rw [hb2] at h
    exact h
  obtain ⟨W, hW⟩ : ∃ W, (((w5.setCell ⟨n, 0, none⟩ (.string s)).setCell ⟨n, 1, none⟩ (.int .i64 ((clkC s p).pos : Int))).setCell ⟨n, 2, none⟩ (.bool true)).setCell ⟨n + 1, 5, none⟩ (.int .i64 (numC s (kq4 s p).pos 2 : Nat)) = W := ⟨_, rfl⟩
  rw [hW] at RG ⊢
  have RW := Lib.hid RG
  clear c0 c1 c2 g0 g1 g2 d0 f0 RG hW RF RS5 RT5
  obtain ⟨c0, c1, c2, g0, g1, g2⟩ := RW.out.cf
  rw [hb2] at c2
  have r0 := RW.out.r.cell 0
  have rf0 := RW.out.r.free 0
  have r1 := RW.out.r.cell 1
  have rf1 := RW.out.r.free 1
  have r2 := RW.out.r.cell 2
  have rf2 := RW.out.r.free 2
  have t0 := RW.out.t.cell 0
  have tf0 := RW.out.t.free 0
  have dd0 := RW.out.d.cell 0
  have t1 := RW.out.t.cell 1
  have tf1 := RW.out.t.free 1
  have dd1 := RW.out.d.cell 1
  have t2 := RW.out.t.cell 2
  have tf2 := RW.out.t.free 2
  have dd2 := RW.out.d.cell 2
  have t3 := RW.out.t.cell 3
  have tf3 := RW.out.t.free 3
  have dd3 := RW.out.d.cell 3
  have t4 := RW.out.t.cell 4
  have tf4 := RW.out.t.free 4
  have dd4 := RW.out.d.cell 4
  have t5 := RW.out.t.cell 5
  have tf5 := RW.out.t.free 5
  have dd5 := RW.out.d.cell 5
  have t6 := RW.out.t.cell 6
  have tf6 := RW.out.t.free 6
  have dd6 := RW.out.d.cell 6
  simp only [rcA, z7, date7, D7.cs, List.getElem?_toArray, List.getElem?_cons_zero, List.getElem?_cons_succ] at r0 r1 r2 t0 t1 t2 t3 t4 t5 t6 dd0 dd1 dd2 dd3 dd4 dd5 dd6
  have nn3 : n ≠ n + 1 + 1 := by omega
  have nn4 : n + 1 + 1 ≠ n := by omega
  have nn5 : n + 1 ≠ n + 1 + 1 := by omega
  have nn6 : n + 1 + 1 ≠ n + 1 := by omega
  have nn7 : n + 1 + 1 + 1 ≠ n := by omega
  have nn8 : n + 1 + 1 + 1 ≠ n + 1 := by omega
  have nn9 : n + 1 + 1 + 1 ≠ n + 1 + 1 := by omega
  have nn10 : n ≠ n + 1 + 1 + 1 := by omega
  have nn11 : n + 1 ≠ n + 1 + 1 + 1 := by omega
  have nn12 : n + 1 + 1 ≠ n + 1 + 1 + 1 := by omega
  clear hcc HN
  go_region
  all_goals
    go_wp2
    refine bodyPost_ret (v := .tuple #[.agg #[.string s, .int .i64 ((clkC s p).pos : Int), .bool true], .agg #[.int .i64 y, .int .i64 m, .int .i64 d, .int .i64 (clkH s p : Nat), .int .i64 (clkI s p : Nat), .int .i64 (clkS s p : Nat), .int .i64 0]]) ?_ rfl ⟨by rw [hb2], Below.mono (((((((((((RW.out.b.setCell (p := ⟨n + 1 + 1, 0, none⟩) (by show n ≤ n + 1 + 1; omega) _).setCell (p := ⟨n + 1 + 1, 1, none⟩) (by show n ≤ n + 1 + 1; omega) _).setCell (p := ⟨n + 1 + 1, 2, none⟩) (by show n ≤ n + 1 + 1; omega) _).setCell (p := ⟨n + 1 + 1 + 1, 0, none⟩) (by show n ≤ n + 1 + 1 + 1; omega) _).setCell (p := ⟨n + 1 + 1 + 1, 1, none⟩) (by show n ≤ n + 1 + 1 + 1; omega) _).setCell (p := ⟨n + 1 + 1 + 1, 2, none⟩) (by show n ≤ n + 1 + 1 + 1; omega) _).setCell (p := ⟨n + 1 + 1 + 1, 3, none⟩) (by show n ≤ n + 1 + 1 + 1; omega) _).setCell (p := ⟨n + 1 + 1 + 1, 4, none⟩) (by show n ≤ n + 1 + 1 + 1; omega) _).setCell (p := ⟨n + 1 + 1 + 1, 5, none⟩) (by show n ≤ n + 1 + 1 + 1; omega) _).setCell (p := ⟨n + 1 + 1 + 1, 6, none⟩) (by show n ≤ n + 1 + 1 + 1; omega) _).drew) (Nat.le_of_eq HNN.out)⟩
    clear hk hs hb2 RS0 RW HNN c0 c1 c2 g0 g1 g2 nn1 nn2 nn3 nn4 nn5 nn6 nn7 nn8 nn10 nn11

    simp [results, Tryd.results24, go_sem, nn9, nn12, r0, r1, r2, t0, t1, t2, t3, t4, t5, t6]

set_option maxRecDepth 100000 in
set_option linter.unusedSimpArgs false in
set_option maxHeartbeats 16000000 in
theorem rclk_sep (s : ByteArray) (p : CS) (y m d : Int) (hk : p.pos ≤ s.size) (hs : s.size ≤ 20000) (hb : (clkC s p).bad = false) (he : (clkC s p).pos + 1 < s.size) (h1 : byN s (clkC s p).pos ≠ 46) (h2 : byN s (clkC s p).pos ≠ 44) (w : World) :
    Calls Tryd.prog 24 #[rcV s p, .agg #[.int .i64 y, .int .i64 m, .int .i64 d, .int .i64 0, .int .i64 0, .int .i64 0, .int .i64 0]] w fun e w' => e = .returned (.tuple #[rcV s (clkC s p), .agg #[.int .i64 y, .int .i64 m, .int .i64 d, .int .i64 (clkH s p : Nat), .int .i64 (clkI s p : Nat), .int .i64 (clkS s p : Nat), .int .i64 0]]) ∧ Below w.heap.size w w' := by
  have i1 : (kq1 s p).pos ≤ s.size := digitsC_in hk
  have i2 : (kq2 s p).pos ≤ s.size := expectC_in i1 (by omega)
  have i3 : (kq3 s p).pos ≤ s.size := digitsC_in i2
  have i4 : (kq4 s p).pos ≤ s.size := expectC_in i3 (by omega)
  have i5 : (clkC s p).pos ≤ s.size := digitsC_in i4
  have N1 := fun W => rcV_number s p 2 2 hk hs (by omega) (by omega) W
  have N2 := fun W => rcV_byte s (kq1 s p) 58 i1 hs (by omega) W
  have N3 := fun W => rcV_number s (kq2 s p) 2 2 i2 hs (by omega) (by omega) W
  have N4 := fun W => rcV_byte s (kq3 s p) 58 i3 hs (by omega) W
  have N5 := fun W => rcV_number s (kq4 s p) 2 2 i4 hs (by omega) (by omega) W
  have HN := Lib.hid (And.intro N1 (And.intro N2 (And.intro N3 (And.intro N4 N5))))
  clear N1 N2 N3 N4 N5 i1 i2 i3 i4
  have hb2 : (!(clkC s p).bad) = true := by rw [hb]; rfl
  have hd1 : decide ((s.size : Int) ≤ ((clkC s p).pos : Int) + 1) = false := by rw [decide_eq_false_iff_not]; omega
  have hlt : (clkC s p).pos < s.size := by omega
  rw [byN_in s _ hlt] at h1 h2
  have q1 : ((s[(clkC s p).pos].toNat : Int) == 46) = false := by rw [beq_eq_false_iff_ne]; omega
  have q2 : ((s[(clkC s p).pos].toNat : Int) != 46) = true := by rw [bne_iff_ne]; omega
  have q3 : ((s[(clkC s p).pos].toNat : Int) == 44) = false := by rw [beq_eq_false_iff_ne]; omega
  have q4 : ((s[(clkC s p).pos].toNat : Int) != 44) = true := by rw [bne_iff_ne]; omega
  clear he h1 h2
  unfold rcV at *
  have RS0 := Lib.hid (show RSt s w.heap.size p ⟨y, m, d, 0, 0, 0, 0⟩ w ((((w.alloc (.cells #[.string s, .int .i64 (p.pos : Int), .bool (!p.bad)] 67)).alloc (.cells #[.int .i64 y, .int .i64 m, .int .i64 d, .int .i64 0, .int .i64 0, .int .i64 0, .int .i64 0] 38)).alloc (.cells #[.string ⟨#[]⟩, .int .i64 0, .bool false] 67)).alloc (.cells #[.int .i64 0, .int .i64 0, .int .i64 0, .int .i64 0, .int .i64 0, .int .i64 0, .int .i64 0] 38)) from RSt.start s p ⟨y, m, d, 0, 0, 0, 0⟩ w)
  obtain ⟨n, hn⟩ : ∃ n, w.heap.size = n := ⟨_, rfl⟩
  go_enter Tryd.func24, Tryd.ntmps24
  go_wp2_with fail
  obtain ⟨X, hX⟩ : ∃ X, (((w.alloc (.cells #[.string s, .int .i64 (p.pos : Int), .bool (!p.bad)] 67)).alloc (.cells #[.int .i64 y, .int .i64 m, .int .i64 d, .int .i64 0, .int .i64 0, .int .i64 0, .int .i64 0] 38)).alloc (.cells #[.string ⟨#[]⟩, .int .i64 0, .bool false] 67)).alloc (.cells #[.int .i64 0, .int .i64 0, .int .i64 0, .int .i64 0, .int .i64 0, .int .i64 0, .int .i64 0] 38) = X := ⟨_, rfl⟩
  rw [hX, hn] at RS0
  rw [hX]
  have HNN := Lib.hid hn
  clear hX hn
  have nn1 : n ≠ n + 1 := by omega
  have nn2 : n + 1 ≠ n := by omega
  go_wp2_with fail
  refine (HN.out.1 _).mono ?_
  rintro e w1 ⟨rfl, hb1⟩
  skip
  have RT1 := Lib.hid (RS0.out.below hb1)
  obtain ⟨c0, c1, c2, g0, g1, g2⟩ := RT1.out.cf
  have d0 := RT1.out.d.cell 3
  have f0 := RT1.out.d.free 3
  have RS1 := Lib.hid ((RT1.out.put (q' := kq1 s p)).s3 (clkH s p))
  clear hb1
  go_wp2_with fail
  refine (HN.out.2.1 _).mono ?_
  rintro e w2 ⟨rfl, hb2⟩
  clear c0 c1 c2 g0 g1 g2 d0 f0
  have RT2 := Lib.hid (RS1.out.below hb2)
  obtain ⟨c0, c1, c2, g0, g1, g2⟩ := RT2.out.cf
  have RS2 := Lib.hid (RT2.out.put (q' := kq2 s p))
  clear hb2
  go_wp2_with fail
  refine (HN.out.2.2.1 _).mono ?_
  rintro e w3 ⟨rfl, hb3⟩
  clear c0 c1 c2 g0 g1 g2
  have RT3 := Lib.hid (RS2.out.below hb3)
  obtain ⟨c0, c1, c2, g0, g1, g2⟩ := RT3.out.cf
  have d0 := RT3.out.d.cell 4
  have f0 := RT3.out.d.free 4
  have RS3 := Lib.hid ((RT3.out.put (q' := kq3 s p)).s4 (clkI s p))
  clear hb3
  go_wp2_with fail
  refine (HN.out.2.2.2.1 _).mono ?_
  rintro e w4 ⟨rfl, hb4⟩
  clear c0 c1 c2 g0 g1 g2 d0 f0
  have RT4 := Lib.hid (RS3.out.below hb4)
  obtain ⟨c0, c1, c2, g0, g1, g2⟩ := RT4.out.cf
  have RS4 := Lib.hid (RT4.out.put (q' := kq4 s p))
  clear hb4
  go_wp2_with fail
  refine (HN.out.2.2.2.2 _).mono ?_
  rintro e w5 ⟨rfl, hb5⟩
  clear c0 c1 c2 g0 g1 g2
  have RT5 := Lib.hid (RS4.out.below hb5)
  obtain ⟨c0, c1, c2, g0, g1, g2⟩ := RT5.out.cf
  have d0 := RT5.out.d.cell 5
  have f0 := RT5.out.d.free 5
  have RS5 := Lib.hid ((RT5.out.put (q' := clkC s p)).s5 (clkS s p))
  clear hb5
  have RF := Lib.hid (show RSt s n (clkC s p) ⟨y, m, d, (clkH s p : Nat), (clkI s p : Nat), (clkS s p : Nat), 0⟩ w _ from RS5.out)
  have hcc : digitsC s (kq4 s p) 2 2 = clkC s p := rfl
  rw [hcc]
  clear hb
  go_wp2
  have RG : RSt s n (clkC s p) ⟨y, m, d, (clkH s p : Nat), (clkI s p : Nat), (clkS s p : Nat), 0⟩ w ((((w5.setCell ⟨n, 0, none⟩ (.string s)).setCell ⟨n, 1, none⟩ (.int .i64 ((clkC s p).pos : Int))).setCell ⟨n, 2, none⟩ (.bool true)).setCell ⟨n + 1, 5, none⟩ (.int .i64 (numC s (kq4 s p).pos 2 : Nat))) := by
    have h := RF.out
    unfold rput3 at h
    rw [hb2] at h
    exact h
  obtain ⟨W, hW⟩ : ∃ W, (((w5.setCell ⟨n, 0, none⟩ (.string s)).setCell ⟨n, 1, none⟩ (.int .i64 ((clkC s p).pos : Int))).setCell ⟨n, 2, none⟩ (.bool true)).setCell ⟨n + 1, 5, none⟩ (.int .i64 (numC s (kq4 s p).pos 2 : Nat)) = W := ⟨_, rfl⟩
  rw [hW] at RG ⊢
  have RW := Lib.hid RG
  clear c0 c1 c2 g0 g1 g2 d0 f0 RG hW RF RS5 RT5
  obtain ⟨c0, c1, c2, g0, g1, g2⟩ := RW.out.cf
  rw [hb2] at c2
  have r0 := RW.out.r.cell 0
  have rf0 := RW.out.r.free 0
  have r1 := RW.out.r.cell 1
  have rf1 := RW.out.r.free 1
  have r2 := RW.out.r.cell 2
  have rf2 := RW.out.r.free 2
  have t0 := RW.out.t.cell 0
  have tf0 := RW.out.t.free 0
  have dd0 := RW.out.d.cell 0
  have t1 := RW.out.t.cell 1
  have tf1 := RW.out.t.free 1
  have dd1 := RW.out.d.cell 1
  have t2 := RW.out.t.cell 2
  have tf2 := RW.out.t.free 2
  have dd2 := RW.out.d.cell 2
  have t3 := RW.out.t.cell 3
  have tf3 := RW.out.t.free 3
  have dd3 := RW.out.d.cell 3
  have t4 := RW.out.t.cell 4
  have tf4 := RW.out.t.free 4
  have dd4 := RW.out.d.cell 4
  have t5 := RW.out.t.cell 5
  have tf5 := RW.out.t.free 5
  have dd5 := RW.out.d.cell 5
  have t6 := RW.out.t.cell 6
  have tf6 := RW.out.t.free 6
  have dd6 := RW.out.d.cell 6
  simp only [rcA, z7, date7, D7.cs, List.getElem?_toArray, List.getElem?_cons_zero, List.getElem?_cons_succ] at r0 r1 r2 t0 t1 t2 t3 t4 t5 t6 dd0 dd1 dd2 dd3 dd4 dd5 dd6
  have nn3 : n ≠ n + 1 + 1 := by omega
  have nn4 : n + 1 + 1 ≠ n := by omega
  have nn5 : n + 1 ≠ n + 1 + 1 := by omega
  have nn6 : n + 1 + 1 ≠ n + 1 := by omega
  have nn7 : n + 1 + 1 + 1 ≠ n := by omega
  have nn8 : n + 1 + 1 + 1 ≠ n + 1 := by omega
  have nn9 : n + 1 + 1 + 1 ≠ n + 1 + 1 := by omega
  have nn10 : n ≠ n + 1 + 1 + 1 := by omega
  have nn11 : n + 1 ≠ n + 1 + 1 + 1 := by omega
  have nn12 : n + 1 + 1 ≠ n + 1 + 1 + 1 := by omega
  clear hcc HN
  go_region
  all_goals
    go_wp2
    refine bodyPost_ret (v := .tuple #[.agg #[.string s, .int .i64 ((clkC s p).pos : Int), .bool true], .agg #[.int .i64 y, .int .i64 m, .int .i64 d, .int .i64 (clkH s p : Nat), .int .i64 (clkI s p : Nat), .int .i64 (clkS s p : Nat), .int .i64 0]]) ?_ rfl ⟨by rw [hb2], Below.mono (((((((((((RW.out.b.setCell (p := ⟨n + 1 + 1, 0, none⟩) (by show n ≤ n + 1 + 1; omega) _).setCell (p := ⟨n + 1 + 1, 1, none⟩) (by show n ≤ n + 1 + 1; omega) _).setCell (p := ⟨n + 1 + 1, 2, none⟩) (by show n ≤ n + 1 + 1; omega) _).setCell (p := ⟨n + 1 + 1 + 1, 0, none⟩) (by show n ≤ n + 1 + 1 + 1; omega) _).setCell (p := ⟨n + 1 + 1 + 1, 1, none⟩) (by show n ≤ n + 1 + 1 + 1; omega) _).setCell (p := ⟨n + 1 + 1 + 1, 2, none⟩) (by show n ≤ n + 1 + 1 + 1; omega) _).setCell (p := ⟨n + 1 + 1 + 1, 3, none⟩) (by show n ≤ n + 1 + 1 + 1; omega) _).setCell (p := ⟨n + 1 + 1 + 1, 4, none⟩) (by show n ≤ n + 1 + 1 + 1; omega) _).setCell (p := ⟨n + 1 + 1 + 1, 5, none⟩) (by show n ≤ n + 1 + 1 + 1; omega) _).setCell (p := ⟨n + 1 + 1 + 1, 6, none⟩) (by show n ≤ n + 1 + 1 + 1; omega) _).drew) (Nat.le_of_eq HNN.out)⟩
    clear hk hs hb2 RS0 RW HNN c0 c1 c2 g0 g1 g2 nn1 nn2 nn3 nn4 nn5 nn6 nn7 nn8 nn10 nn11

    simp [results, Tryd.results24, go_sem, nn9, nn12, r0, r1, r2, t0, t1, t2, t3, t4, t5, t6]

set_option maxRecDepth 100000 in
set_option linter.unusedSimpArgs false in
set_option maxHeartbeats 16000000 in
theorem rclk_nodig46 (s : ByteArray) (p : CS) (y m d : Int) (hk : p.pos ≤ s.size) (hs : s.size ≤ 20000) (hb : (clkC s p).bad = false) (he : (clkC s p).pos + 1 < s.size) (h1 : byN s (clkC s p).pos = 46) (h2 : digB (byN s ((clkC s p).pos + 1)) = false) (w : World) :
    Calls Tryd.prog 24 #[rcV s p, .agg #[.int .i64 y, .int .i64 m, .int .i64 d, .int .i64 0, .int .i64 0, .int .i64 0, .int .i64 0]] w fun e w' => e = .returned (.tuple #[rcV s (clkC s p), .agg #[.int .i64 y, .int .i64 m, .int .i64 d, .int .i64 (clkH s p : Nat), .int .i64 (clkI s p : Nat), .int .i64 (clkS s p : Nat), .int .i64 0]]) ∧ Below w.heap.size w w' := by
  have i1 : (kq1 s p).pos ≤ s.size := digitsC_in hk
  have i2 : (kq2 s p).pos ≤ s.size := expectC_in i1 (by omega)
  have i3 : (kq3 s p).pos ≤ s.size := digitsC_in i2
  have i4 : (kq4 s p).pos ≤ s.size := expectC_in i3 (by omega)
  have i5 : (clkC s p).pos ≤ s.size := digitsC_in i4
  have N1 := fun W => rcV_number s p 2 2 hk hs (by omega) (by omega) W
  have N2 := fun W => rcV_byte s (kq1 s p) 58 i1 hs (by omega) W
  have N3 := fun W => rcV_number s (kq2 s p) 2 2 i2 hs (by omega) (by omega) W
  have N4 := fun W => rcV_byte s (kq3 s p) 58 i3 hs (by omega) W
  have N5 := fun W => rcV_number s (kq4 s p) 2 2 i4 hs (by omega) (by omega) W
  have HN := Lib.hid (And.intro N1 (And.intro N2 (And.intro N3 (And.intro N4 N5))))
  clear N1 N2 N3 N4 N5 i1 i2 i3 i4
  have hb2 : (!(clkC s p).bad) = true := by rw [hb]; rfl
  have hd1 : decide ((s.size : Int) ≤ ((clkC s p).pos : Int) + 1) = false := by rw [decide_eq_false_iff_not]; omega
  have hlt : (clkC s p).pos < s.size := by omega
  rw [byN_in s _ hlt] at h1
  have q1 : ((s[(clkC s p).pos].toNat : Int) == 46) = true := by rw [beq_iff_eq]; omega
  have q2 : ((s[(clkC s p).pos].toNat : Int) != 46) = false := by rw [bne_eq_false_iff_eq]; omega
  have q3 : ((s[(clkC s p).pos].toNat : Int) == 44) = false := by rw [beq_eq_false_iff_ne]; omega
  have q4 : ((s[(clkC s p).pos].toNat : Int) != 44) = true := by rw [bne_iff_ne]; omega
  have hrd := fun W => rdigit_any s[(clkC s p).pos + 1].toNat W
  rw [byN_in s _ he] at h2
  rw [h2] at hrd
  have HRD := Lib.hid hrd
  clear h1 h2 hrd
  unfold rcV at *
  have RS0 := Lib.hid (show RSt s w.heap.size p ⟨y, m, d, 0, 0, 0, 0⟩ w ((((w.alloc (.cells #[.string s, .int .i64 (p.pos : Int), .bool (!p.bad)] 67)).alloc (.cells #[.int .i64 y, .int .i64 m, .int .i64 d, .int .i64 0, .int .i64 0, .int .i64 0, .int .i64 0] 38)).alloc (.cells #[.string ⟨#[]⟩, .int .i64 0, .bool false] 67)).alloc (.cells #[.int .i64 0, .int .i64 0, .int .i64 0, .int .i64 0, .int .i64 0, .int .i64 0, .int .i64 0] 38)) from RSt.start s p ⟨y, m, d, 0, 0, 0, 0⟩ w)
  obtain ⟨n, hn⟩ : ∃ n, w.heap.size = n := ⟨_, rfl⟩
  go_enter Tryd.func24, Tryd.ntmps24
  go_wp2_with fail
  obtain ⟨X, hX⟩ : ∃ X, (((w.alloc (.cells #[.string s, .int .i64 (p.pos : Int), .bool (!p.bad)] 67)).alloc (.cells #[.int .i64 y, .int .i64 m, .int .i64 d, .int .i64 0, .int .i64 0, .int .i64 0, .int .i64 0] 38)).alloc (.cells #[.string ⟨#[]⟩, .int .i64 0, .bool false] 67)).alloc (.cells #[.int .i64 0, .int .i64 0, .int .i64 0, .int .i64 0, .int .i64 0, .int .i64 0, .int .i64 0] 38) = X := ⟨_, rfl⟩
  rw [hX, hn] at RS0
  rw [hX]
  have HNN := Lib.hid hn
  clear hX hn
  have nn1 : n ≠ n + 1 := by omega
  have nn2 : n + 1 ≠ n := by omega
  go_wp2_with fail
  refine (HN.out.1 _).mono ?_
  rintro e w1 ⟨rfl, hb1⟩
  skip
  have RT1 := Lib.hid (RS0.out.below hb1)
  obtain ⟨c0, c1, c2, g0, g1, g2⟩ := RT1.out.cf
  have d0 := RT1.out.d.cell 3
  have f0 := RT1.out.d.free 3
  have RS1 := Lib.hid ((RT1.out.put (q' := kq1 s p)).s3 (clkH s p))
  clear hb1
  go_wp2_with fail
  refine (HN.out.2.1 _).mono ?_
  rintro e w2 ⟨rfl, hb2⟩
  clear c0 c1 c2 g0 g1 g2 d0 f0
  have RT2 := Lib.hid (RS1.out.below hb2)
  obtain ⟨c0, c1, c2, g0, g1, g2⟩ := RT2.out.cf
  have RS2 := Lib.hid (RT2.out.put (q' := kq2 s p))
  clear hb2
  go_wp2_with fail
  refine (HN.out.2.2.1 _).mono ?_
  rintro e w3 ⟨rfl, hb3⟩
  clear c0 c1 c2 g0 g1 g2
  have RT3 := Lib.hid (RS2.out.below hb3)
  obtain ⟨c0, c1, c2, g0, g1, g2⟩ := RT3.out.cf
  have d0 := RT3.out.d.cell 4
  have f0 := RT3.out.d.free 4
  have RS3 := Lib.hid ((RT3.out.put (q' := kq3 s p)).s4 (clkI s p))
  clear hb3
  go_wp2_with fail
  refine (HN.out.2.2.2.1 _).mono ?_
  rintro e w4 ⟨rfl, hb4⟩
  clear c0 c1 c2 g0 g1 g2 d0 f0
  have RT4 := Lib.hid (RS3.out.below hb4)
  obtain ⟨c0, c1, c2, g0, g1, g2⟩ := RT4.out.cf
  have RS4 := Lib.hid (RT4.out.put (q' := kq4 s p))
  clear hb4
  go_wp2_with fail
  refine (HN.out.2.2.2.2 _).mono ?_
  rintro e w5 ⟨rfl, hb5⟩
  clear c0 c1 c2 g0 g1 g2
  have RT5 := Lib.hid (RS4.out.below hb5)
  obtain ⟨c0, c1, c2, g0, g1, g2⟩ := RT5.out.cf
  have d0 := RT5.out.d.cell 5
  have f0 := RT5.out.d.free 5
  have RS5 := Lib.hid ((RT5.out.put (q' := clkC s p)).s5 (clkS s p))
  clear hb5
  have RF := Lib.hid (show RSt s n (clkC s p) ⟨y, m, d, (clkH s p : Nat), (clkI s p : Nat), (clkS s p : Nat), 0⟩ w _ from RS5.out)
  have hcc : digitsC s (kq4 s p) 2 2 = clkC s p := rfl
  rw [hcc]
  clear hb
  go_wp2_with fail
  refine (HRD.out _).mono ?_
  rintro e w' ⟨rfl, rfl⟩
  go_wp2
  have RG : RSt s n (clkC s p) ⟨y, m, d, (clkH s p : Nat), (clkI s p : Nat), (clkS s p : Nat), 0⟩ w ((((w5.setCell ⟨n, 0, none⟩ (.string s)).setCell ⟨n, 1, none⟩ (.int .i64 ((clkC s p).pos : Int))).setCell ⟨n, 2, none⟩ (.bool true)).setCell ⟨n + 1, 5, none⟩ (.int .i64 (numC s (kq4 s p).pos 2 : Nat))) := by
    have h := RF.out
    unfold rput3 at h
    rw [hb2] at h
    exact h
  obtain ⟨W, hW⟩ : ∃ W, (((w5.setCell ⟨n, 0, none⟩ (.string s)).setCell ⟨n, 1, none⟩ (.int .i64 ((clkC s p).pos : Int))).setCell ⟨n, 2, none⟩ (.bool true)).setCell ⟨n + 1, 5, none⟩ (.int .i64 (numC s (kq4 s p).pos 2 : Nat)) = W := ⟨_, rfl⟩
  rw [hW] at RG ⊢
  have RW := Lib.hid RG
  clear c0 c1 c2 g0 g1 g2 d0 f0 RG hW RF RS5 RT5
  obtain ⟨c0, c1, c2, g0, g1, g2⟩ := RW.out.cf
  rw [hb2] at c2
  have r0 := RW.out.r.cell 0
  have rf0 := RW.out.r.free 0
  have r1 := RW.out.r.cell 1
  have rf1 := RW.out.r.free 1
  have r2 := RW.out.r.cell 2
  have rf2 := RW.out.r.free 2
  have t0 := RW.out.t.cell 0
  have tf0 := RW.out.t.free 0
  have dd0 := RW.out.d.cell 0
  have t1 := RW.out.t.cell 1
  have tf1 := RW.out.t.free 1
  have dd1 := RW.out.d.cell 1
  have t2 := RW.out.t.cell 2
  have tf2 := RW.out.t.free 2
  have dd2 := RW.out.d.cell 2
  have t3 := RW.out.t.cell 3
  have tf3 := RW.out.t.free 3
  have dd3 := RW.out.d.cell 3
  have t4 := RW.out.t.cell 4
  have tf4 := RW.out.t.free 4
  have dd4 := RW.out.d.cell 4
  have t5 := RW.out.t.cell 5
  have tf5 := RW.out.t.free 5
  have dd5 := RW.out.d.cell 5
  have t6 := RW.out.t.cell 6
  have tf6 := RW.out.t.free 6
  have dd6 := RW.out.d.cell 6
  simp only [rcA, z7, date7, D7.cs, List.getElem?_toArray, List.getElem?_cons_zero, List.getElem?_cons_succ] at r0 r1 r2 t0 t1 t2 t3 t4 t5 t6 dd0 dd1 dd2 dd3 dd4 dd5 dd6
  have nn3 : n ≠ n + 1 + 1 := by omega
  have nn4 : n + 1 + 1 ≠ n := by omega
  have nn5 : n + 1 ≠ n + 1 + 1 := by omega
  have nn6 : n + 1 + 1 ≠ n + 1 := by omega
  have nn7 : n + 1 + 1 + 1 ≠ n := by omega
  have nn8 : n + 1 + 1 + 1 ≠ n + 1 := by omega
  have nn9 : n + 1 + 1 + 1 ≠ n + 1 + 1 := by omega
  have nn10 : n ≠ n + 1 + 1 + 1 := by omega
  have nn11 : n + 1 ≠ n + 1 + 1 + 1 := by omega
  have nn12 : n + 1 + 1 ≠ n + 1 + 1 + 1 := by omega
  clear hcc HN
  go_region
  all_goals
    go_wp2
    refine bodyPost_ret (v := .tuple #[.agg #[.string s, .int .i64 ((clkC s p).pos : Int), .bool true], .agg #[.int .i64 y, .int .i64 m, .int .i64 d, .int .i64 (clkH s p : Nat), .int .i64 (clkI s p : Nat), .int .i64 (clkS s p : Nat), .int .i64 0]]) ?_ rfl ⟨by rw [hb2], Below.mono (((((((((((RW.out.b.setCell (p := ⟨n + 1 + 1, 0, none⟩) (by show n ≤ n + 1 + 1; omega) _).setCell (p := ⟨n + 1 + 1, 1, none⟩) (by show n ≤ n + 1 + 1; omega) _).setCell (p := ⟨n + 1 + 1, 2, none⟩) (by show n ≤ n + 1 + 1; omega) _).setCell (p := ⟨n + 1 + 1 + 1, 0, none⟩) (by show n ≤ n + 1 + 1 + 1; omega) _).setCell (p := ⟨n + 1 + 1 + 1, 1, none⟩) (by show n ≤ n + 1 + 1 + 1; omega) _).setCell (p := ⟨n + 1 + 1 + 1, 2, none⟩) (by show n ≤ n + 1 + 1 + 1; omega) _).setCell (p := ⟨n + 1 + 1 + 1, 3, none⟩) (by show n ≤ n + 1 + 1 + 1; omega) _).setCell (p := ⟨n + 1 + 1 + 1, 4, none⟩) (by show n ≤ n + 1 + 1 + 1; omega) _).setCell (p := ⟨n + 1 + 1 + 1, 5, none⟩) (by show n ≤ n + 1 + 1 + 1; omega) _).setCell (p := ⟨n + 1 + 1 + 1, 6, none⟩) (by show n ≤ n + 1 + 1 + 1; omega) _).drew) (Nat.le_of_eq HNN.out)⟩
    clear hk hs hb2 RS0 RW HNN c0 c1 c2 g0 g1 g2 nn1 nn2 nn3 nn4 nn5 nn6 nn7 nn8 nn10 nn11

    simp [results, Tryd.results24, go_sem, nn9, nn12, r0, r1, r2, t0, t1, t2, t3, t4, t5, t6]

set_option maxRecDepth 100000 in
set_option linter.unusedSimpArgs false in
set_option maxHeartbeats 16000000 in
theorem rclk_nodig44 (s : ByteArray) (p : CS) (y m d : Int) (hk : p.pos ≤ s.size) (hs : s.size ≤ 20000) (hb : (clkC s p).bad = false) (he : (clkC s p).pos + 1 < s.size) (h1 : byN s (clkC s p).pos = 44) (h2 : digB (byN s ((clkC s p).pos + 1)) = false) (w : World) :
    Calls Tryd.prog 24 #[rcV s p, .agg #[.int .i64 y, .int .i64 m, .int .i64 d, .int .i64 0, .int .i64 0, .int .i64 0, .int .i64 0]] w fun e w' => e = .returned (.tuple #[rcV s (clkC s p), .agg #[.int .i64 y, .int .i64 m, .int .i64 d, .int .i64 (clkH s p : Nat), .int .i64 (clkI s p : Nat), .int .i64 (clkS s p : Nat), .int .i64 0]]) ∧ Below w.heap.size w w' := by
  have i1 : (kq1 s p).pos ≤ s.size := digitsC_in hk
  have i2 : (kq2 s p).pos ≤ s.size := expectC_in i1 (by omega)
  have i3 : (kq3 s p).pos ≤ s.size := digitsC_in i2
  have i4 : (kq4 s p).pos ≤ s.size := expectC_in i3 (by omega)
  have i5 : (clkC s p).pos ≤ s.size := digitsC_in i4
  have N1 := fun W => rcV_number s p 2 2 hk hs (by omega) (by omega) W
  have N2 := fun W => rcV_byte s (kq1 s p) 58 i1 hs (by omega) W
  have N3 := fun W => rcV_number s (kq2 s p) 2 2 i2 hs (by omega) (by omega) W
  have N4 := fun W => rcV_byte s (kq3 s p) 58 i3 hs (by omega) W
  have N5 := fun W => rcV_number s (kq4 s p) 2 2 i4 hs (by omega) (by omega) W
  have HN := Lib.hid (And.intro N1 (And.intro N2 (And.intro N3 (And.intro N4 N5))))
  clear N1 N2 N3 N4 N5 i1 i2 i3 i4
  have hb2 : (!(clkC s p).bad) = true := by rw [hb]; rfl
  have hd1 : decide ((s.size : Int) ≤ ((clkC s p).pos : Int) + 1) = false := by rw [decide_eq_false_iff_not]; omega
  have hlt : (clkC s p).pos < s.size := by omega
  rw [byN_in s _ hlt] at h1
  have q1 : ((s[(clkC s p).pos].toNat : Int) == 46) = false := by rw [beq_eq_false_iff_ne]; omega
  have q2 : ((s[(clkC s p).pos].toNat : Int) != 46) = true := by rw [bne_iff_ne]; omega
  have q3 : ((s[(clkC s p).pos].toNat : Int) == 44) = true := by rw [beq_iff_eq]; omega
  have q4 : ((s[(clkC s p).pos].toNat : Int) != 44) = false := by rw [bne_eq_false_iff_eq]; omega
  have hrd := fun W => rdigit_any s[(clkC s p).pos + 1].toNat W
  rw [byN_in s _ he] at h2
  rw [h2] at hrd
  have HRD := Lib.hid hrd
  clear h1 h2 hrd
  unfold rcV at *
  have RS0 := Lib.hid (show RSt s w.heap.size p ⟨y, m, d, 0, 0, 0, 0⟩ w ((((w.alloc (.cells #[.string s, .int .i64 (p.pos : Int), .bool (!p.bad)] 67)).alloc (.cells #[.int .i64 y, .int .i64 m, .int .i64 d, .int .i64 0, .int .i64 0, .int .i64 0, .int .i64 0] 38)).alloc (.cells #[.string ⟨#[]⟩, .int .i64 0, .bool false] 67)).alloc (.cells #[.int .i64 0, .int .i64 0, .int .i64 0, .int .i64 0, .int .i64 0, .int .i64 0, .int .i64 0] 38)) from RSt.start s p ⟨y, m, d, 0, 0, 0, 0⟩ w)
  obtain ⟨n, hn⟩ : ∃ n, w.heap.size = n := ⟨_, rfl⟩
  go_enter Tryd.func24, Tryd.ntmps24
  go_wp2_with fail
  obtain ⟨X, hX⟩ : ∃ X, (((w.alloc (.cells #[.string s, .int .i64 (p.pos : Int), .bool (!p.bad)] 67)).alloc (.cells #[.int .i64 y, .int .i64 m, .int .i64 d, .int .i64 0, .int .i64 0, .int .i64 0, .int .i64 0] 38)).alloc (.cells #[.string ⟨#[]⟩, .int .i64 0, .bool false] 67)).alloc (.cells #[.int .i64 0, .int .i64 0, .int .i64 0, .int .i64 0, .int .i64 0, .int .i64 0, .int .i64 0] 38) = X := ⟨_, rfl⟩
  rw [hX, hn] at RS0
  rw [hX]
  have HNN := Lib.hid hn
  clear hX hn
  have nn1 : n ≠ n + 1 := by omega
  have nn2 : n + 1 ≠ n := by omega
  go_wp2_with fail
  refine (HN.out.1 _).mono ?_
  rintro e w1 ⟨rfl, hb1⟩
  skip
  have RT1 := Lib.hid (RS0.out.below hb1)
  obtain ⟨c0, c1, c2, g0, g1, g2⟩ := RT1.out.cf
  have d0 := RT1.out.d.cell 3
  have f0 := RT1.out.d.free 3
  have RS1 := Lib.hid ((RT1.out.put (q' := kq1 s p)).s3 (clkH s p))
  clear hb1
  go_wp2_with fail
  refine (HN.out.2.1 _).mono ?_
  rintro e w2 ⟨rfl, hb2⟩
  clear c0 c1 c2 g0 g1 g2 d0 f0
  have RT2 := Lib.hid (RS1.out.below hb2)
  obtain ⟨c0, c1, c2, g0, g1, g2⟩ := RT2.out.cf
  have RS2 := Lib.hid (RT2.out.put (q' := kq2 s p))
  clear hb2
  go_wp2_with fail
  refine (HN.out.2.2.1 _).mono ?_
  rintro e w3 ⟨rfl, hb3⟩
  clear c0 c1 c2 g0 g1 g2
  have RT3 := Lib.hid (RS2.out.below hb3)
  obtain ⟨c0, c1, c2, g0, g1, g2⟩ := RT3.out.cf
  have d0 := RT3.out.d.cell 4
  have f0 := RT3.out.d.free 4
  have RS3 := Lib.hid ((RT3.out.put (q' := kq3 s p)).s4 (clkI s p))
  clear hb3
  go_wp2_with fail
  refine (HN.out.2.2.2.1 _).mono ?_
  rintro e w4 ⟨rfl, hb4⟩
  clear c0 c1 c2 g0 g1 g2 d0 f0
  have RT4 := Lib.hid (RS3.out.below hb4)
  obtain ⟨c0, c1, c2, g0, g1, g2⟩ := RT4.out.cf
  have RS4 := Lib.hid (RT4.out.put (q' := kq4 s p))
  clear hb4
  go_wp2_with fail
  refine (HN.out.2.2.2.2 _).mono ?_
  rintro e w5 ⟨rfl, hb5⟩
  clear c0 c1 c2 g0 g1 g2
  have RT5 := Lib.hid (RS4.out.below hb5)
  obtain ⟨c0, c1, c2, g0, g1, g2⟩ := RT5.out.cf
  have d0 := RT5.out.d.cell 5
  have f0 := RT5.out.d.free 5
  have RS5 := Lib.hid ((RT5.out.put (q' := clkC s p)).s5 (clkS s p))
  clear hb5
  have RF := Lib.hid (show RSt s n (clkC s p) ⟨y, m, d, (clkH s p : Nat), (clkI s p : Nat), (clkS s p : Nat), 0⟩ w _ from RS5.out)
  have hcc : digitsC s (kq4 s p) 2 2 = clkC s p := rfl
  rw [hcc]
  clear hb
  go_wp2_with fail
  refine (HRD.out _).mono ?_
  rintro e w' ⟨rfl, rfl⟩
  go_wp2
  have RG : RSt s n (clkC s p) ⟨y, m, d, (clkH s p : Nat), (clkI s p : Nat), (clkS s p : Nat), 0⟩ w ((((w5.setCell ⟨n, 0, none⟩ (.string s)).setCell ⟨n, 1, none⟩ (.int .i64 ((clkC s p).pos : Int))).setCell ⟨n, 2, none⟩ (.bool true)).setCell ⟨n + 1, 5, none⟩ (.int .i64 (numC s (kq4 s p).pos 2 : Nat))) := by
    have h := RF.out
    unfold rput3 at h
    rw [hb2] at h
    exact h
  obtain ⟨W, hW⟩ : ∃ W, (((w5.setCell ⟨n, 0, none⟩ (.string s)).setCell ⟨n, 1, none⟩ (.int .i64 ((clkC s p).pos : Int))).setCell ⟨n, 2, none⟩ (.bool true)).setCell ⟨n + 1, 5, none⟩ (.int .i64 (numC s (kq4 s p).pos 2 : Nat)) = W := ⟨_, rfl⟩
  rw [hW] at RG ⊢
  have RW := Lib.hid RG
  clear c0 c1 c2 g0 g1 g2 d0 f0 RG hW RF RS5 RT5
  obtain ⟨c0, c1, c2, g0, g1, g2⟩ := RW.out.cf
  rw [hb2] at c2
  have r0 := RW.out.r.cell 0
  have rf0 := RW.out.r.free 0
  have r1 := RW.out.r.cell 1
  have rf1 := RW.out.r.free 1
  have r2 := RW.out.r.cell 2
  have rf2 := RW.out.r.free 2
  have t0 := RW.out.t.cell 0
  have tf0 := RW.out.t.free 0
  have dd0 := RW.out.d.cell 0
  have t1 := RW.out.t.cell 1
  have tf1 := RW.out.t.free 1
  have dd1 := RW.out.d.cell 1
  have t2 := RW.out.t.cell 2
  have tf2 := RW.out.t.free 2
  have dd2 := RW.out.d.cell 2
  have t3 := RW.out.t.cell 3
  have tf3 := RW.out.t.free 3
  have dd3 := RW.out.d.cell 3
  have t4 := RW.out.t.cell 4
  have tf4 := RW.out.t.free 4
  have dd4 := RW.out.d.cell 4
  have t5 := RW.out.t.cell 5
  have tf5 := RW.out.t.free 5
  have dd5 := RW.out.d.cell 5
  have t6 := RW.out.t.cell 6
  have tf6 := RW.out.t.free 6
  have dd6 := RW.out.d.cell 6
  simp only [rcA, z7, date7, D7.cs, List.getElem?_toArray, List.getElem?_cons_zero, List.getElem?_cons_succ] at r0 r1 r2 t0 t1 t2 t3 t4 t5 t6 dd0 dd1 dd2 dd3 dd4 dd5 dd6
  have nn3 : n ≠ n + 1 + 1 := by omega
  have nn4 : n + 1 + 1 ≠ n := by omega
  have nn5 : n + 1 ≠ n + 1 + 1 := by omega
  have nn6 : n + 1 + 1 ≠ n + 1 := by omega
  have nn7 : n + 1 + 1 + 1 ≠ n := by omega
  have nn8 : n + 1 + 1 + 1 ≠ n + 1 := by omega
  have nn9 : n + 1 + 1 + 1 ≠ n + 1 + 1 := by omega
  have nn10 : n ≠ n + 1 + 1 + 1 := by omega
  have nn11 : n + 1 ≠ n + 1 + 1 + 1 := by omega
  have nn12 : n + 1 + 1 ≠ n + 1 + 1 + 1 := by omega
  clear hcc HN
  go_region
  all_goals
    go_wp2
    refine bodyPost_ret (v := .tuple #[.agg #[.string s, .int .i64 ((clkC s p).pos : Int), .bool true], .agg #[.int .i64 y, .int .i64 m, .int .i64 d, .int .i64 (clkH s p : Nat), .int .i64 (clkI s p : Nat), .int .i64 (clkS s p : Nat), .int .i64 0]]) ?_ rfl ⟨by rw [hb2], Below.mono (((((((((((RW.out.b.setCell (p := ⟨n + 1 + 1, 0, none⟩) (by show n ≤ n + 1 + 1; omega) _).setCell (p := ⟨n + 1 + 1, 1, none⟩) (by show n ≤ n + 1 + 1; omega) _).setCell (p := ⟨n + 1 + 1, 2, none⟩) (by show n ≤ n + 1 + 1; omega) _).setCell (p := ⟨n + 1 + 1 + 1, 0, none⟩) (by show n ≤ n + 1 + 1 + 1; omega) _).setCell (p := ⟨n + 1 + 1 + 1, 1, none⟩) (by show n ≤ n + 1 + 1 + 1; omega) _).setCell (p := ⟨n + 1 + 1 + 1, 2, none⟩) (by show n ≤ n + 1 + 1 + 1; omega) _).setCell (p := ⟨n + 1 + 1 + 1, 3, none⟩) (by show n ≤ n + 1 + 1 + 1; omega) _).setCell (p := ⟨n + 1 + 1 + 1, 4, none⟩) (by show n ≤ n + 1 + 1 + 1; omega) _).setCell (p := ⟨n + 1 + 1 + 1, 5, none⟩) (by show n ≤ n + 1 + 1 + 1; omega) _).setCell (p := ⟨n + 1 + 1 + 1, 6, none⟩) (by show n ≤ n + 1 + 1 + 1; omega) _).drew) (Nat.le_of_eq HNN.out)⟩
    clear hk hs hb2 RS0 RW HNN c0 c1 c2 g0 g1 g2 nn1 nn2 nn3 nn4 nn5 nn6 nn7 nn8 nn10 nn11

    simp [results, Tryd.results24, go_sem, nn9, nn12, r0, r1, r2, t0, t1, t2, t3, t4, t5, t6]

theorem rclk_noFrac (s : ByteArray) (p : CS) (y m d : Int) (hk : p.pos ≤ s.size) (hs : s.size ≤ 20000) (hf : fracB s (clkC s p) = false) (w : World) :
    Calls Tryd.prog 24 #[rcV s p, .agg #[.int .i64 y, .int .i64 m, .int .i64 d, .int .i64 0, .int .i64 0, .int .i64 0, .int .i64 0]] w fun e w' => e = .returned (.tuple #[rcV s (clkC s p), .agg #[.int .i64 y, .int .i64 m, .int .i64 d, .int .i64 (clkH s p : Nat), .int .i64 (clkI s p : Nat), .int .i64 (clkS s p : Nat), .int .i64 0]]) ∧ Below w.heap.size w w' := by
  cases hb : (clkC s p).bad with
  | true => exact rclk_bad s p y m d hk hs hb w
  | false =>
    by_cases he : (clkC s p).pos + 1 < s.size
    · cases hd : digB (byN s ((clkC s p).pos + 1)) with
      | false =>
        by_cases h1 : byN s (clkC s p).pos = 46
        · exact rclk_nodig46 s p y m d hk hs hb he h1 hd w
        · by_cases h2 : byN s (clkC s p).pos = 44
          · exact rclk_nodig44 s p y m d hk hs hb he h2 hd w
          · exact rclk_sep s p y m d hk hs hb he h1 h2 w
      | true =>
        have h12 : byN s (clkC s p).pos ≠ 46 ∧ byN s (clkC s p).pos ≠ 44 := by
          unfold fracB at hf
          rw [hb, hd] at hf
          simpa using hf
        exact rclk_sep s p y m d hk hs hb he h12.1 h12.2 w
    · exact rclk_end s p y m d hk hs hb he w
end Go.Proofs.YtpbfgafkoodeoaaDoor
