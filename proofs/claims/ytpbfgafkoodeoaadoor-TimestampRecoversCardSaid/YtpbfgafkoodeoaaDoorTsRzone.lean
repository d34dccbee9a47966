/- The contract of the reference's zone. -/
import Derived.Test.YtpbfgafkoodeoaaDoorTsRclf
import Derived.Deep.RegionHeld3
import Derived.RegionTactic
namespace Go.Proofs.YtpbfgafkoodeoaaDoor
open Go.RowKit

/-- What the reference's zone keeps while it reads: the cursor that came, the result, the cursor that reads. -/
structure RZt (s : ByteArray) (n : Nat) (p q : CS) (w0 w : World) : Prop where
  c : RowAt n 67 (rcA s p.pos (!p.bad)) w
  r : RowAt (n + 1) 67 (rcA ⟨#[]⟩ 0 false) w
  t : RowAt (n + 1 + 1) 67 (rcA s q.pos (!q.bad)) w
  b : Below n w0 w
  hn : n = w0.heap.size
variable {s : ByteArray} {n : Nat} {p q q' : CS} {w0 w w' : World}
def rzput (w : World) (n : Nat) (s : ByteArray) (q : CS) : World := ((w.setCell ⟨n, 0, none⟩ (.string s)).setCell ⟨n, 1, none⟩ (.int .i64 (q.pos : Int))).setCell ⟨n, 2, none⟩ (.bool (!q.bad))
theorem RZt.below (h : RZt s n p q w0 w) (k : Below w.heap.size w w') : RZt s n p q w0 w' := ⟨h.c.below k, h.r.below k, h.t.below k, h.b.trans (k.mono (by have := h.c.lt; omega)), h.hn⟩
theorem RZt.put (h : RZt s n p q w0 w) : RZt s n p q' w0 (rzput w (n + 1 + 1) s q') := by
  refine ⟨((h.c.other 0 _ (by omega)).other 1 _ (by omega)).other 2 _ (by omega), ((h.r.other 0 _ (by omega)).other 1 _ (by omega)).other 2 _ (by omega), ?_, ?_, h.hn⟩
  · exact ((h.t.set 0 (.string s)).set 1 (.int .i64 (q'.pos : Int))).set 2 (.bool (!q'.bad))
  · unfold rzput
    exact ((h.b.setCell (p := ⟨n + 1 + 1, 0, none⟩) (by show n ≤ n + 1 + 1; omega) _).setCell (p := ⟨n + 1 + 1, 1, none⟩) (by show n ≤ n + 1 + 1; omega) _).setCell (p := ⟨n + 1 + 1, 2, none⟩) (by show n ≤ n + 1 + 1; omega) _
theorem RZt.at (h : RZt s n p q w0 w) (k : Nat) : RZt s n p ⟨k, q.bad⟩ w0 (w.setCell ⟨n + 1 + 1, 1, none⟩ (.int .i64 (k : Int))) :=
  ⟨h.c.other 1 _ (by omega), h.r.other 1 _ (by omega), h.t.set 1 _, h.b.setCell (p := ⟨n + 1 + 1, 1, none⟩) (by show n ≤ n + 1 + 1; omega) _, h.hn⟩
theorem RZt.cf (h : RZt s n p q w0 w) : w.cell? ⟨n + 1 + 1, 0, none⟩ = some (.string s) ∧ w.cell? ⟨n + 1 + 1, 1, none⟩ = some (.int .i64 (q.pos : Int)) ∧ w.cell? ⟨n + 1 + 1, 2, none⟩ = some (.bool (!q.bad)) ∧ w.frozen? ⟨n + 1 + 1, 0, none⟩ = false ∧ w.frozen? ⟨n + 1 + 1, 1, none⟩ = false ∧ w.frozen? ⟨n + 1 + 1, 2, none⟩ = false :=
  ⟨h.t.cell 0, h.t.cell 1, h.t.cell 2, h.t.free 0, h.t.free 1, h.t.free 2⟩
theorem RZt.start (s : ByteArray) (p : CS) (w : World) :
    RZt s w.heap.size p p w (((w.alloc (.cells (rcA s p.pos (!p.bad)) 67)).alloc (.cells (rcA ⟨#[]⟩ 0 false) 67)).alloc (.cells (rcA s p.pos (!p.bad)) 67)) := by
  have e1 : ∀ (W : World) (o : Obj), (W.alloc o).heap.size = W.heap.size + 1 := fun W o => by simp
  have r1 := RowAt.new 67 (rcA s p.pos (!p.bad)) w
  have r2 := RowAt.new 67 (rcA ⟨#[]⟩ 0 false) (w.alloc (.cells (rcA s p.pos (!p.bad)) 67))
  have r3 := RowAt.new 67 (rcA s p.pos (!p.bad)) ((w.alloc (.cells (rcA s p.pos (!p.bad)) 67)).alloc (.cells (rcA ⟨#[]⟩ 0 false) 67))
  rw [e1] at r2
  rw [e1, e1] at r3
  exact ⟨(r1.below (below_alloc _ _)).below (below_alloc _ _), r2.below (below_alloc _ _), r3, bl_trans (bl_trans (below_alloc _ _) (below_alloc _ _)) (below_alloc _ _), rfl⟩
theorem takeC_in {s : ByteArray} {p : CS} {c : Nat} (h : p.pos ≤ s.size) (hc : c ≠ 0) : (takeC s p c).pos ≤ s.size := by
  unfold takeC; split
  · exact byN_pos (s := s) (k := p.pos) (by omega)
  · exact h
theorem rt_rz {s : ByteArray} {a b v x : Int} {o : Bool} (h1 : a = b) (h3 : v = x) : Ending.returned (.tuple #[.agg #[.string s, .int .i64 a, .bool o], .int .i64 v]) = .returned (.tuple #[.agg #[.string s, .int .i64 b, .bool o], .int .i64 x]) := by rw [h1, h3]

set_option maxRecDepth 100000 in
set_option linter.unusedSimpArgs false in
set_option linter.unusedVariables false in
set_option maxHeartbeats 16000000 in
theorem rzone_end (s : ByteArray) (p : CS) (z : Int) (hk : p.pos ≤ s.size) (hs : s.size ≤ 20000) (he : ¬ p.pos < s.size) (w : World) :
    Calls Tryd.prog 39 #[rcV s p, .int .i64 z] w fun e w' => e = .returned (.tuple #[rcV s p, .int .i64 z]) ∧ Below w.heap.size w w' := by
  have d1 : s.size ≤ p.pos := by omega
  clear he
  unfold rcV
  go_enter Tryd.func39, Tryd.ntmps39
  go_wp2
  exact bodyPost_ret (v := .tuple #[.agg #[.string s, .int .i64 (p.pos : Int), .bool (!p.bad)], .int .i64 z]) (by simp [results, Tryd.results39, go_sem]) rfl ⟨rt_rz (by first | rfl | exact (Int.natCast_add _ _).symm | (push_cast; rfl)) rfl, bl_trans (below_alloc _ _) (below_alloc _ _)⟩
set_option maxRecDepth 100000 in
set_option linter.unusedSimpArgs false in
set_option linter.unusedVariables false in
set_option maxHeartbeats 16000000 in
theorem rzone_z (s : ByteArray) (p : CS) (z : Int) (hk : p.pos ≤ s.size) (hs : s.size ≤ 20000) (he : p.pos < s.size) (h1 : byN s p.pos = 90) (w : World) :
    Calls Tryd.prog 39 #[rcV s p, .int .i64 z] w fun e w' => e = .returned (.tuple #[rcV s p.next, .int .i64 0]) ∧ Below w.heap.size w w' := by
  have d1 : ¬ s.size ≤ p.pos := by omega
  rw [byN_in s _ he] at h1
  have q1 : ((s[p.pos].toNat : Int) == 90) = true := by rw [beq_iff_eq]; omega
  clear h1
  unfold rcV
  go_enter Tryd.func39, Tryd.ntmps39
  go_wp2
  exact bodyPost_ret (v := .tuple #[.agg #[.string s, .int .i64 ((p.pos : Int) + 1), .bool (!p.bad)], .int .i64 0]) (by simp [results, Tryd.results39, go_sem]) rfl ⟨rt_rz (by first | rfl | exact (Int.natCast_add _ _).symm | (push_cast; rfl)) rfl, bl_trans (below_alloc _ _) (below_alloc _ _)⟩
set_option maxRecDepth 100000 in
set_option linter.unusedSimpArgs false in
set_option linter.unusedVariables false in
set_option maxHeartbeats 16000000 in
theorem rzone_none (s : ByteArray) (p : CS) (z : Int) (hk : p.pos ≤ s.size) (hs : s.size ≤ 20000) (he : p.pos < s.size) (h1 : byN s p.pos ≠ 90) (h2 : byN s p.pos ≠ 43) (h3 : byN s p.pos ≠ 45) (w : World) :
    Calls Tryd.prog 39 #[rcV s p, .int .i64 z] w fun e w' => e = .returned (.tuple #[rcV s p, .int .i64 z]) ∧ Below w.heap.size w w' := by
  have d1 : ¬ s.size ≤ p.pos := by omega
  rw [byN_in s _ he] at h1 h2 h3
  have q1 : ((s[p.pos].toNat : Int) == 90) = false := by rw [beq_eq_false_iff_ne]; omega
  have q2 : ((s[p.pos].toNat : Int) == 43) = false := by rw [beq_eq_false_iff_ne]; omega
  have q3 : ((s[p.pos].toNat : Int) == 45) = false := by rw [beq_eq_false_iff_ne]; omega
  clear h1 h2 h3
  unfold rcV
  go_enter Tryd.func39, Tryd.ntmps39
  go_wp2
  exact bodyPost_ret (v := .tuple #[.agg #[.string s, .int .i64 (p.pos : Int), .bool (!p.bad)], .int .i64 z]) (by simp [results, Tryd.results39, go_sem]) rfl ⟨rt_rz (by first | rfl | exact (Int.natCast_add _ _).symm | (push_cast; rfl)) rfl, bl_trans (below_alloc _ _) (below_alloc _ _)⟩
set_option maxRecDepth 100000 in
set_option linter.unusedSimpArgs false in
set_option linter.unusedVariables false in
set_option maxHeartbeats 16000000 in
theorem rzone_sign43b (s : ByteArray) (p : CS) (z : Int) (hk : p.pos ≤ s.size) (hs : s.size ≤ 20000) (he : p.pos < s.size) (h1 : byN s p.pos = 43) (hbad : (zon3 s p).bad = true) (w : World) :
    Calls Tryd.prog 39 #[rcV s p, .int .i64 z] w fun e w' => e = .returned (.tuple #[rcV s p, .int .i64 z]) ∧ Below w.heap.size w w' := by
  have hbd : (!(zon3 s p).bad) = false := by rw [hbad]; rfl
  have d1 : ¬ s.size ≤ p.pos := by omega
  rw [byN_in s _ he] at h1
  have q1 : ((s[p.pos].toNat : Int) == 90) = false := by rw [beq_eq_false_iff_ne]; omega
  have q2 : ((s[p.pos].toNat : Int) == 43) = true := by rw [beq_iff_eq]; omega
  have q3 : ((s[p.pos].toNat : Int) == 45) = false := by rw [beq_eq_false_iff_ne]; omega
  have i0 : p.next.pos ≤ s.size := by show p.pos + 1 ≤ s.size; omega
  have i1 : (zon1 s p).pos ≤ s.size := digitsC_in i0
  have i2 : (zon2 s p).pos ≤ s.size := takeC_in i1 (by omega)
  have i3 : (zon3 s p).pos ≤ s.size := digitsC_in i2
  have hA : numC s p.next.pos 2 < 100 := numC_lt (b := 2) i0
  have hB : numC s (zon2 s p).pos 2 < 100 := numC_lt (b := 2) i2
  have N1 := fun W => rcV_number s p.next 2 2 i0 hs (by omega) (by omega) W
  have N2 := fun W => rcV_number s (zon2 s p) 2 2 i2 hs (by omega) (by omega) W
  rw [show digitsC s p.next 2 2 = zon1 s p from rfl] at N1
  rw [show digitsC s (zon2 s p) 2 2 = zon3 s p from rfl] at N2
  have HN := Lib.hid (And.intro N1 N2)
  clear N1 N2 h1 i0
  obtain ⟨A, hA2⟩ : ∃ A, numC s p.next.pos 2 = A := ⟨_, rfl⟩
  rw [hA2] at HN hA
  obtain ⟨B, hB2⟩ : ∃ B, numC s (zon2 s p).pos 2 = B := ⟨_, rfl⟩
  rw [hB2] at HN hB
  have HAB := Lib.hid (And.intro hA2 hB2)
  clear hA2 hB2
  unfold rcV CS.next at *
  simp only at HN
  push_cast at HN
  have RS0 := Lib.hid (show RZt s w.heap.size p p w ((((w.alloc (.cells #[.string s, .int .i64 (p.pos : Int), .bool (!p.bad)] 67)).alloc (.cells #[.string ⟨#[]⟩, .int .i64 0, .bool false] 67)).alloc (.cells #[.string s, .int .i64 (p.pos : Int), .bool (!p.bad)] 67))) from RZt.start s p w)
  obtain ⟨n, hn⟩ : ∃ n, w.heap.size = n := ⟨_, rfl⟩
  go_enter Tryd.func39, Tryd.ntmps39
  go_upto_region 11 with (fail)
  obtain ⟨X, hX⟩ : ∃ X, (((w.alloc (.cells #[.string s, .int .i64 (p.pos : Int), .bool (!p.bad)] 67)).alloc (.cells #[.string ⟨#[]⟩, .int .i64 0, .bool false] 67)).alloc (.cells #[.string s, .int .i64 (p.pos : Int), .bool (!p.bad)] 67)) = X := ⟨_, rfl⟩
  rw [hX, hn] at RS0
  try rw [hn]
  rw [hX]
  have HNN := Lib.hid hn
  clear hX hn
  obtain ⟨c0, c1, c2, g0, g1, g2⟩ := RS0.out.cf
  go_wp2_with fail
  refine (HN.out.1 _).mono ?_
  rintro e w1 ⟨rfl, hb1⟩
  clear c0 c1 c2 g0 g1 g2
  have RT1 := Lib.hid ((RS0.out.at (p.pos + 1)).below hb1)
  clear hb1 RS0
  obtain ⟨c0, c1, c2, g0, g1, g2⟩ := RT1.out.cf
  have RG1 : RZt s n p (zon1 s p) w (((w1.setCell ⟨n + 1 + 1, 0, none⟩ (.string s)).setCell ⟨n + 1 + 1, 1, none⟩ (.int .i64 ((zon1 s p).pos : Int))).setCell ⟨n + 1 + 1, 2, none⟩ (.bool (!(zon1 s p).bad))) := RT1.out.put (q' := zon1 s p)
  go_upto_region 13 with (fail)
  obtain ⟨W1, hW1⟩ : ∃ W, ((w1.setCell ⟨n + 1 + 1, 0, none⟩ (.string s)).setCell ⟨n + 1 + 1, 1, none⟩ (.int .i64 ((zon1 s p).pos : Int))).setCell ⟨n + 1 + 1, 2, none⟩ (.bool (!(zon1 s p).bad)) = W := ⟨_, rfl⟩
  rw [hW1] at RG1 ⊢
  have RS1 := Lib.hid RG1
  clear c0 c1 c2 g0 g1 g2 RG1 hW1 RT1
  obtain ⟨c0, c1, c2, g0, g1, g2⟩ := RS1.out.cf
  by_cases hz : (zon1 s p).pos < s.size
  · have dz : decide (((zon1 s p).pos : Int) < (s.size : Int)) = true := by rw [decide_eq_true_iff]; omega
    by_cases hc : byN s (zon1 s p).pos = 58
    · have e2 : zon2 s p = ⟨(zon1 s p).pos + 1, (zon1 s p).bad⟩ := by unfold zon2 takeC; rw [if_pos hc]; rfl
      rw [byN_in s _ hz] at hc
      have q4 : ((s[(zon1 s p).pos].toNat : Int) == 58) = true := by rw [beq_iff_eq]; omega
      rw [e2] at HN
      simp only at HN
      push_cast at HN
      clear hc e2
      go_wp2_with fail
      refine (HN.out.2 _).mono ?_
      rintro e w2 ⟨rfl, hb2⟩
      clear c0 c1 c2 g0 g1 g2
      have RT2 := Lib.hid ((RS1.out.at ((zon1 s p).pos + 1)).below hb2)
      clear hb2
      obtain ⟨c0, c1, c2, g0, g1, g2⟩ := RT2.out.cf
      have RG : RZt s n p (zon3 s p) w (((w2.setCell ⟨n + 1 + 1, 0, none⟩ (.string s)).setCell ⟨n + 1 + 1, 1, none⟩ (.int .i64 ((zon3 s p).pos : Int))).setCell ⟨n + 1 + 1, 2, none⟩ (.bool false)) := by
        have h := RT2.out.put (q' := zon3 s p)
        unfold rzput at h
        rw [hbd] at h
        exact h
      go_upto_region 16 with (fail)
      obtain ⟨W, hW⟩ : ∃ W, ((w2.setCell ⟨n + 1 + 1, 0, none⟩ (.string s)).setCell ⟨n + 1 + 1, 1, none⟩ (.int .i64 ((zon3 s p).pos : Int))).setCell ⟨n + 1 + 1, 2, none⟩ (.bool false) = W := ⟨_, rfl⟩
      rw [hW] at RG ⊢
      have RW := Lib.hid RG
      clear c0 c1 c2 g0 g1 g2 RG hW RS1 RT2
      obtain ⟨c0, c1, c2, g0, g1, g2⟩ := RW.out.cf
      rw [hbd] at c2
      have r0 := RW.out.r.cell 0
      have rf0 := RW.out.r.free 0
      have t0 := RW.out.t.cell 0
      have k0 := RW.out.c.cell 0
      have r1 := RW.out.r.cell 1
      have rf1 := RW.out.r.free 1
      have t1 := RW.out.t.cell 1
      have k1 := RW.out.c.cell 1
      have r2 := RW.out.r.cell 2
      have rf2 := RW.out.r.free 2
      have t2 := RW.out.t.cell 2
      have k2 := RW.out.c.cell 2
      simp only [rcA, List.getElem?_toArray, List.getElem?_cons_zero, List.getElem?_cons_succ] at r0 r1 r2 t0 t1 t2 k0 k1 k2
      rw [hbd] at t2
      have nn1 : n ≠ n + 1 := by omega
      have nn2 : n + 1 ≠ n := by omega
      have nn3 : n + 1 ≠ n + 1 + 1 := by omega
      have nn4 : n + 1 + 1 ≠ n + 1 := by omega
      go_wp2
      refine bodyPost_ret (v := .tuple #[.agg #[.string s, .int .i64 (p.pos : Int), .bool (!p.bad)], .int .i64 z]) (by simp [results, Tryd.results39, go_sem, r0, r1, r2, t0, t1, t2, k0, k1, k2]) rfl ⟨rfl, Below.mono (((RW.out.b.setCell (p := ⟨n + 1, 0, none⟩) (by show n ≤ n + 1; omega) _).setCell (p := ⟨n + 1, 1, none⟩) (by show n ≤ n + 1; omega) _).setCell (p := ⟨n + 1, 2, none⟩) (by show n ≤ n + 1; omega) _) (Nat.le_of_eq HNN.out)⟩
    · have e2 : zon2 s p = zon1 s p := by unfold zon2 takeC; rw [if_neg hc]
      rw [byN_in s _ hz] at hc
      have q4 : ((s[(zon1 s p).pos].toNat : Int) == 58) = false := by rw [beq_eq_false_iff_ne]; omega
      rw [e2] at HN
      clear hc e2
      go_wp2_with fail
      refine (HN.out.2 _).mono ?_
      rintro e w2 ⟨rfl, hb2⟩
      clear c0 c1 c2 g0 g1 g2
      have RT2 := Lib.hid (RS1.out.below hb2)
      clear hb2
      obtain ⟨c0, c1, c2, g0, g1, g2⟩ := RT2.out.cf
      have RG : RZt s n p (zon3 s p) w (((w2.setCell ⟨n + 1 + 1, 0, none⟩ (.string s)).setCell ⟨n + 1 + 1, 1, none⟩ (.int .i64 ((zon3 s p).pos : Int))).setCell ⟨n + 1 + 1, 2, none⟩ (.bool false)) := by
        have h := RT2.out.put (q' := zon3 s p)
        unfold rzput at h
        rw [hbd] at h
        exact h
      go_upto_region 16 with (fail)
      obtain ⟨W, hW⟩ : ∃ W, ((w2.setCell ⟨n + 1 + 1, 0, none⟩ (.string s)).setCell ⟨n + 1 + 1, 1, none⟩ (.int .i64 ((zon3 s p).pos : Int))).setCell ⟨n + 1 + 1, 2, none⟩ (.bool false) = W := ⟨_, rfl⟩
      rw [hW] at RG ⊢
      have RW := Lib.hid RG
      clear c0 c1 c2 g0 g1 g2 RG hW RS1 RT2
      obtain ⟨c0, c1, c2, g0, g1, g2⟩ := RW.out.cf
      rw [hbd] at c2
      have r0 := RW.out.r.cell 0
      have rf0 := RW.out.r.free 0
      have t0 := RW.out.t.cell 0
      have k0 := RW.out.c.cell 0
      have r1 := RW.out.r.cell 1
      have rf1 := RW.out.r.free 1
      have t1 := RW.out.t.cell 1
      have k1 := RW.out.c.cell 1
      have r2 := RW.out.r.cell 2
      have rf2 := RW.out.r.free 2
      have t2 := RW.out.t.cell 2
      have k2 := RW.out.c.cell 2
      simp only [rcA, List.getElem?_toArray, List.getElem?_cons_zero, List.getElem?_cons_succ] at r0 r1 r2 t0 t1 t2 k0 k1 k2
      rw [hbd] at t2
      have nn1 : n ≠ n + 1 := by omega
      have nn2 : n + 1 ≠ n := by omega
      have nn3 : n + 1 ≠ n + 1 + 1 := by omega
      have nn4 : n + 1 + 1 ≠ n + 1 := by omega
      go_wp2
      refine bodyPost_ret (v := .tuple #[.agg #[.string s, .int .i64 (p.pos : Int), .bool (!p.bad)], .int .i64 z]) (by simp [results, Tryd.results39, go_sem, r0, r1, r2, t0, t1, t2, k0, k1, k2]) rfl ⟨rfl, Below.mono (((RW.out.b.setCell (p := ⟨n + 1, 0, none⟩) (by show n ≤ n + 1; omega) _).setCell (p := ⟨n + 1, 1, none⟩) (by show n ≤ n + 1; omega) _).setCell (p := ⟨n + 1, 2, none⟩) (by show n ≤ n + 1; omega) _) (Nat.le_of_eq HNN.out)⟩
  · have dz : decide (((zon1 s p).pos : Int) < (s.size : Int)) = false := by rw [decide_eq_false_iff_not]; omega
    have e2 : zon2 s p = zon1 s p := by
      unfold zon2 takeC
      rw [if_neg (by rw [byN_out s _ hz]; omega)]
    rw [e2] at HN
    clear e2
    go_wp2_with fail
    refine (HN.out.2 _).mono ?_
    rintro e w2 ⟨rfl, hb2⟩
    clear c0 c1 c2 g0 g1 g2
    have RT2 := Lib.hid (RS1.out.below hb2)
    clear hb2
    obtain ⟨c0, c1, c2, g0, g1, g2⟩ := RT2.out.cf
    have RG : RZt s n p (zon3 s p) w (((w2.setCell ⟨n + 1 + 1, 0, none⟩ (.string s)).setCell ⟨n + 1 + 1, 1, none⟩ (.int .i64 ((zon3 s p).pos : Int))).setCell ⟨n + 1 + 1, 2, none⟩ (.bool false)) := by
      have h := RT2.out.put (q' := zon3 s p)
      unfold rzput at h
      rw [hbd] at h
      exact h
    go_upto_region 16 with (fail)
    obtain ⟨W, hW⟩ : ∃ W, ((w2.setCell ⟨n + 1 + 1, 0, none⟩ (.string s)).setCell ⟨n + 1 + 1, 1, none⟩ (.int .i64 ((zon3 s p).pos : Int))).setCell ⟨n + 1 + 1, 2, none⟩ (.bool false) = W := ⟨_, rfl⟩
    rw [hW] at RG ⊢
    have RW := Lib.hid RG
    clear c0 c1 c2 g0 g1 g2 RG hW RS1 RT2
    obtain ⟨c0, c1, c2, g0, g1, g2⟩ := RW.out.cf
    rw [hbd] at c2
    have r0 := RW.out.r.cell 0
    have rf0 := RW.out.r.free 0
    have t0 := RW.out.t.cell 0
    have k0 := RW.out.c.cell 0
    have r1 := RW.out.r.cell 1
    have rf1 := RW.out.r.free 1
    have t1 := RW.out.t.cell 1
    have k1 := RW.out.c.cell 1
    have r2 := RW.out.r.cell 2
    have rf2 := RW.out.r.free 2
    have t2 := RW.out.t.cell 2
    have k2 := RW.out.c.cell 2
    simp only [rcA, List.getElem?_toArray, List.getElem?_cons_zero, List.getElem?_cons_succ] at r0 r1 r2 t0 t1 t2 k0 k1 k2
    rw [hbd] at t2
    have nn1 : n ≠ n + 1 := by omega
    have nn2 : n + 1 ≠ n := by omega
    have nn3 : n + 1 ≠ n + 1 + 1 := by omega
    have nn4 : n + 1 + 1 ≠ n + 1 := by omega
    go_wp2
    refine bodyPost_ret (v := .tuple #[.agg #[.string s, .int .i64 (p.pos : Int), .bool (!p.bad)], .int .i64 z]) (by simp [results, Tryd.results39, go_sem, r0, r1, r2, t0, t1, t2, k0, k1, k2]) rfl ⟨rfl, Below.mono (((RW.out.b.setCell (p := ⟨n + 1, 0, none⟩) (by show n ≤ n + 1; omega) _).setCell (p := ⟨n + 1, 1, none⟩) (by show n ≤ n + 1; omega) _).setCell (p := ⟨n + 1, 2, none⟩) (by show n ≤ n + 1; omega) _) (Nat.le_of_eq HNN.out)⟩
set_option maxRecDepth 100000 in
set_option linter.unusedSimpArgs false in
set_option linter.unusedVariables false in
set_option maxHeartbeats 16000000 in
theorem rzone_sign43 (s : ByteArray) (p : CS) (z : Int) (hk : p.pos ≤ s.size) (hs : s.size ≤ 20000) (he : p.pos < s.size) (h1 : byN s p.pos = 43) (hbad : (zon3 s p).bad = false) (w : World) :
    Calls Tryd.prog 39 #[rcV s p, .int .i64 z] w fun e w' => e = .returned (.tuple #[rcV s (zon3 s p), .int .i64 (zonN s p)]) ∧ Below w.heap.size w w' := by
  have hbd : (!(zon3 s p).bad) = true := by rw [hbad]; rfl
  have d1 : ¬ s.size ≤ p.pos := by omega
  rw [byN_in s _ he] at h1
  have q1 : ((s[p.pos].toNat : Int) == 90) = false := by rw [beq_eq_false_iff_ne]; omega
  have q2 : ((s[p.pos].toNat : Int) == 43) = true := by rw [beq_iff_eq]; omega
  have q3 : ((s[p.pos].toNat : Int) == 45) = false := by rw [beq_eq_false_iff_ne]; omega
  have i0 : p.next.pos ≤ s.size := by show p.pos + 1 ≤ s.size; omega
  have i1 : (zon1 s p).pos ≤ s.size := digitsC_in i0
  have i2 : (zon2 s p).pos ≤ s.size := takeC_in i1 (by omega)
  have i3 : (zon3 s p).pos ≤ s.size := digitsC_in i2
  have hA : numC s p.next.pos 2 < 100 := numC_lt (b := 2) i0
  have hB : numC s (zon2 s p).pos 2 < 100 := numC_lt (b := 2) i2
  have N1 := fun W => rcV_number s p.next 2 2 i0 hs (by omega) (by omega) W
  have N2 := fun W => rcV_number s (zon2 s p) 2 2 i2 hs (by omega) (by omega) W
  rw [show digitsC s p.next 2 2 = zon1 s p from rfl] at N1
  rw [show digitsC s (zon2 s p) 2 2 = zon3 s p from rfl] at N2
  have HN := Lib.hid (And.intro N1 N2)
  clear N1 N2 h1 i0
  obtain ⟨A, hA2⟩ : ∃ A, numC s p.next.pos 2 = A := ⟨_, rfl⟩
  rw [hA2] at HN hA
  obtain ⟨B, hB2⟩ : ∃ B, numC s (zon2 s p).pos 2 = B := ⟨_, rfl⟩
  rw [hB2] at HN hB
  have HAB := Lib.hid (And.intro hA2 hB2)
  clear hA2 hB2
  unfold rcV CS.next at *
  simp only at HN
  push_cast at HN
  have RS0 := Lib.hid (show RZt s w.heap.size p p w ((((w.alloc (.cells #[.string s, .int .i64 (p.pos : Int), .bool (!p.bad)] 67)).alloc (.cells #[.string ⟨#[]⟩, .int .i64 0, .bool false] 67)).alloc (.cells #[.string s, .int .i64 (p.pos : Int), .bool (!p.bad)] 67))) from RZt.start s p w)
  obtain ⟨n, hn⟩ : ∃ n, w.heap.size = n := ⟨_, rfl⟩
  go_enter Tryd.func39, Tryd.ntmps39
  go_upto_region 11 with (fail)
  obtain ⟨X, hX⟩ : ∃ X, (((w.alloc (.cells #[.string s, .int .i64 (p.pos : Int), .bool (!p.bad)] 67)).alloc (.cells #[.string ⟨#[]⟩, .int .i64 0, .bool false] 67)).alloc (.cells #[.string s, .int .i64 (p.pos : Int), .bool (!p.bad)] 67)) = X := ⟨_, rfl⟩
  rw [hX, hn] at RS0
  try rw [hn]
  rw [hX]
  have HNN := Lib.hid hn
  clear hX hn
  obtain ⟨c0, c1, c2, g0, g1, g2⟩ := RS0.out.cf
  go_wp2_with fail
  refine (HN.out.1 _).mono ?_
  rintro e w1 ⟨rfl, hb1⟩
  clear c0 c1 c2 g0 g1 g2
  have RT1 := Lib.hid ((RS0.out.at (p.pos + 1)).below hb1)
  clear hb1 RS0
  obtain ⟨c0, c1, c2, g0, g1, g2⟩ := RT1.out.cf
  have RG1 : RZt s n p (zon1 s p) w (((w1.setCell ⟨n + 1 + 1, 0, none⟩ (.string s)).setCell ⟨n + 1 + 1, 1, none⟩ (.int .i64 ((zon1 s p).pos : Int))).setCell ⟨n + 1 + 1, 2, none⟩ (.bool (!(zon1 s p).bad))) := RT1.out.put (q' := zon1 s p)
  go_upto_region 13 with (fail)
  obtain ⟨W1, hW1⟩ : ∃ W, ((w1.setCell ⟨n + 1 + 1, 0, none⟩ (.string s)).setCell ⟨n + 1 + 1, 1, none⟩ (.int .i64 ((zon1 s p).pos : Int))).setCell ⟨n + 1 + 1, 2, none⟩ (.bool (!(zon1 s p).bad)) = W := ⟨_, rfl⟩
  rw [hW1] at RG1 ⊢
  have RS1 := Lib.hid RG1
  clear c0 c1 c2 g0 g1 g2 RG1 hW1 RT1
  obtain ⟨c0, c1, c2, g0, g1, g2⟩ := RS1.out.cf
  by_cases hz : (zon1 s p).pos < s.size
  · have dz : decide (((zon1 s p).pos : Int) < (s.size : Int)) = true := by rw [decide_eq_true_iff]; omega
    by_cases hc : byN s (zon1 s p).pos = 58
    · have e2 : zon2 s p = ⟨(zon1 s p).pos + 1, (zon1 s p).bad⟩ := by unfold zon2 takeC; rw [if_pos hc]; rfl
      rw [byN_in s _ hz] at hc
      have q4 : ((s[(zon1 s p).pos].toNat : Int) == 58) = true := by rw [beq_iff_eq]; omega
      rw [e2] at HN
      simp only at HN
      push_cast at HN
      clear hc e2
      go_wp2_with fail
      refine (HN.out.2 _).mono ?_
      rintro e w2 ⟨rfl, hb2⟩
      clear c0 c1 c2 g0 g1 g2
      have RT2 := Lib.hid ((RS1.out.at ((zon1 s p).pos + 1)).below hb2)
      clear hb2
      obtain ⟨c0, c1, c2, g0, g1, g2⟩ := RT2.out.cf
      have RG : RZt s n p (zon3 s p) w (((w2.setCell ⟨n + 1 + 1, 0, none⟩ (.string s)).setCell ⟨n + 1 + 1, 1, none⟩ (.int .i64 ((zon3 s p).pos : Int))).setCell ⟨n + 1 + 1, 2, none⟩ (.bool true)) := by
        have h := RT2.out.put (q' := zon3 s p)
        unfold rzput at h
        rw [hbd] at h
        exact h
      go_upto_region 16 with (fail)
      obtain ⟨W, hW⟩ : ∃ W, ((w2.setCell ⟨n + 1 + 1, 0, none⟩ (.string s)).setCell ⟨n + 1 + 1, 1, none⟩ (.int .i64 ((zon3 s p).pos : Int))).setCell ⟨n + 1 + 1, 2, none⟩ (.bool true) = W := ⟨_, rfl⟩
      rw [hW] at RG ⊢
      have RW := Lib.hid RG
      clear c0 c1 c2 g0 g1 g2 RG hW RS1 RT2
      obtain ⟨c0, c1, c2, g0, g1, g2⟩ := RW.out.cf
      rw [hbd] at c2
      have r0 := RW.out.r.cell 0
      have rf0 := RW.out.r.free 0
      have t0 := RW.out.t.cell 0
      have k0 := RW.out.c.cell 0
      have r1 := RW.out.r.cell 1
      have rf1 := RW.out.r.free 1
      have t1 := RW.out.t.cell 1
      have k1 := RW.out.c.cell 1
      have r2 := RW.out.r.cell 2
      have rf2 := RW.out.r.free 2
      have t2 := RW.out.t.cell 2
      have k2 := RW.out.c.cell 2
      simp only [rcA, List.getElem?_toArray, List.getElem?_cons_zero, List.getElem?_cons_succ] at r0 r1 r2 t0 t1 t2 k0 k1 k2
      rw [hbd] at t2
      have nn1 : n ≠ n + 1 := by omega
      have nn2 : n + 1 ≠ n := by omega
      have nn3 : n + 1 ≠ n + 1 + 1 := by omega
      have nn4 : n + 1 + 1 ≠ n + 1 := by omega
      go_wp2
      refine bodyPost_ret (v := .tuple #[.agg #[.string s, .int .i64 ((zon3 s p).pos : Int), .bool true], .int .i64 (60 * (A : Int) + (B : Int))]) (by simp [results, Tryd.results39, go_sem, r0, r1, r2, t0, t1, t2, k0, k1, k2]) rfl ⟨(by unfold zonN; rw [show numC s p.next.pos 2 = A from HAB.out.1, HAB.out.2, hbd]), Below.mono (((RW.out.b.setCell (p := ⟨n + 1, 0, none⟩) (by show n ≤ n + 1; omega) _).setCell (p := ⟨n + 1, 1, none⟩) (by show n ≤ n + 1; omega) _).setCell (p := ⟨n + 1, 2, none⟩) (by show n ≤ n + 1; omega) _) (Nat.le_of_eq HNN.out)⟩
    · have e2 : zon2 s p = zon1 s p := by unfold zon2 takeC; rw [if_neg hc]
      rw [byN_in s _ hz] at hc
      have q4 : ((s[(zon1 s p).pos].toNat : Int) == 58) = false := by rw [beq_eq_false_iff_ne]; omega
      rw [e2] at HN
      clear hc e2
      go_wp2_with fail
      refine (HN.out.2 _).mono ?_
      rintro e w2 ⟨rfl, hb2⟩
      clear c0 c1 c2 g0 g1 g2
      have RT2 := Lib.hid (RS1.out.below hb2)
      clear hb2
      obtain ⟨c0, c1, c2, g0, g1, g2⟩ := RT2.out.cf
      have RG : RZt s n p (zon3 s p) w (((w2.setCell ⟨n + 1 + 1, 0, none⟩ (.string s)).setCell ⟨n + 1 + 1, 1, none⟩ (.int .i64 ((zon3 s p).pos : Int))).setCell ⟨n + 1 + 1, 2, none⟩ (.bool true)) := by
        have h := RT2.out.put (q' := zon3 s p)
        unfold rzput at h
        rw [hbd] at h
        exact h
      go_upto_region 16 with (fail)
      obtain ⟨W, hW⟩ : ∃ W, ((w2.setCell ⟨n + 1 + 1, 0, none⟩ (.string s)).setCell ⟨n + 1 + 1, 1, none⟩ (.int .i64 ((zon3 s p).pos : Int))).setCell ⟨n + 1 + 1, 2, none⟩ (.bool true) = W := ⟨_, rfl⟩
      rw [hW] at RG ⊢
      have RW := Lib.hid RG
      clear c0 c1 c2 g0 g1 g2 RG hW RS1 RT2
      obtain ⟨c0, c1, c2, g0, g1, g2⟩ := RW.out.cf
      rw [hbd] at c2
      have r0 := RW.out.r.cell 0
      have rf0 := RW.out.r.free 0
      have t0 := RW.out.t.cell 0
      have k0 := RW.out.c.cell 0
      have r1 := RW.out.r.cell 1
      have rf1 := RW.out.r.free 1
      have t1 := RW.out.t.cell 1
      have k1 := RW.out.c.cell 1
      have r2 := RW.out.r.cell 2
      have rf2 := RW.out.r.free 2
      have t2 := RW.out.t.cell 2
      have k2 := RW.out.c.cell 2
      simp only [rcA, List.getElem?_toArray, List.getElem?_cons_zero, List.getElem?_cons_succ] at r0 r1 r2 t0 t1 t2 k0 k1 k2
      rw [hbd] at t2
      have nn1 : n ≠ n + 1 := by omega
      have nn2 : n + 1 ≠ n := by omega
      have nn3 : n + 1 ≠ n + 1 + 1 := by omega
      have nn4 : n + 1 + 1 ≠ n + 1 := by omega
      go_wp2
      refine bodyPost_ret (v := .tuple #[.agg #[.string s, .int .i64 ((zon3 s p).pos : Int), .bool true], .int .i64 (60 * (A : Int) + (B : Int))]) (by simp [results, Tryd.results39, go_sem, r0, r1, r2, t0, t1, t2, k0, k1, k2]) rfl ⟨(by unfold zonN; rw [show numC s p.next.pos 2 = A from HAB.out.1, HAB.out.2, hbd]), Below.mono (((RW.out.b.setCell (p := ⟨n + 1, 0, none⟩) (by show n ≤ n + 1; omega) _).setCell (p := ⟨n + 1, 1, none⟩) (by show n ≤ n + 1; omega) _).setCell (p := ⟨n + 1, 2, none⟩) (by show n ≤ n + 1; omega) _) (Nat.le_of_eq HNN.out)⟩
  · have dz : decide (((zon1 s p).pos : Int) < (s.size : Int)) = false := by rw [decide_eq_false_iff_not]; omega
    have e2 : zon2 s p = zon1 s p := by
      unfold zon2 takeC
      rw [if_neg (by rw [byN_out s _ hz]; omega)]
    rw [e2] at HN
    clear e2
    go_wp2_with fail
    refine (HN.out.2 _).mono ?_
    rintro e w2 ⟨rfl, hb2⟩
    clear c0 c1 c2 g0 g1 g2
    have RT2 := Lib.hid (RS1.out.below hb2)
    clear hb2
    obtain ⟨c0, c1, c2, g0, g1, g2⟩ := RT2.out.cf
    have RG : RZt s n p (zon3 s p) w (((w2.setCell ⟨n + 1 + 1, 0, none⟩ (.string s)).setCell ⟨n + 1 + 1, 1, none⟩ (.int .i64 ((zon3 s p).pos : Int))).setCell ⟨n + 1 + 1, 2, none⟩ (.bool true)) := by
      have h := RT2.out.put (q' := zon3 s p)
      unfold rzput at h
      rw [hbd] at h
      exact h
    go_upto_region 16 with (fail)
    obtain ⟨W, hW⟩ : ∃ W, ((w2.setCell ⟨n + 1 + 1, 0, none⟩ (.string s)).setCell ⟨n + 1 + 1, 1, none⟩ (.int .i64 ((zon3 s p).pos : Int))).setCell ⟨n + 1 + 1, 2, none⟩ (.bool true) = W := ⟨_, rfl⟩
    rw [hW] at RG ⊢
    have RW := Lib.hid RG
    clear c0 c1 c2 g0 g1 g2 RG hW RS1 RT2
    obtain ⟨c0, c1, c2, g0, g1, g2⟩ := RW.out.cf
    rw [hbd] at c2
    have r0 := RW.out.r.cell 0
    have rf0 := RW.out.r.free 0
    have t0 := RW.out.t.cell 0
    have k0 := RW.out.c.cell 0
    have r1 := RW.out.r.cell 1
    have rf1 := RW.out.r.free 1
    have t1 := RW.out.t.cell 1
    have k1 := RW.out.c.cell 1
    have r2 := RW.out.r.cell 2
    have rf2 := RW.out.r.free 2
    have t2 := RW.out.t.cell 2
    have k2 := RW.out.c.cell 2
    simp only [rcA, List.getElem?_toArray, List.getElem?_cons_zero, List.getElem?_cons_succ] at r0 r1 r2 t0 t1 t2 k0 k1 k2
    rw [hbd] at t2
    have nn1 : n ≠ n + 1 := by omega
    have nn2 : n + 1 ≠ n := by omega
    have nn3 : n + 1 ≠ n + 1 + 1 := by omega
    have nn4 : n + 1 + 1 ≠ n + 1 := by omega
    go_wp2
    refine bodyPost_ret (v := .tuple #[.agg #[.string s, .int .i64 ((zon3 s p).pos : Int), .bool true], .int .i64 (60 * (A : Int) + (B : Int))]) (by simp [results, Tryd.results39, go_sem, r0, r1, r2, t0, t1, t2, k0, k1, k2]) rfl ⟨(by unfold zonN; rw [show numC s p.next.pos 2 = A from HAB.out.1, HAB.out.2, hbd]), Below.mono (((RW.out.b.setCell (p := ⟨n + 1, 0, none⟩) (by show n ≤ n + 1; omega) _).setCell (p := ⟨n + 1, 1, none⟩) (by show n ≤ n + 1; omega) _).setCell (p := ⟨n + 1, 2, none⟩) (by show n ≤ n + 1; omega) _) (Nat.le_of_eq HNN.out)⟩
set_option maxRecDepth 100000 in
set_option linter.unusedSimpArgs false in
set_option linter.unusedVariables false in
set_option maxHeartbeats 16000000 in
theorem rzone_sign45b (s : ByteArray) (p : CS) (z : Int) (hk : p.pos ≤ s.size) (hs : s.size ≤ 20000) (he : p.pos < s.size) (h1 : byN s p.pos = 45) (hbad : (zon3 s p).bad = true) (w : World) :
    Calls Tryd.prog 39 #[rcV s p, .int .i64 z] w fun e w' => e = .returned (.tuple #[rcV s p, .int .i64 z]) ∧ Below w.heap.size w w' := by
  have hbd : (!(zon3 s p).bad) = false := by rw [hbad]; rfl
  have d1 : ¬ s.size ≤ p.pos := by omega
  rw [byN_in s _ he] at h1
  have q1 : ((s[p.pos].toNat : Int) == 90) = false := by rw [beq_eq_false_iff_ne]; omega
  have q2 : ((s[p.pos].toNat : Int) == 43) = false := by rw [beq_eq_false_iff_ne]; omega
  have q3 : ((s[p.pos].toNat : Int) == 45) = true := by rw [beq_iff_eq]; omega
  have i0 : p.next.pos ≤ s.size := by show p.pos + 1 ≤ s.size; omega
  have i1 : (zon1 s p).pos ≤ s.size := digitsC_in i0
  have i2 : (zon2 s p).pos ≤ s.size := takeC_in i1 (by omega)
  have i3 : (zon3 s p).pos ≤ s.size := digitsC_in i2
  have hA : numC s p.next.pos 2 < 100 := numC_lt (b := 2) i0
  have hB : numC s (zon2 s p).pos 2 < 100 := numC_lt (b := 2) i2
  have N1 := fun W => rcV_number s p.next 2 2 i0 hs (by omega) (by omega) W
  have N2 := fun W => rcV_number s (zon2 s p) 2 2 i2 hs (by omega) (by omega) W
  rw [show digitsC s p.next 2 2 = zon1 s p from rfl] at N1
  rw [show digitsC s (zon2 s p) 2 2 = zon3 s p from rfl] at N2
  have HN := Lib.hid (And.intro N1 N2)
  clear N1 N2 h1 i0
  obtain ⟨A, hA2⟩ : ∃ A, numC s p.next.pos 2 = A := ⟨_, rfl⟩
  rw [hA2] at HN hA
  obtain ⟨B, hB2⟩ : ∃ B, numC s (zon2 s p).pos 2 = B := ⟨_, rfl⟩
  rw [hB2] at HN hB
  have HAB := Lib.hid (And.intro hA2 hB2)
  clear hA2 hB2
  unfold rcV CS.next at *
  simp only at HN
  push_cast at HN
  have RS0 := Lib.hid (show RZt s w.heap.size p p w ((((w.alloc (.cells #[.string s, .int .i64 (p.pos : Int), .bool (!p.bad)] 67)).alloc (.cells #[.string ⟨#[]⟩, .int .i64 0, .bool false] 67)).alloc (.cells #[.string s, .int .i64 (p.pos : Int), .bool (!p.bad)] 67))) from RZt.start s p w)
  obtain ⟨n, hn⟩ : ∃ n, w.heap.size = n := ⟨_, rfl⟩
  go_enter Tryd.func39, Tryd.ntmps39
  go_upto_region 11 with (fail)
  obtain ⟨X, hX⟩ : ∃ X, (((w.alloc (.cells #[.string s, .int .i64 (p.pos : Int), .bool (!p.bad)] 67)).alloc (.cells #[.string ⟨#[]⟩, .int .i64 0, .bool false] 67)).alloc (.cells #[.string s, .int .i64 (p.pos : Int), .bool (!p.bad)] 67)) = X := ⟨_, rfl⟩
  rw [hX, hn] at RS0
  try rw [hn]
  rw [hX]
  have HNN := Lib.hid hn
  clear hX hn
  obtain ⟨c0, c1, c2, g0, g1, g2⟩ := RS0.out.cf
  go_wp2_with fail
  refine (HN.out.1 _).mono ?_
  rintro e w1 ⟨rfl, hb1⟩
  clear c0 c1 c2 g0 g1 g2
  have RT1 := Lib.hid ((RS0.out.at (p.pos + 1)).below hb1)
  clear hb1 RS0
  obtain ⟨c0, c1, c2, g0, g1, g2⟩ := RT1.out.cf
  have RG1 : RZt s n p (zon1 s p) w (((w1.setCell ⟨n + 1 + 1, 0, none⟩ (.string s)).setCell ⟨n + 1 + 1, 1, none⟩ (.int .i64 ((zon1 s p).pos : Int))).setCell ⟨n + 1 + 1, 2, none⟩ (.bool (!(zon1 s p).bad))) := RT1.out.put (q' := zon1 s p)
  go_upto_region 13 with (fail)
  obtain ⟨W1, hW1⟩ : ∃ W, ((w1.setCell ⟨n + 1 + 1, 0, none⟩ (.string s)).setCell ⟨n + 1 + 1, 1, none⟩ (.int .i64 ((zon1 s p).pos : Int))).setCell ⟨n + 1 + 1, 2, none⟩ (.bool (!(zon1 s p).bad)) = W := ⟨_, rfl⟩
  rw [hW1] at RG1 ⊢
  have RS1 := Lib.hid RG1
  clear c0 c1 c2 g0 g1 g2 RG1 hW1 RT1
  obtain ⟨c0, c1, c2, g0, g1, g2⟩ := RS1.out.cf
  by_cases hz : (zon1 s p).pos < s.size
  · have dz : decide (((zon1 s p).pos : Int) < (s.size : Int)) = true := by rw [decide_eq_true_iff]; omega
    by_cases hc : byN s (zon1 s p).pos = 58
    · have e2 : zon2 s p = ⟨(zon1 s p).pos + 1, (zon1 s p).bad⟩ := by unfold zon2 takeC; rw [if_pos hc]; rfl
      rw [byN_in s _ hz] at hc
      have q4 : ((s[(zon1 s p).pos].toNat : Int) == 58) = true := by rw [beq_iff_eq]; omega
      rw [e2] at HN
      simp only at HN
      push_cast at HN
      clear hc e2
      go_wp2_with fail
      refine (HN.out.2 _).mono ?_
      rintro e w2 ⟨rfl, hb2⟩
      clear c0 c1 c2 g0 g1 g2
      have RT2 := Lib.hid ((RS1.out.at ((zon1 s p).pos + 1)).below hb2)
      clear hb2
      obtain ⟨c0, c1, c2, g0, g1, g2⟩ := RT2.out.cf
      have RG : RZt s n p (zon3 s p) w (((w2.setCell ⟨n + 1 + 1, 0, none⟩ (.string s)).setCell ⟨n + 1 + 1, 1, none⟩ (.int .i64 ((zon3 s p).pos : Int))).setCell ⟨n + 1 + 1, 2, none⟩ (.bool false)) := by
        have h := RT2.out.put (q' := zon3 s p)
        unfold rzput at h
        rw [hbd] at h
        exact h
      go_upto_region 16 with (fail)
      obtain ⟨W, hW⟩ : ∃ W, ((w2.setCell ⟨n + 1 + 1, 0, none⟩ (.string s)).setCell ⟨n + 1 + 1, 1, none⟩ (.int .i64 ((zon3 s p).pos : Int))).setCell ⟨n + 1 + 1, 2, none⟩ (.bool false) = W := ⟨_, rfl⟩
      rw [hW] at RG ⊢
      have RW := Lib.hid RG
      clear c0 c1 c2 g0 g1 g2 RG hW RS1 RT2
      obtain ⟨c0, c1, c2, g0, g1, g2⟩ := RW.out.cf
      rw [hbd] at c2
      have r0 := RW.out.r.cell 0
      have rf0 := RW.out.r.free 0
      have t0 := RW.out.t.cell 0
      have k0 := RW.out.c.cell 0
      have r1 := RW.out.r.cell 1
      have rf1 := RW.out.r.free 1
      have t1 := RW.out.t.cell 1
      have k1 := RW.out.c.cell 1
      have r2 := RW.out.r.cell 2
      have rf2 := RW.out.r.free 2
      have t2 := RW.out.t.cell 2
      have k2 := RW.out.c.cell 2
      simp only [rcA, List.getElem?_toArray, List.getElem?_cons_zero, List.getElem?_cons_succ] at r0 r1 r2 t0 t1 t2 k0 k1 k2
      rw [hbd] at t2
      have nn1 : n ≠ n + 1 := by omega
      have nn2 : n + 1 ≠ n := by omega
      have nn3 : n + 1 ≠ n + 1 + 1 := by omega
      have nn4 : n + 1 + 1 ≠ n + 1 := by omega
      go_wp2
      refine bodyPost_ret (v := .tuple #[.agg #[.string s, .int .i64 (p.pos : Int), .bool (!p.bad)], .int .i64 z]) (by simp [results, Tryd.results39, go_sem, r0, r1, r2, t0, t1, t2, k0, k1, k2]) rfl ⟨rfl, Below.mono (((RW.out.b.setCell (p := ⟨n + 1, 0, none⟩) (by show n ≤ n + 1; omega) _).setCell (p := ⟨n + 1, 1, none⟩) (by show n ≤ n + 1; omega) _).setCell (p := ⟨n + 1, 2, none⟩) (by show n ≤ n + 1; omega) _) (Nat.le_of_eq HNN.out)⟩
    · have e2 : zon2 s p = zon1 s p := by unfold zon2 takeC; rw [if_neg hc]
      rw [byN_in s _ hz] at hc
      have q4 : ((s[(zon1 s p).pos].toNat : Int) == 58) = false := by rw [beq_eq_false_iff_ne]; omega
      rw [e2] at HN
      clear hc e2
      go_wp2_with fail
      refine (HN.out.2 _).mono ?_
      rintro e w2 ⟨rfl, hb2⟩
      clear c0 c1 c2 g0 g1 g2
      have RT2 := Lib.hid (RS1.out.below hb2)
      clear hb2
      obtain ⟨c0, c1, c2, g0, g1, g2⟩ := RT2.out.cf
      have RG : RZt s n p (zon3 s p) w (((w2.setCell ⟨n + 1 + 1, 0, none⟩ (.string s)).setCell ⟨n + 1 + 1, 1, none⟩ (.int .i64 ((zon3 s p).pos : Int))).setCell ⟨n + 1 + 1, 2, none⟩ (.bool false)) := by
        have h := RT2.out.put (q' := zon3 s p)
        unfold rzput at h
        rw [hbd] at h
        exact h
      go_upto_region 16 with (fail)
      obtain ⟨W, hW⟩ : ∃ W, ((w2.setCell ⟨n + 1 + 1, 0, none⟩ (.string s)).setCell ⟨n + 1 + 1, 1, none⟩ (.int .i64 ((zon3 s p).pos : Int))).setCell ⟨n + 1 + 1, 2, none⟩ (.bool false) = W := ⟨_, rfl⟩
      rw [hW] at RG ⊢
      have RW := Lib.hid RG
      clear c0 c1 c2 g0 g1 g2 RG hW RS1 RT2
      obtain ⟨c0, c1, c2, g0, g1, g2⟩ := RW.out.cf
      rw [hbd] at c2
      have r0 := RW.out.r.cell 0
      have rf0 := RW.out.r.free 0
      have t0 := RW.out.t.cell 0
      have k0 := RW.out.c.cell 0
      have r1 := RW.out.r.cell 1
      have rf1 := RW.out.r.free 1
      have t1 := RW.out.t.cell 1
      have k1 := RW.out.c.cell 1
      have r2 := RW.out.r.cell 2
      have rf2 := RW.out.r.free 2
      have t2 := RW.out.t.cell 2
      have k2 := RW.out.c.cell 2
      simp only [rcA, List.getElem?_toArray, List.getElem?_cons_zero, List.getElem?_cons_succ] at r0 r1 r2 t0 t1 t2 k0 k1 k2
      rw [hbd] at t2
      have nn1 : n ≠ n + 1 := by omega
      have nn2 : n + 1 ≠ n := by omega
      have nn3 : n + 1 ≠ n + 1 + 1 := by omega
      have nn4 : n + 1 + 1 ≠ n + 1 := by omega
      go_wp2
      refine bodyPost_ret (v := .tuple #[.agg #[.string s, .int .i64 (p.pos : Int), .bool (!p.bad)], .int .i64 z]) (by simp [results, Tryd.results39, go_sem, r0, r1, r2, t0, t1, t2, k0, k1, k2]) rfl ⟨rfl, Below.mono (((RW.out.b.setCell (p := ⟨n + 1, 0, none⟩) (by show n ≤ n + 1; omega) _).setCell (p := ⟨n + 1, 1, none⟩) (by show n ≤ n + 1; omega) _).setCell (p := ⟨n + 1, 2, none⟩) (by show n ≤ n + 1; omega) _) (Nat.le_of_eq HNN.out)⟩
  · have dz : decide (((zon1 s p).pos : Int) < (s.size : Int)) = false := by rw [decide_eq_false_iff_not]; omega
    have e2 : zon2 s p = zon1 s p := by
      unfold zon2 takeC
      rw [if_neg (by rw [byN_out s _ hz]; omega)]
    rw [e2] at HN
    clear e2
    go_wp2_with fail
    refine (HN.out.2 _).mono ?_
    rintro e w2 ⟨rfl, hb2⟩
    clear c0 c1 c2 g0 g1 g2
    have RT2 := Lib.hid (RS1.out.below hb2)
    clear hb2
    obtain ⟨c0, c1, c2, g0, g1, g2⟩ := RT2.out.cf
    have RG : RZt s n p (zon3 s p) w (((w2.setCell ⟨n + 1 + 1, 0, none⟩ (.string s)).setCell ⟨n + 1 + 1, 1, none⟩ (.int .i64 ((zon3 s p).pos : Int))).setCell ⟨n + 1 + 1, 2, none⟩ (.bool false)) := by
      have h := RT2.out.put (q' := zon3 s p)
      unfold rzput at h
      rw [hbd] at h
      exact h
    go_upto_region 16 with (fail)
    obtain ⟨W, hW⟩ : ∃ W, ((w2.setCell ⟨n + 1 + 1, 0, none⟩ (.string s)).setCell ⟨n + 1 + 1, 1, none⟩ (.int .i64 ((zon3 s p).pos : Int))).setCell ⟨n + 1 + 1, 2, none⟩ (.bool false) = W := ⟨_, rfl⟩
    rw [hW] at RG ⊢
    have RW := Lib.hid RG
    clear c0 c1 c2 g0 g1 g2 RG hW RS1 RT2
    obtain ⟨c0, c1, c2, g0, g1, g2⟩ := RW.out.cf
    rw [hbd] at c2
    have r0 := RW.out.r.cell 0
    have rf0 := RW.out.r.free 0
    have t0 := RW.out.t.cell 0
    have k0 := RW.out.c.cell 0
    have r1 := RW.out.r.cell 1
    have rf1 := RW.out.r.free 1
    have t1 := RW.out.t.cell 1
    have k1 := RW.out.c.cell 1
    have r2 := RW.out.r.cell 2
    have rf2 := RW.out.r.free 2
    have t2 := RW.out.t.cell 2
    have k2 := RW.out.c.cell 2
    simp only [rcA, List.getElem?_toArray, List.getElem?_cons_zero, List.getElem?_cons_succ] at r0 r1 r2 t0 t1 t2 k0 k1 k2
    rw [hbd] at t2
    have nn1 : n ≠ n + 1 := by omega
    have nn2 : n + 1 ≠ n := by omega
    have nn3 : n + 1 ≠ n + 1 + 1 := by omega
    have nn4 : n + 1 + 1 ≠ n + 1 := by omega
    go_wp2
    refine bodyPost_ret (v := .tuple #[.agg #[.string s, .int .i64 (p.pos : Int), .bool (!p.bad)], .int .i64 z]) (by simp [results, Tryd.results39, go_sem, r0, r1, r2, t0, t1, t2, k0, k1, k2]) rfl ⟨rfl, Below.mono (((RW.out.b.setCell (p := ⟨n + 1, 0, none⟩) (by show n ≤ n + 1; omega) _).setCell (p := ⟨n + 1, 1, none⟩) (by show n ≤ n + 1; omega) _).setCell (p := ⟨n + 1, 2, none⟩) (by show n ≤ n + 1; omega) _) (Nat.le_of_eq HNN.out)⟩
set_option maxRecDepth 100000 in
set_option linter.unusedSimpArgs false in
set_option linter.unusedVariables false in
set_option maxHeartbeats 16000000 in
theorem rzone_sign45 (s : ByteArray) (p : CS) (z : Int) (hk : p.pos ≤ s.size) (hs : s.size ≤ 20000) (he : p.pos < s.size) (h1 : byN s p.pos = 45) (hbad : (zon3 s p).bad = false) (w : World) :
    Calls Tryd.prog 39 #[rcV s p, .int .i64 z] w fun e w' => e = .returned (.tuple #[rcV s (zon3 s p), .int .i64 (-(zonN s p))]) ∧ Below w.heap.size w w' := by
  have hbd : (!(zon3 s p).bad) = true := by rw [hbad]; rfl
  have d1 : ¬ s.size ≤ p.pos := by omega
  rw [byN_in s _ he] at h1
  have q1 : ((s[p.pos].toNat : Int) == 90) = false := by rw [beq_eq_false_iff_ne]; omega
  have q2 : ((s[p.pos].toNat : Int) == 43) = false := by rw [beq_eq_false_iff_ne]; omega
  have q3 : ((s[p.pos].toNat : Int) == 45) = true := by rw [beq_iff_eq]; omega
  have i0 : p.next.pos ≤ s.size := by show p.pos + 1 ≤ s.size; omega
  have i1 : (zon1 s p).pos ≤ s.size := digitsC_in i0
  have i2 : (zon2 s p).pos ≤ s.size := takeC_in i1 (by omega)
  have i3 : (zon3 s p).pos ≤ s.size := digitsC_in i2
  have hA : numC s p.next.pos 2 < 100 := numC_lt (b := 2) i0
  have hB : numC s (zon2 s p).pos 2 < 100 := numC_lt (b := 2) i2
  have N1 := fun W => rcV_number s p.next 2 2 i0 hs (by omega) (by omega) W
  have N2 := fun W => rcV_number s (zon2 s p) 2 2 i2 hs (by omega) (by omega) W
  rw [show digitsC s p.next 2 2 = zon1 s p from rfl] at N1
  rw [show digitsC s (zon2 s p) 2 2 = zon3 s p from rfl] at N2
  have HN := Lib.hid (And.intro N1 N2)
  clear N1 N2 h1 i0
  obtain ⟨A, hA2⟩ : ∃ A, numC s p.next.pos 2 = A := ⟨_, rfl⟩
  rw [hA2] at HN hA
  obtain ⟨B, hB2⟩ : ∃ B, numC s (zon2 s p).pos 2 = B := ⟨_, rfl⟩
  rw [hB2] at HN hB
  have HAB := Lib.hid (And.intro hA2 hB2)
  clear hA2 hB2
  unfold rcV CS.next at *
  simp only at HN
  push_cast at HN
  have RS0 := Lib.hid (show RZt s w.heap.size p p w ((((w.alloc (.cells #[.string s, .int .i64 (p.pos : Int), .bool (!p.bad)] 67)).alloc (.cells #[.string ⟨#[]⟩, .int .i64 0, .bool false] 67)).alloc (.cells #[.string s, .int .i64 (p.pos : Int), .bool (!p.bad)] 67))) from RZt.start s p w)
  obtain ⟨n, hn⟩ : ∃ n, w.heap.size = n := ⟨_, rfl⟩
  go_enter Tryd.func39, Tryd.ntmps39
  go_upto_region 11 with (fail)
  obtain ⟨X, hX⟩ : ∃ X, (((w.alloc (.cells #[.string s, .int .i64 (p.pos : Int), .bool (!p.bad)] 67)).alloc (.cells #[.string ⟨#[]⟩, .int .i64 0, .bool false] 67)).alloc (.cells #[.string s, .int .i64 (p.pos : Int), .bool (!p.bad)] 67)) = X := ⟨_, rfl⟩
  rw [hX, hn] at RS0
  try rw [hn]
  rw [hX]
  have HNN := Lib.hid hn
  clear hX hn
  obtain ⟨c0, c1, c2, g0, g1, g2⟩ := RS0.out.cf
  go_wp2_with fail
  refine (HN.out.1 _).mono ?_
  rintro e w1 ⟨rfl, hb1⟩
  clear c0 c1 c2 g0 g1 g2
  have RT1 := Lib.hid ((RS0.out.at (p.pos + 1)).below hb1)
  clear hb1 RS0
  obtain ⟨c0, c1, c2, g0, g1, g2⟩ := RT1.out.cf
  have RG1 : RZt s n p (zon1 s p) w (((w1.setCell ⟨n + 1 + 1, 0, none⟩ (.string s)).setCell ⟨n + 1 + 1, 1, none⟩ (.int .i64 ((zon1 s p).pos : Int))).setCell ⟨n + 1 + 1, 2, none⟩ (.bool (!(zon1 s p).bad))) := RT1.out.put (q' := zon1 s p)
  go_upto_region 13 with (fail)
  obtain ⟨W1, hW1⟩ : ∃ W, ((w1.setCell ⟨n + 1 + 1, 0, none⟩ (.string s)).setCell ⟨n + 1 + 1, 1, none⟩ (.int .i64 ((zon1 s p).pos : Int))).setCell ⟨n + 1 + 1, 2, none⟩ (.bool (!(zon1 s p).bad)) = W := ⟨_, rfl⟩
  rw [hW1] at RG1 ⊢
  have RS1 := Lib.hid RG1
  clear c0 c1 c2 g0 g1 g2 RG1 hW1 RT1
  obtain ⟨c0, c1, c2, g0, g1, g2⟩ := RS1.out.cf
  by_cases hz : (zon1 s p).pos < s.size
  · have dz : decide (((zon1 s p).pos : Int) < (s.size : Int)) = true := by rw [decide_eq_true_iff]; omega
    by_cases hc : byN s (zon1 s p).pos = 58
    · have e2 : zon2 s p = ⟨(zon1 s p).pos + 1, (zon1 s p).bad⟩ := by unfold zon2 takeC; rw [if_pos hc]; rfl
      rw [byN_in s _ hz] at hc
      have q4 : ((s[(zon1 s p).pos].toNat : Int) == 58) = true := by rw [beq_iff_eq]; omega
      rw [e2] at HN
      simp only at HN
      push_cast at HN
      clear hc e2
      go_wp2_with fail
      refine (HN.out.2 _).mono ?_
      rintro e w2 ⟨rfl, hb2⟩
      clear c0 c1 c2 g0 g1 g2
      have RT2 := Lib.hid ((RS1.out.at ((zon1 s p).pos + 1)).below hb2)
      clear hb2
      obtain ⟨c0, c1, c2, g0, g1, g2⟩ := RT2.out.cf
      have RG : RZt s n p (zon3 s p) w (((w2.setCell ⟨n + 1 + 1, 0, none⟩ (.string s)).setCell ⟨n + 1 + 1, 1, none⟩ (.int .i64 ((zon3 s p).pos : Int))).setCell ⟨n + 1 + 1, 2, none⟩ (.bool true)) := by
        have h := RT2.out.put (q' := zon3 s p)
        unfold rzput at h
        rw [hbd] at h
        exact h
      go_upto_region 16 with (fail)
      obtain ⟨W, hW⟩ : ∃ W, ((w2.setCell ⟨n + 1 + 1, 0, none⟩ (.string s)).setCell ⟨n + 1 + 1, 1, none⟩ (.int .i64 ((zon3 s p).pos : Int))).setCell ⟨n + 1 + 1, 2, none⟩ (.bool true) = W := ⟨_, rfl⟩
      rw [hW] at RG ⊢
      have RW := Lib.hid RG
      clear c0 c1 c2 g0 g1 g2 RG hW RS1 RT2
      obtain ⟨c0, c1, c2, g0, g1, g2⟩ := RW.out.cf
      rw [hbd] at c2
      have r0 := RW.out.r.cell 0
      have rf0 := RW.out.r.free 0
      have t0 := RW.out.t.cell 0
      have k0 := RW.out.c.cell 0
      have r1 := RW.out.r.cell 1
      have rf1 := RW.out.r.free 1
      have t1 := RW.out.t.cell 1
      have k1 := RW.out.c.cell 1
      have r2 := RW.out.r.cell 2
      have rf2 := RW.out.r.free 2
      have t2 := RW.out.t.cell 2
      have k2 := RW.out.c.cell 2
      simp only [rcA, List.getElem?_toArray, List.getElem?_cons_zero, List.getElem?_cons_succ] at r0 r1 r2 t0 t1 t2 k0 k1 k2
      rw [hbd] at t2
      have nn1 : n ≠ n + 1 := by omega
      have nn2 : n + 1 ≠ n := by omega
      have nn3 : n + 1 ≠ n + 1 + 1 := by omega
      have nn4 : n + 1 + 1 ≠ n + 1 := by omega
      go_wp2
      refine bodyPost_ret (v := .tuple #[.agg #[.string s, .int .i64 ((zon3 s p).pos : Int), .bool true], .int .i64 (-(60 * (A : Int) + (B : Int)))]) (by simp [results, Tryd.results39, go_sem, r0, r1, r2, t0, t1, t2, k0, k1, k2]) rfl ⟨(by unfold zonN; rw [show numC s p.next.pos 2 = A from HAB.out.1, HAB.out.2, hbd]), Below.mono (((RW.out.b.setCell (p := ⟨n + 1, 0, none⟩) (by show n ≤ n + 1; omega) _).setCell (p := ⟨n + 1, 1, none⟩) (by show n ≤ n + 1; omega) _).setCell (p := ⟨n + 1, 2, none⟩) (by show n ≤ n + 1; omega) _) (Nat.le_of_eq HNN.out)⟩
    · have e2 : zon2 s p = zon1 s p := by unfold zon2 takeC; rw [if_neg hc]
      rw [byN_in s _ hz] at hc
      have q4 : ((s[(zon1 s p).pos].toNat : Int) == 58) = false := by rw [beq_eq_false_iff_ne]; omega
      rw [e2] at HN
      clear hc e2
      go_wp2_with fail
      refine (HN.out.2 _).mono ?_
      rintro e w2 ⟨rfl, hb2⟩
      clear c0 c1 c2 g0 g1 g2
      have RT2 := Lib.hid (RS1.out.below hb2)
      clear hb2
      obtain ⟨c0, c1, c2, g0, g1, g2⟩ := RT2.out.cf
      have RG : RZt s n p (zon3 s p) w (((w2.setCell ⟨n + 1 + 1, 0, none⟩ (.string s)).setCell ⟨n + 1 + 1, 1, none⟩ (.int .i64 ((zon3 s p).pos : Int))).setCell ⟨n + 1 + 1, 2, none⟩ (.bool true)) := by
        have h := RT2.out.put (q' := zon3 s p)
        unfold rzput at h
        rw [hbd] at h
        exact h
      go_upto_region 16 with (fail)
      obtain ⟨W, hW⟩ : ∃ W, ((w2.setCell ⟨n + 1 + 1, 0, none⟩ (.string s)).setCell ⟨n + 1 + 1, 1, none⟩ (.int .i64 ((zon3 s p).pos : Int))).setCell ⟨n + 1 + 1, 2, none⟩ (.bool true) = W := ⟨_, rfl⟩
      rw [hW] at RG ⊢
      have RW := Lib.hid RG
      clear c0 c1 c2 g0 g1 g2 RG hW RS1 RT2
      obtain ⟨c0, c1, c2, g0, g1, g2⟩ := RW.out.cf
      rw [hbd] at c2
      have r0 := RW.out.r.cell 0
      have rf0 := RW.out.r.free 0
      have t0 := RW.out.t.cell 0
      have k0 := RW.out.c.cell 0
      have r1 := RW.out.r.cell 1
      have rf1 := RW.out.r.free 1
      have t1 := RW.out.t.cell 1
      have k1 := RW.out.c.cell 1
      have r2 := RW.out.r.cell 2
      have rf2 := RW.out.r.free 2
      have t2 := RW.out.t.cell 2
      have k2 := RW.out.c.cell 2
      simp only [rcA, List.getElem?_toArray, List.getElem?_cons_zero, List.getElem?_cons_succ] at r0 r1 r2 t0 t1 t2 k0 k1 k2
      rw [hbd] at t2
      have nn1 : n ≠ n + 1 := by omega
      have nn2 : n + 1 ≠ n := by omega
      have nn3 : n + 1 ≠ n + 1 + 1 := by omega
      have nn4 : n + 1 + 1 ≠ n + 1 := by omega
      go_wp2
      refine bodyPost_ret (v := .tuple #[.agg #[.string s, .int .i64 ((zon3 s p).pos : Int), .bool true], .int .i64 (-(60 * (A : Int) + (B : Int)))]) (by simp [results, Tryd.results39, go_sem, r0, r1, r2, t0, t1, t2, k0, k1, k2]) rfl ⟨(by unfold zonN; rw [show numC s p.next.pos 2 = A from HAB.out.1, HAB.out.2, hbd]), Below.mono (((RW.out.b.setCell (p := ⟨n + 1, 0, none⟩) (by show n ≤ n + 1; omega) _).setCell (p := ⟨n + 1, 1, none⟩) (by show n ≤ n + 1; omega) _).setCell (p := ⟨n + 1, 2, none⟩) (by show n ≤ n + 1; omega) _) (Nat.le_of_eq HNN.out)⟩
  · have dz : decide (((zon1 s p).pos : Int) < (s.size : Int)) = false := by rw [decide_eq_false_iff_not]; omega
    have e2 : zon2 s p = zon1 s p := by
      unfold zon2 takeC
      rw [if_neg (by rw [byN_out s _ hz]; omega)]
    rw [e2] at HN
    clear e2
    go_wp2_with fail
    refine (HN.out.2 _).mono ?_
    rintro e w2 ⟨rfl, hb2⟩
    clear c0 c1 c2 g0 g1 g2
    have RT2 := Lib.hid (RS1.out.below hb2)
    clear hb2
    obtain ⟨c0, c1, c2, g0, g1, g2⟩ := RT2.out.cf
    have RG : RZt s n p (zon3 s p) w (((w2.setCell ⟨n + 1 + 1, 0, none⟩ (.string s)).setCell ⟨n + 1 + 1, 1, none⟩ (.int .i64 ((zon3 s p).pos : Int))).setCell ⟨n + 1 + 1, 2, none⟩ (.bool true)) := by
      have h := RT2.out.put (q' := zon3 s p)
      unfold rzput at h
      rw [hbd] at h
      exact h
    go_upto_region 16 with (fail)
    obtain ⟨W, hW⟩ : ∃ W, ((w2.setCell ⟨n + 1 + 1, 0, none⟩ (.string s)).setCell ⟨n + 1 + 1, 1, none⟩ (.int .i64 ((zon3 s p).pos : Int))).setCell ⟨n + 1 + 1, 2, none⟩ (.bool true) = W := ⟨_, rfl⟩
    rw [hW] at RG ⊢
    have RW := Lib.hid RG
    clear c0 c1 c2 g0 g1 g2 RG hW RS1 RT2
    obtain ⟨c0, c1, c2, g0, g1, g2⟩ := RW.out.cf
    rw [hbd] at c2
    have r0 := RW.out.r.cell 0
    have rf0 := RW.out.r.free 0
    have t0 := RW.out.t.cell 0
    have k0 := RW.out.c.cell 0
    have r1 := RW.out.r.cell 1
    have rf1 := RW.out.r.free 1
    have t1 := RW.out.t.cell 1
    have k1 := RW.out.c.cell 1
    have r2 := RW.out.r.cell 2
    have rf2 := RW.out.r.free 2
    have t2 := RW.out.t.cell 2
    have k2 := RW.out.c.cell 2
    simp only [rcA, List.getElem?_toArray, List.getElem?_cons_zero, List.getElem?_cons_succ] at r0 r1 r2 t0 t1 t2 k0 k1 k2
    rw [hbd] at t2
    have nn1 : n ≠ n + 1 := by omega
    have nn2 : n + 1 ≠ n := by omega
    have nn3 : n + 1 ≠ n + 1 + 1 := by omega
    have nn4 : n + 1 + 1 ≠ n + 1 := by omega
    go_wp2
    refine bodyPost_ret (v := .tuple #[.agg #[.string s, .int .i64 ((zon3 s p).pos : Int), .bool true], .int .i64 (-(60 * (A : Int) + (B : Int)))]) (by simp [results, Tryd.results39, go_sem, r0, r1, r2, t0, t1, t2, k0, k1, k2]) rfl ⟨(by unfold zonN; rw [show numC s p.next.pos 2 = A from HAB.out.1, HAB.out.2, hbd]), Below.mono (((RW.out.b.setCell (p := ⟨n + 1, 0, none⟩) (by show n ≤ n + 1; omega) _).setCell (p := ⟨n + 1, 1, none⟩) (by show n ≤ n + 1; omega) _).setCell (p := ⟨n + 1, 2, none⟩) (by show n ≤ n + 1; omega) _) (Nat.le_of_eq HNN.out)⟩
theorem rzone_any (s : ByteArray) (p : CS) (z : Int) (hk : p.pos ≤ s.size) (hs : s.size ≤ 20000) (w : World) :
    Calls Tryd.prog 39 #[rcV s p, .int .i64 z] w fun e w' => e = .returned (.tuple #[rcV s (zoneC s p), .int .i64 (zoneV s p z)]) ∧ Below w.heap.size w w' := by
  by_cases he : p.pos < s.size
  · by_cases h90 : byN s p.pos = 90
    · unfold zoneC zoneV
      rw [if_pos h90, if_pos h90]
      exact rzone_z s p z hk hs he h90 w
    · unfold zoneC zoneV
      rw [if_neg h90, if_neg h90]
      by_cases h43 : byN s p.pos = 43
      · cases hb : (zon3 s p).bad with
        | true =>
          have hB : ¬ zonB s p = true := by unfold zonB; rw [hb]; simp
          rw [if_neg hB, if_neg hB]
          exact rzone_sign43b s p z hk hs he h43 hb w
        | false =>
          have hB : zonB s p = true := by unfold zonB; rw [hb, h43]; rfl
          rw [if_pos hB, if_pos hB, if_neg (by rw [h43]; decide)]
          exact rzone_sign43 s p z hk hs he h43 hb w
      · by_cases h45 : byN s p.pos = 45
        · cases hb : (zon3 s p).bad with
          | true =>
            have hB : ¬ zonB s p = true := by unfold zonB; rw [hb]; simp
            rw [if_neg hB, if_neg hB]
            exact rzone_sign45b s p z hk hs he h45 hb w
          | false =>
            have hB : zonB s p = true := by unfold zonB; rw [hb, h45]; rfl
            rw [if_pos hB, if_pos hB, if_pos h45]
            exact rzone_sign45 s p z hk hs he h45 hb w
        · have hB : ¬ zonB s p = true := by unfold zonB; rw [decide_eq_false h45, decide_eq_false h43]; simp
          rw [if_neg hB, if_neg hB]
          exact rzone_none s p z hk hs he h90 h43 h45 w
  · have h0 := byN_out s _ he
    have hB : ¬ zonB s p = true := by
      unfold zonB
      rw [decide_eq_false (show ¬ byN s p.pos = 45 by omega), decide_eq_false (show ¬ byN s p.pos = 43 by omega)]; simp
    have h90 : ¬ byN s p.pos = 90 := by omega
    unfold zoneC zoneV
    rw [if_neg h90, if_neg h90, if_neg hB, if_neg hB]
    exact rzone_end s p z hk hs he w
end Go.Proofs.YtpbfgafkoodeoaaDoor
