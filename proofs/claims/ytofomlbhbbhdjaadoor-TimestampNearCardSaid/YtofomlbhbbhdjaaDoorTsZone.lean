/- The contracts of the cursor's clock and zone. -/
import Derived.Test.YtofomlbhbbhdjaaDoorTsFrac
namespace Go.Proofs.YtofomlbhbbhdjaaDoor
open Go.RowKit

theorem DtAt.set {D : Nat} {vs : Array Value} {w : World} (h : DtAt D vs w) (i : Nat) (v : Value) : DtAt D (vs.setIfInBounds i v) (w.setCell ⟨D, i, none⟩ v) := heap_setCell_row v h
theorem DtAt.frp {D : Nat} {vs : Array Value} {w w' : World} {P : Nat → Prop} (h : DtAt D vs w) (k : FrP P w w') (hn : ¬ P D) : DtAt D vs w' := (k.block D h.lt hn).trans h
theorem DtAt.free {D : Nat} {vs : Array Value} {w : World} (h : DtAt D vs w) (j : Nat) : w.frozen? ⟨D, j, none⟩ = false := Lib.frozen_of_heap h j
def date7 (y m d h i s c : Int) : Array Value := #[.int .i64 y, .int .i64 m, .int .i64 d, .int .i64 h, .int .i64 i, .int .i64 s, .int .i64 c]
abbrev FrD (B D : Nat) : World → World → Prop := FrP (fun k => k = B ∨ k = D)
theorem FrP.up {P Q : Nat → Prop} {w w' : World} (h : FrP P w w') (k : ∀ i, P i → Q i) : FrP Q w w' := ⟨h.os, h.tape, h.output, h.size, fun i hi hn => h.block i hi (fun x => hn (k i x))⟩
theorem Fr.upD {B : Nat} {w w' : World} (h : Fr B w w') (D : Nat) : FrD B D w w' := h.up fun _ x => .inl x

set_option maxRecDepth 100000 in
set_option maxHeartbeats 4000000 in
theorem clock_any (s : ByteArray) (B D : Nat) (p : CS) (y m d h i sc c : Int) (w : World) (hc : CAt s B p w) (hd : DtAt D (date7 y m d h i sc c) w) (hne : D ≠ B) :
    Calls Tryd.prog 76 #[cPtr B, .pointer (some ⟨D, 0, none⟩)] w fun e w' => e = .returned (.tuple #[]) ∧ CAt s B (clockC s p) w' ∧ DtAt D (date7 y m d (clkH s p) (clkI s p) (clkS s p) (clkM s p)) w' ∧ FrD B D w w' := by
  have hn1 := fun W hW => cnumber_any s B p 2 2 (by omega) (by omega) W hW
  have hx1 := fun W hW => expect_any s B (digitsC s p 2 2) 58 (by omega) W hW
  have hn2 := fun W hW => cnumber_any s B (expectC s (digitsC s p 2 2) 58) 2 2 (by omega) (by omega) W hW
  have hx2 := fun W hW => expect_any s B (digitsC s (expectC s (digitsC s p 2 2) 58) 2 2) 58 (by omega) W hW
  have hn3 := fun W hW => cnumber_any s B (expectC s (digitsC s (expectC s (digitsC s p 2 2) 58) 2 2) 58) 2 2 (by omega) (by omega) W hW
  have hf := fun W hW => frac_any s B (clkC s p) W hW
  unfold clockC clkM clkH clkI clkS
  unfold clkC at hf ⊢
  obtain ⟨q1, e1⟩ : ∃ q, digitsC s p 2 2 = q := ⟨_, rfl⟩
  obtain ⟨v1, f1⟩ : ∃ q, numC s p.pos 2 = q := ⟨_, rfl⟩
  rw [e1] at hn1 hx1 hn2 hx2 hn3 hf ⊢
  rw [f1] at hn1 ⊢
  obtain ⟨q2, e2⟩ : ∃ q, expectC s q1 58 = q := ⟨_, rfl⟩
  rw [e2] at hx1 hn2 hx2 hn3 hf ⊢
  obtain ⟨q3, e3⟩ : ∃ q, digitsC s q2 2 2 = q := ⟨_, rfl⟩
  obtain ⟨v2, f2⟩ : ∃ q, numC s q2.pos 2 = q := ⟨_, rfl⟩
  rw [e3] at hn2 hx2 hn3 hf ⊢
  rw [f2] at hn2 ⊢
  obtain ⟨q4, e4⟩ : ∃ q, expectC s q3 58 = q := ⟨_, rfl⟩
  rw [e4] at hx2 hn3 hf ⊢
  obtain ⟨q5, e5⟩ : ∃ q, digitsC s q4 2 2 = q := ⟨_, rfl⟩
  obtain ⟨v3, f3⟩ : ∃ q, numC s q4.pos 2 = q := ⟨_, rfl⟩
  rw [e5] at hn3 hf ⊢
  rw [f3] at hn3 ⊢
  obtain ⟨q6, e6⟩ : ∃ q, fracC s q5 = q := ⟨_, rfl⟩
  obtain ⟨v4, f4⟩ : ∃ q, fracV s q5 = q := ⟨_, rfl⟩
  rw [e6] at hf ⊢
  rw [f4] at hf ⊢
  have H := Lib.hid (And.intro hn1 (And.intro hx1 (And.intro hn2 (And.intro hx2 (And.intro hn3 hf)))))
  have HP := Lib.hid (And.intro hc hd)
  clear hn1 hx1 hn2 hx2 hn3 hf e1 f1 e2 e3 f2 e4 e5 f3 e6 f4 hc hd
  unfold cPtr at H ⊢
  go_enter Tryd.func76, Tryd.ntmps76
  go_wp2_with fail
  refine (H.out.1 _ HP.out.1).mono ?_
  rintro e w1 ⟨rfl, h1, k1⟩
  have d1 := HP.out.2.frp k1 hne
  have K1 := Lib.hid (Fr.upD k1 D)
  have c1 := d1.cell 3
  have g1 := d1.free 3
  have D1 := Lib.hid (d1.set 3 (.int .i64 v1))
  have C1 := Lib.hid h1
  unfold date7 at c1
  simp only [List.getElem?_toArray, List.getElem?_cons_zero, List.getElem?_cons_succ] at c1
  clear d1 h1 k1
  go_wp2_with fail
  have k1' := K1.out.setCell D 3 (.int .i64 v1) (.inr rfl)
  have h1' : CAt s B q1 (w1.setCell ⟨D, 3, none⟩ (.int .i64 v1)) := C1.out.frp ((FrP.refl (fun k => k = D) w1).setCell D 3 (.int .i64 v1) rfl) (fun x => hne x.symm)
  refine (H.out.2.1 _ h1').mono ?_
  rintro e w2 ⟨rfl, h2, k2⟩
  have d2 := D1.out.frp k2 hne
  have K2 := Lib.hid (k1'.trans (Fr.upD k2 D))
  clear c1 g1 k1' h1' k2
  go_wp2_with fail
  refine (H.out.2.2.1 _ h2).mono ?_
  rintro e w3 ⟨rfl, h3, k3⟩
  have d3 := d2.frp k3 hne
  have K3 := Lib.hid (K2.out.trans (Fr.upD k3 D))
  have c3 := d3.cell 4
  have g3 := d3.free 4
  have D3 := Lib.hid (d3.set 4 (.int .i64 v2))
  have C3 := Lib.hid h3
  unfold date7 at c3
  simp only [List.getElem?_toArray, List.getElem?_cons_zero, List.getElem?_cons_succ, List.setIfInBounds_toArray, List.set_cons_zero, List.set_cons_succ] at c3
  clear d3 h3 k3 d2 h2
  go_wp2_with fail
  have k3' := K3.out.setCell D 4 (.int .i64 v2) (.inr rfl)
  have h3' : CAt s B q3 (w3.setCell ⟨D, 4, none⟩ (.int .i64 v2)) := C3.out.frp ((FrP.refl (fun k => k = D) w3).setCell D 4 (.int .i64 v2) rfl) (fun x => hne x.symm)
  refine (H.out.2.2.2.1 _ h3').mono ?_
  rintro e w4 ⟨rfl, h4, k4⟩
  have d4 := D3.out.frp k4 hne
  have K4 := Lib.hid (k3'.trans (Fr.upD k4 D))
  clear c3 g3 k3' h3' k4
  go_wp2_with fail
  refine (H.out.2.2.2.2.1 _ h4).mono ?_
  rintro e w5 ⟨rfl, h5, k5⟩
  have d5 := d4.frp k5 hne
  have K5 := Lib.hid (K4.out.trans (Fr.upD k5 D))
  have c5 := d5.cell 5
  have g5 := d5.free 5
  have D5 := Lib.hid (d5.set 5 (.int .i64 v3))
  have C5 := Lib.hid h5
  unfold date7 at c5
  simp only [List.getElem?_toArray, List.getElem?_cons_zero, List.getElem?_cons_succ, List.setIfInBounds_toArray, List.set_cons_zero, List.set_cons_succ] at c5
  clear d5 h5 k5 d4 h4
  go_wp2_with fail
  have k5' := K5.out.setCell D 5 (.int .i64 v3) (.inr rfl)
  have h5' : CAt s B q5 (w5.setCell ⟨D, 5, none⟩ (.int .i64 v3)) := C5.out.frp ((FrP.refl (fun k => k = D) w5).setCell D 5 (.int .i64 v3) rfl) (fun x => hne x.symm)
  refine (H.out.2.2.2.2.2 _ h5').mono ?_
  rintro e w6 ⟨rfl, h6, k6⟩
  have d6 := D5.out.frp k6 hne
  have K6 := Lib.hid (k5'.trans (Fr.upD k6 D))
  have c6 := d6.cell 6
  have g6 := d6.free 6
  have D6 := Lib.hid (d6.set 6 (.int .i64 v4))
  have C6 := Lib.hid h6
  unfold date7 at c6
  simp only [List.getElem?_toArray, List.getElem?_cons_zero, List.getElem?_cons_succ, List.setIfInBounds_toArray, List.set_cons_zero, List.set_cons_succ] at c6
  clear d6 h6 k6 c5 g5 k5' h5'
  go_wp2
  go_end0
  have k6' := K6.out.setCell D 6 (.int .i64 v4) (.inr rfl)
  have h6' : CAt s B q6 (w6.setCell ⟨D, 6, none⟩ (.int .i64 v4)) := C6.out.frp ((FrP.refl (fun k => k = D) w6).setCell D 6 (.int .i64 v4) rfl) (fun x => hne x.symm)
  exact ⟨rfl, h6', by simpa [date7] using D6.out, k6'⟩

set_option maxRecDepth 100000 in
set_option maxHeartbeats 4000000 in
theorem zone_Z (s : ByteArray) (B : Nat) (p : CS) (z : Int) (w : World) (h : CAt s B p w) (h1 : byN s p.pos = 90) :
    Calls Tryd.prog 77 #[cPtr B, .int .i64 z] w fun e w' => e = .returned (.int .i64 0) ∧ CAt s B p.next w' ∧ Fr B w w' := by
  have H := Lib.hid (take_yes s B p 90 w h h1 (by omega))
  clear h h1
  unfold cPtr at H ⊢
  go_enter Tryd.func77, Tryd.ntmps77
  go_wp2_with fail
  refine (H.out).mono ?_
  rintro e w1 ⟨rfl, h1, hf1⟩
  go_wp2
  go_ret
  exact ⟨rfl, h1, hf1⟩

set_option maxRecDepth 100000 in
set_option maxHeartbeats 4000000 in
theorem zone_minus (s : ByteArray) (B : Nat) (p : CS) (z : Int) (w : World) (h : CAt s B p w) (h1 : byN s p.pos = 45) (hq : (digitsC s (takeC s (digitsC s p.next 2 2) 58) 2 2).bad = false) :
    Calls Tryd.prog 77 #[cPtr B, .int .i64 z] w fun e w' => e = .returned (.int .i64 (-(zonN s p))) ∧ CAt s B (zon3 s p) w' ∧ Fr B w w' := by
  obtain ⟨c0, c1, c2, f0, f1, f2⟩ := h.parts
  have hcp := fun W (hW : CAt s B p W) => CAt.copy hW
  have hz := take_no s B p 90 w h (by omega)
  have ht := fun W T hW => take_yes s T p 45 W hW h1 (by omega)
  have hle : p.next.pos ≤ s.size := byN_pos (s := s) (k := p.pos) (by omega)
  unfold zonN zon3 zon2 zon1
  have hn1 := fun W T hW => cnumber_any s T p.next 2 2 (by omega) (by omega) W hW
  have hk := fun W T hW => take_any s T (digitsC s p.next 2 2) 58 (by omega) W hW
  have hn2 := fun W T hW => cnumber_any s T (takeC s (digitsC s p.next 2 2) 58) 2 2 (by omega) (by omega) W hW
  have hb1 := numC_lt (s := s) (k := p.next.pos) (b := 2) hle
  obtain ⟨q1, e1⟩ : ∃ q, digitsC s p.next 2 2 = q := ⟨_, rfl⟩
  obtain ⟨v1, f1'⟩ : ∃ q, numC s (p.next).pos 2 = q := ⟨_, rfl⟩
  have hi1 : q1.pos ≤ s.size := by rw [← e1]; exact dRun_in s 2 _ hle
  rw [e1] at hn1 hk hn2 hq ⊢
  rw [f1'] at hn1 hb1 ⊢
  obtain ⟨tb, e0⟩ : ∃ q, tkB s q1 58 = q := ⟨_, rfl⟩
  obtain ⟨q2, e2⟩ : ∃ q, takeC s q1 58 = q := ⟨_, rfl⟩
  have hi2 : q2.pos ≤ s.size := by
    rw [← e2]; unfold takeC; split
    · rename_i hx; exact byN_pos (s := s) (k := q1.pos) (by omega)
    · exact hi1
  have hb2 := numC_lt (s := s) (k := q2.pos) (b := 2) hi2
  rw [e0, e2] at hk
  rw [e2] at hn2 hq ⊢
  obtain ⟨q3, e3⟩ : ∃ q, digitsC s q2 2 2 = q := ⟨_, rfl⟩
  obtain ⟨v2, f2'⟩ : ∃ q, numC s q2.pos 2 = q := ⟨_, rfl⟩
  have hi3 : q3.pos ≤ s.size := by rw [← e3]; exact dRun_in s 2 _ hi2
  rw [e3] at hn2 hq ⊢
  rw [f2'] at hn2 hb2 ⊢
  have HP := Lib.hid h
  have H := Lib.hid (And.intro hz (And.intro ht (And.intro hn1 (And.intro hk hn2))))
  have HC := Lib.hid hcp
  have HQ := Lib.hid (And.intro hq hi3)
  clear hz ht hn1 hk hn2 hcp hq h e1 f1' e0 e2 e3 f2' h1 c0 c1 c2 f0 f1 f2 hle hi1 hi2 hi3
  unfold cPtr at H ⊢
  go_enter Tryd.func77, Tryd.ntmps77
  go_wp2_with fail
  refine (H.out.1).mono ?_
  rintro e w0 ⟨rfl, hA, kA⟩
  obtain ⟨c0, c1, c2, f0, f1, f2⟩ := hA.parts
  have hT := HC.out w0 hA
  have hbA : Below w0.heap.size w0 w0 := Below.refl _ _
  have HA := Lib.hid (And.intro hA (And.intro kA hT))
  clear hA kA hT hbA
  go_wp2_with fail
  refine (H.out.2.1 _ _ HA.out.2.2).mono ?_
  rintro e w1 ⟨rfl, h1, k1⟩
  go_wp2_with fail
  refine (H.out.2.2.1 _ _ h1).mono ?_
  rintro e w2 ⟨rfl, h2, k2⟩
  have k12 := k1.trans k2
  clear k1 k2 h1
  go_wp2_with fail
  refine (H.out.2.2.2.1 _ _ h2).mono ?_
  rintro e w3 ⟨rfl, h3, k3⟩
  have k13 := k12.trans k3
  clear k12 k3 h2
  go_wp2_with fail
  refine (H.out.2.2.2.2 _ _ h3).mono ?_
  rintro e w4 ⟨rfl, h4, k4⟩
  have hb := fresh_below rfl (k13.trans k4)
  have hB := HA.out.1.below hb
  obtain ⟨d0, d1, d2, g0, g1, g2⟩ := h4.parts
  obtain ⟨b0, b1, b2, b3, b4, b5⟩ := hB.parts
  rw [HQ.out.1] at d2
  have HH := Lib.hid (And.intro hb (And.intro hB h4))
  clear hb hB h3 h4 k13 k4 c0 c1 c2 f0 f1 f2
  have hw : CAt s B q3 (put3 w4 B s q3) := HH.out.2.1.put HQ.out.2
  have hf : Fr B w (put3 w4 B s q3) := put3_fr (HA.out.2.1.below HH.out.1) rfl
  unfold put3 at hw hf
  rw [HQ.out.1] at hw hf
  have hsz2 : w0.heap.size ≠ B := by have := HA.out.1.lt; omega
  have HW := Lib.hid (And.intro hw hf)
  clear hw hf
  go_wp2
  go_ret
  exact ⟨rt_int (by push_cast; omega), HW.out.1, HW.out.2⟩

set_option maxRecDepth 100000 in
set_option maxHeartbeats 4000000 in
theorem zone_minusBad (s : ByteArray) (B : Nat) (p : CS) (z : Int) (w : World) (h : CAt s B p w) (h1 : byN s p.pos = 45) (hq : (digitsC s (takeC s (digitsC s p.next 2 2) 58) 2 2).bad = true) :
    Calls Tryd.prog 77 #[cPtr B, .int .i64 z] w fun e w' => e = .returned (.int .i64 z) ∧ CAt s B p w' ∧ Fr B w w' := by
  obtain ⟨c0, c1, c2, f0, f1, f2⟩ := h.parts
  have hcp := fun W (hW : CAt s B p W) => CAt.copy hW
  have hz := take_no s B p 90 w h (by omega)
  have ht := fun W T hW => take_yes s T p 45 W hW h1 (by omega)
  have hn1 := fun W T hW => cnumber_any s T p.next 2 2 (by omega) (by omega) W hW
  have hk := fun W T hW => take_any s T (digitsC s p.next 2 2) 58 (by omega) W hW
  have hn2 := fun W T hW => cnumber_any s T (takeC s (digitsC s p.next 2 2) 58) 2 2 (by omega) (by omega) W hW
  obtain ⟨q1, e1⟩ : ∃ q, digitsC s p.next 2 2 = q := ⟨_, rfl⟩
  obtain ⟨v1, f1'⟩ : ∃ q, numC s (p.next).pos 2 = q := ⟨_, rfl⟩
  rw [e1] at hn1 hk hn2 hq
  rw [f1'] at hn1
  obtain ⟨tb, e0⟩ : ∃ q, tkB s q1 58 = q := ⟨_, rfl⟩
  obtain ⟨q2, e2⟩ : ∃ q, takeC s q1 58 = q := ⟨_, rfl⟩
  rw [e0, e2] at hk
  rw [e2] at hn2 hq
  obtain ⟨q3, e3⟩ : ∃ q, digitsC s q2 2 2 = q := ⟨_, rfl⟩
  obtain ⟨v2, f2'⟩ : ∃ q, numC s q2.pos 2 = q := ⟨_, rfl⟩
  rw [e3] at hn2 hq
  rw [f2'] at hn2
  have HP := Lib.hid h
  have H := Lib.hid (And.intro hz (And.intro ht (And.intro hn1 (And.intro hk hn2))))
  have HC := Lib.hid hcp
  have HQ := Lib.hid (And.intro hq trivial)
  clear hz ht hn1 hk hn2 hcp hq h e1 f1' e0 e2 e3 f2' h1 c0 c1 c2 f0 f1 f2
  unfold cPtr at H ⊢
  go_enter Tryd.func77, Tryd.ntmps77
  go_wp2_with fail
  refine (H.out.1).mono ?_
  rintro e w0 ⟨rfl, hA, kA⟩
  obtain ⟨c0, c1, c2, f0, f1, f2⟩ := hA.parts
  have hT := HC.out w0 hA
  have hbA : Below w0.heap.size w0 w0 := Below.refl _ _
  have HA := Lib.hid (And.intro hA (And.intro kA hT))
  clear hA kA hT hbA
  go_wp2_with fail
  refine (H.out.2.1 _ _ HA.out.2.2).mono ?_
  rintro e w1 ⟨rfl, h1, k1⟩
  go_wp2_with fail
  refine (H.out.2.2.1 _ _ h1).mono ?_
  rintro e w2 ⟨rfl, h2, k2⟩
  have k12 := k1.trans k2
  clear k1 k2 h1
  go_wp2_with fail
  refine (H.out.2.2.2.1 _ _ h2).mono ?_
  rintro e w3 ⟨rfl, h3, k3⟩
  have k13 := k12.trans k3
  clear k12 k3 h2
  go_wp2_with fail
  refine (H.out.2.2.2.2 _ _ h3).mono ?_
  rintro e w4 ⟨rfl, h4, k4⟩
  have hb := fresh_below rfl (k13.trans k4)
  have hB := HA.out.1.below hb
  obtain ⟨d0, d1, d2, g0, g1, g2⟩ := h4.parts
  obtain ⟨b0, b1, b2, b3, b4, b5⟩ := hB.parts
  rw [HQ.out.1] at d2
  have HH := Lib.hid (And.intro hb (And.intro hB h4))
  clear hb hB h3 h4 k13 k4 c0 c1 c2 f0 f1 f2
  go_wp2
  go_ret
  exact ⟨rfl, HH.out.2.1, HA.out.2.1.below HH.out.1⟩

set_option maxRecDepth 100000 in
set_option maxHeartbeats 4000000 in
theorem zone_plus (s : ByteArray) (B : Nat) (p : CS) (z : Int) (w : World) (h : CAt s B p w) (h1 : byN s p.pos = 43) (hq : (digitsC s (takeC s (digitsC s p.next 2 2) 58) 2 2).bad = false) :
    Calls Tryd.prog 77 #[cPtr B, .int .i64 z] w fun e w' => e = .returned (.int .i64 (zonN s p)) ∧ CAt s B (zon3 s p) w' ∧ Fr B w w' := by
  obtain ⟨c0, c1, c2, f0, f1, f2⟩ := h.parts
  have hcp := fun W (hW : CAt s B p W) => CAt.copy hW
  have hz := take_no s B p 90 w h (by omega)
  have hm := fun W T hW => take_no s T p 45 W hW (by omega)
  have ht := fun W T hW => expect_any s T p 43 (by omega) W hW
  unfold expectC at ht
  rw [if_pos h1] at ht
  have hle : p.next.pos ≤ s.size := byN_pos (s := s) (k := p.pos) (by omega)
  unfold zonN zon3 zon2 zon1
  have hn1 := fun W T hW => cnumber_any s T p.next 2 2 (by omega) (by omega) W hW
  have hk := fun W T hW => take_any s T (digitsC s p.next 2 2) 58 (by omega) W hW
  have hn2 := fun W T hW => cnumber_any s T (takeC s (digitsC s p.next 2 2) 58) 2 2 (by omega) (by omega) W hW
  have hb1 := numC_lt (s := s) (k := p.next.pos) (b := 2) hle
  obtain ⟨q1, e1⟩ : ∃ q, digitsC s p.next 2 2 = q := ⟨_, rfl⟩
  obtain ⟨v1, f1'⟩ : ∃ q, numC s (p.next).pos 2 = q := ⟨_, rfl⟩
  have hi1 : q1.pos ≤ s.size := by rw [← e1]; exact dRun_in s 2 _ hle
  rw [e1] at hn1 hk hn2 hq ⊢
  rw [f1'] at hn1 hb1 ⊢
  obtain ⟨tb, e0⟩ : ∃ q, tkB s q1 58 = q := ⟨_, rfl⟩
  obtain ⟨q2, e2⟩ : ∃ q, takeC s q1 58 = q := ⟨_, rfl⟩
  have hi2 : q2.pos ≤ s.size := by
    rw [← e2]; unfold takeC; split
    · rename_i hx; exact byN_pos (s := s) (k := q1.pos) (by omega)
    · exact hi1
  have hb2 := numC_lt (s := s) (k := q2.pos) (b := 2) hi2
  rw [e0, e2] at hk
  rw [e2] at hn2 hq ⊢
  obtain ⟨q3, e3⟩ : ∃ q, digitsC s q2 2 2 = q := ⟨_, rfl⟩
  obtain ⟨v2, f2'⟩ : ∃ q, numC s q2.pos 2 = q := ⟨_, rfl⟩
  have hi3 : q3.pos ≤ s.size := by rw [← e3]; exact dRun_in s 2 _ hi2
  rw [e3] at hn2 hq ⊢
  rw [f2'] at hn2 hb2 ⊢
  have HP := Lib.hid h
  have H := Lib.hid (And.intro hz (And.intro ht (And.intro hn1 (And.intro hk hn2))))
  have HC := Lib.hid hcp
  have HQ := Lib.hid (And.intro hq hi3)
  have HM := Lib.hid hm
  clear hm
  clear hz ht hn1 hk hn2 hcp hq h e1 f1' e0 e2 e3 f2' h1 c0 c1 c2 f0 f1 f2 hle hi1 hi2 hi3
  unfold cPtr at H HM ⊢
  go_enter Tryd.func77, Tryd.ntmps77
  go_wp2_with fail
  refine (H.out.1).mono ?_
  rintro e w0 ⟨rfl, hA, kA⟩
  obtain ⟨c0, c1, c2, f0, f1, f2⟩ := hA.parts
  have hT := HC.out w0 hA
  have hbA : Below w0.heap.size w0 w0 := Below.refl _ _
  have HA := Lib.hid (And.intro hA (And.intro kA hT))
  clear hA kA hT hbA
  go_wp2_with fail
  refine (HM.out _ _ HA.out.2.2).mono ?_
  rintro e w1 ⟨rfl, h0, k0⟩
  go_wp2_with fail
  refine (H.out.2.1 _ _ h0).mono ?_
  rintro e w1' ⟨rfl, h1, k1'⟩
  have k1 := k0.trans k1'
  clear k0 k1' h0
  go_wp2_with fail
  refine (H.out.2.2.1 _ _ h1).mono ?_
  rintro e w2 ⟨rfl, h2, k2⟩
  have k12 := k1.trans k2
  clear k1 k2 h1
  go_wp2_with fail
  refine (H.out.2.2.2.1 _ _ h2).mono ?_
  rintro e w3 ⟨rfl, h3, k3⟩
  have k13 := k12.trans k3
  clear k12 k3 h2
  go_wp2_with fail
  refine (H.out.2.2.2.2 _ _ h3).mono ?_
  rintro e w4 ⟨rfl, h4, k4⟩
  have hb := fresh_below rfl (k13.trans k4)
  have hB := HA.out.1.below hb
  obtain ⟨d0, d1, d2, g0, g1, g2⟩ := h4.parts
  obtain ⟨b0, b1, b2, b3, b4, b5⟩ := hB.parts
  rw [HQ.out.1] at d2
  have HH := Lib.hid (And.intro hb (And.intro hB h4))
  clear hb hB h3 h4 k13 k4 c0 c1 c2 f0 f1 f2
  have hw : CAt s B q3 (put3 w4 B s q3) := HH.out.2.1.put HQ.out.2
  have hf : Fr B w (put3 w4 B s q3) := put3_fr (HA.out.2.1.below HH.out.1) rfl
  unfold put3 at hw hf
  rw [HQ.out.1] at hw hf
  have hsz2 : w0.heap.size ≠ B := by have := HA.out.1.lt; omega
  have HW := Lib.hid (And.intro hw hf)
  clear hw hf
  go_wp2
  go_ret
  exact ⟨rt_int (by push_cast; omega), HW.out.1, HW.out.2⟩

set_option maxRecDepth 100000 in
set_option maxHeartbeats 4000000 in
theorem zone_plusBad (s : ByteArray) (B : Nat) (p : CS) (z : Int) (w : World) (h : CAt s B p w) (h1 : byN s p.pos = 43) (hq : (digitsC s (takeC s (digitsC s p.next 2 2) 58) 2 2).bad = true) :
    Calls Tryd.prog 77 #[cPtr B, .int .i64 z] w fun e w' => e = .returned (.int .i64 z) ∧ CAt s B p w' ∧ Fr B w w' := by
  obtain ⟨c0, c1, c2, f0, f1, f2⟩ := h.parts
  have hcp := fun W (hW : CAt s B p W) => CAt.copy hW
  have hz := take_no s B p 90 w h (by omega)
  have hm := fun W T hW => take_no s T p 45 W hW (by omega)
  have ht := fun W T hW => expect_any s T p 43 (by omega) W hW
  unfold expectC at ht
  rw [if_pos h1] at ht
  have hn1 := fun W T hW => cnumber_any s T p.next 2 2 (by omega) (by omega) W hW
  have hk := fun W T hW => take_any s T (digitsC s p.next 2 2) 58 (by omega) W hW
  have hn2 := fun W T hW => cnumber_any s T (takeC s (digitsC s p.next 2 2) 58) 2 2 (by omega) (by omega) W hW
  obtain ⟨q1, e1⟩ : ∃ q, digitsC s p.next 2 2 = q := ⟨_, rfl⟩
  obtain ⟨v1, f1'⟩ : ∃ q, numC s (p.next).pos 2 = q := ⟨_, rfl⟩
  rw [e1] at hn1 hk hn2 hq
  rw [f1'] at hn1
  obtain ⟨tb, e0⟩ : ∃ q, tkB s q1 58 = q := ⟨_, rfl⟩
  obtain ⟨q2, e2⟩ : ∃ q, takeC s q1 58 = q := ⟨_, rfl⟩
  rw [e0, e2] at hk
  rw [e2] at hn2 hq
  obtain ⟨q3, e3⟩ : ∃ q, digitsC s q2 2 2 = q := ⟨_, rfl⟩
  obtain ⟨v2, f2'⟩ : ∃ q, numC s q2.pos 2 = q := ⟨_, rfl⟩
  rw [e3] at hn2 hq
  rw [f2'] at hn2
  have HP := Lib.hid h
  have H := Lib.hid (And.intro hz (And.intro ht (And.intro hn1 (And.intro hk hn2))))
  have HC := Lib.hid hcp
  have HQ := Lib.hid (And.intro hq trivial)
  have HM := Lib.hid hm
  clear hm
  clear hz ht hn1 hk hn2 hcp hq h e1 f1' e0 e2 e3 f2' h1 c0 c1 c2 f0 f1 f2
  unfold cPtr at H HM ⊢
  go_enter Tryd.func77, Tryd.ntmps77
  go_wp2_with fail
  refine (H.out.1).mono ?_
  rintro e w0 ⟨rfl, hA, kA⟩
  obtain ⟨c0, c1, c2, f0, f1, f2⟩ := hA.parts
  have hT := HC.out w0 hA
  have hbA : Below w0.heap.size w0 w0 := Below.refl _ _
  have HA := Lib.hid (And.intro hA (And.intro kA hT))
  clear hA kA hT hbA
  go_wp2_with fail
  refine (HM.out _ _ HA.out.2.2).mono ?_
  rintro e w1 ⟨rfl, h0, k0⟩
  go_wp2_with fail
  refine (H.out.2.1 _ _ h0).mono ?_
  rintro e w1' ⟨rfl, h1, k1'⟩
  have k1 := k0.trans k1'
  clear k0 k1' h0
  go_wp2_with fail
  refine (H.out.2.2.1 _ _ h1).mono ?_
  rintro e w2 ⟨rfl, h2, k2⟩
  have k12 := k1.trans k2
  clear k1 k2 h1
  go_wp2_with fail
  refine (H.out.2.2.2.1 _ _ h2).mono ?_
  rintro e w3 ⟨rfl, h3, k3⟩
  have k13 := k12.trans k3
  clear k12 k3 h2
  go_wp2_with fail
  refine (H.out.2.2.2.2 _ _ h3).mono ?_
  rintro e w4 ⟨rfl, h4, k4⟩
  have hb := fresh_below rfl (k13.trans k4)
  have hB := HA.out.1.below hb
  obtain ⟨d0, d1, d2, g0, g1, g2⟩ := h4.parts
  obtain ⟨b0, b1, b2, b3, b4, b5⟩ := hB.parts
  rw [HQ.out.1] at d2
  have HH := Lib.hid (And.intro hb (And.intro hB h4))
  clear hb hB h3 h4 k13 k4 c0 c1 c2 f0 f1 f2
  go_wp2
  go_ret
  exact ⟨rfl, HH.out.2.1, HA.out.2.1.below HH.out.1⟩

set_option maxRecDepth 100000 in
set_option maxHeartbeats 4000000 in
theorem zone_none (s : ByteArray) (B : Nat) (p : CS) (z : Int) (w : World) (h : CAt s B p w) (h1 : byN s p.pos ≠ 90) (h2 : byN s p.pos ≠ 45) (h3 : byN s p.pos ≠ 43) (hq : (digitsC s (takeC s (digitsC s (⟨p.pos, true⟩ : CS) 2 2) 58) 2 2).bad = true) :
    Calls Tryd.prog 77 #[cPtr B, .int .i64 z] w fun e w' => e = .returned (.int .i64 z) ∧ CAt s B p w' ∧ Fr B w w' := by
  obtain ⟨c0, c1, c2, f0, f1, f2⟩ := h.parts
  have hcp := fun W (hW : CAt s B p W) => CAt.copy hW
  have hz := take_no s B p 90 w h (by omega)
  have hm := fun W T hW => take_no s T p 45 W hW (by omega)
  have ht := fun W T hW => expect_any s T p 43 (by omega) W hW
  unfold expectC at ht
  rw [if_neg h3] at ht
  have hn1 := fun W T hW => cnumber_any s T (⟨p.pos, true⟩ : CS) 2 2 (by omega) (by omega) W hW
  have hk := fun W T hW => take_any s T (digitsC s (⟨p.pos, true⟩ : CS) 2 2) 58 (by omega) W hW
  have hn2 := fun W T hW => cnumber_any s T (takeC s (digitsC s (⟨p.pos, true⟩ : CS) 2 2) 58) 2 2 (by omega) (by omega) W hW
  obtain ⟨q1, e1⟩ : ∃ q, digitsC s (⟨p.pos, true⟩ : CS) 2 2 = q := ⟨_, rfl⟩
  obtain ⟨v1, f1'⟩ : ∃ q, numC s ((⟨p.pos, true⟩ : CS)).pos 2 = q := ⟨_, rfl⟩
  rw [e1] at hn1 hk hn2 hq
  rw [f1'] at hn1
  obtain ⟨tb, e0⟩ : ∃ q, tkB s q1 58 = q := ⟨_, rfl⟩
  obtain ⟨q2, e2⟩ : ∃ q, takeC s q1 58 = q := ⟨_, rfl⟩
  rw [e0, e2] at hk
  rw [e2] at hn2 hq
  obtain ⟨q3, e3⟩ : ∃ q, digitsC s q2 2 2 = q := ⟨_, rfl⟩
  obtain ⟨v2, f2'⟩ : ∃ q, numC s q2.pos 2 = q := ⟨_, rfl⟩
  rw [e3] at hn2 hq
  rw [f2'] at hn2
  have HP := Lib.hid h
  have H := Lib.hid (And.intro hz (And.intro ht (And.intro hn1 (And.intro hk hn2))))
  have HC := Lib.hid hcp
  have HQ := Lib.hid (And.intro hq trivial)
  have HM := Lib.hid hm
  clear hm
  clear hz ht hn1 hk hn2 hcp hq h e1 f1' e0 e2 e3 f2' h1 h2 h3 c0 c1 c2 f0 f1 f2
  unfold cPtr at H HM ⊢
  go_enter Tryd.func77, Tryd.ntmps77
  go_wp2_with fail
  refine (H.out.1).mono ?_
  rintro e w0 ⟨rfl, hA, kA⟩
  obtain ⟨c0, c1, c2, f0, f1, f2⟩ := hA.parts
  have hT := HC.out w0 hA
  have hbA : Below w0.heap.size w0 w0 := Below.refl _ _
  have HA := Lib.hid (And.intro hA (And.intro kA hT))
  clear hA kA hT hbA
  go_wp2_with fail
  refine (HM.out _ _ HA.out.2.2).mono ?_
  rintro e w1 ⟨rfl, h0, k0⟩
  go_wp2_with fail
  refine (H.out.2.1 _ _ h0).mono ?_
  rintro e w1' ⟨rfl, h1, k1'⟩
  have k1 := k0.trans k1'
  clear k0 k1' h0
  go_wp2_with fail
  refine (H.out.2.2.1 _ _ h1).mono ?_
  rintro e w2 ⟨rfl, h2, k2⟩
  have k12 := k1.trans k2
  clear k1 k2 h1
  go_wp2_with fail
  refine (H.out.2.2.2.1 _ _ h2).mono ?_
  rintro e w3 ⟨rfl, h3, k3⟩
  have k13 := k12.trans k3
  clear k12 k3 h2
  go_wp2_with fail
  refine (H.out.2.2.2.2 _ _ h3).mono ?_
  rintro e w4 ⟨rfl, h4, k4⟩
  have hb := fresh_below rfl (k13.trans k4)
  have hB := HA.out.1.below hb
  obtain ⟨d0, d1, d2, g0, g1, g2⟩ := h4.parts
  obtain ⟨b0, b1, b2, b3, b4, b5⟩ := hB.parts
  rw [HQ.out.1] at d2
  have HH := Lib.hid (And.intro hb (And.intro hB h4))
  clear hb hB h3 h4 k13 k4 c0 c1 c2 f0 f1 f2
  go_wp2
  go_ret
  exact ⟨rfl, HH.out.2.1, HA.out.2.1.below HH.out.1⟩

theorem zone_any (s : ByteArray) (B : Nat) (p : CS) (z : Int) (w : World) (h : CAt s B p w) :
    Calls Tryd.prog 77 #[cPtr B, .int .i64 z] w fun e w' => e = .returned (.int .i64 (zoneV s p z)) ∧ CAt s B (zoneC s p) w' ∧ Fr B w w' := by
  unfold zoneV zoneC
  by_cases hZ : byN s p.pos = 90
  · rw [if_pos hZ, if_pos hZ]; exact zone_Z s B p z w h hZ
  · rw [if_neg hZ, if_neg hZ]
    by_cases hm : byN s p.pos = 45
    · cases hq : (zon3 s p).bad with
      | true =>
        have hb : zonB s p = false := by unfold zonB; rw [hq]; simp
        rw [hb]; exact zone_minusBad s B p z w h hm hq
      | false =>
        have hb : zonB s p = true := by unfold zonB; rw [hq]; simp [hm]
        rw [hb, if_pos rfl, if_pos rfl, if_pos hm]; exact zone_minus s B p z w h hm hq
    · by_cases hp : byN s p.pos = 43
      · cases hq : (zon3 s p).bad with
        | true =>
          have hb : zonB s p = false := by unfold zonB; rw [hq]; simp
          rw [hb]; exact zone_plusBad s B p z w h hp hq
        | false =>
          have hb : zonB s p = true := by unfold zonB; rw [hq]; simp [hp]
          rw [hb, if_pos rfl, if_pos rfl, if_neg hm]; exact zone_plus s B p z w h hp hq
      · have hb : zonB s p = false := by unfold zonB; simp [hm, hp]
        rw [hb]
        exact zone_none s B p z w h hZ hm hp (digitsC_bad (by rw [takeC_bad]; exact digitsC_bad rfl))
end Go.Proofs.YtofomlbhbbhdjaaDoor
