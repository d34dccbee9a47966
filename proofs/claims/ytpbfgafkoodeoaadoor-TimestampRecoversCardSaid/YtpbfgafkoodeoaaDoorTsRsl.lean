/- The contract of the reference's form 3. -/
import Derived.Test.YtpbfgafkoodeoaaDoorTsRiso
import Derived.Test.YtpbfgafkoodeoaaDoorRvK
import Derived.Deep.DeepCutAuto
namespace Go.Proofs.YtpbfgafkoodeoaaDoor
open Go.RowKit

def tl5 (s : ByteArray) : CS := digitsC s (sl4 s) 2 4
theorem tl_5 (s : ByteArray) : (sl5 s).pos = (tl5 s).pos ∧ (sl5 s).bad = ((tl5 s).bad || decide (dRun s 4 (sl4 s).pos = 3)) := ⟨rfl, rfl⟩
def tlD (s : ByteArray) : D7 := ⟨rlY s, 0, 0, (clkH s (sl6 s) : Nat), (clkI s (sl6 s) : Nat), (clkS s (sl6 s) : Nat), (clkM s (sl6 s) : Nat)⟩
def slF (s : ByteArray) : Bool := decide (slA s ≤ 12) || decide (slB s ≤ 12)
theorem RI.drew {s : ByteArray} {n : Nat} {q : CS} {x : D7} {w0 w : World} (h : RI s n q x w0 w) : RI s n q x w0 w.drew := ⟨h.r, h.d, h.c, h.b.drew, h.hn⟩

set_option maxRecDepth 100000 in
set_option linter.unusedSimpArgs false in
set_option linter.unusedVariables false in
set_option maxHeartbeats 16000000 in
theorem rslashes_any (s : ByteArray) (first : Bool) (hs : s.size ≤ 20000) (w : World) :
    Calls Tryd.prog 22 #[.string s, .bool first] w fun e w' => e = .returned (.tuple #[(rlD s first).ag, .int .i64 ((sl7 s).pos : Int), .bool (!(sl7 s).bad), .bool (slF s)]) ∧ Below w.heap.size w w' := by
  have i1 : (sl1 s).pos ≤ s.size := digitsC_in (Nat.zero_le _)
  have i2 : (sl2 s).pos ≤ s.size := expectC_in i1 (by omega)
  have i3 : (sl3 s).pos ≤ s.size := digitsC_in i2
  have i4 : (sl4 s).pos ≤ s.size := expectC_in i3 (by omega)
  have i5 : (sl5 s).pos ≤ s.size := dRun_in s 4 _ i4
  have i6 : (sl6 s).pos ≤ s.size := expectC_in i5 (by omega)
  have N1 : ∀ W, Calls Tryd.prog 37 #[.agg #[.string s, .int .i64 0, .bool true], .int .i64 1, .int .i64 2] W fun e w' => e = .returned (.tuple #[rcV s (sl1 s), .int .i64 (slA s : Nat)]) ∧ Below W.heap.size W w' := fun W => rcV_number s ⟨0, false⟩ 1 2 (Nat.zero_le _) hs (by omega) (by omega) W
  have N2 : ∀ W, Calls Tryd.prog 38 #[rcV s (sl1 s), .int .u8 47] W fun e w' => e = .returned (rcV s (sl2 s)) ∧ Below W.heap.size W w' := fun W => rcV_byte s (sl1 s) 47 i1 hs (by omega) W
  have N3 : ∀ W, Calls Tryd.prog 37 #[rcV s (sl2 s), .int .i64 1, .int .i64 2] W fun e w' => e = .returned (.tuple #[rcV s (sl3 s), .int .i64 (slB s : Nat)]) ∧ Below W.heap.size W w' := fun W => rcV_number s (sl2 s) 1 2 i2 hs (by omega) (by omega) W
  have N4 : ∀ W, Calls Tryd.prog 38 #[rcV s (sl3 s), .int .u8 47] W fun e w' => e = .returned (rcV s (sl4 s)) ∧ Below W.heap.size W w' := fun W => rcV_byte s (sl3 s) 47 i3 hs (by omega) W
  have N5 : ∀ W, Calls Tryd.prog 37 #[rcV s (sl4 s), .int .i64 2, .int .i64 4] W fun e w' => e = .returned (.tuple #[rcV s (tl5 s), .int .i64 (numC s (sl4 s).pos 4 : Nat)]) ∧ Below W.heap.size W w' := fun W => rcV_number s (sl4 s) 2 4 i4 hs (by omega) (by omega) W
  have N6 : ∀ W, Calls Tryd.prog 38 #[rcV s (sl5 s), .int .u8 32] W fun e w' => e = .returned (rcV s (sl6 s)) ∧ Below W.heap.size W w' := fun W => rcV_byte s (sl5 s) 32 i5 hs (by omega) W
  have N7 : ∀ W, Calls Tryd.prog 24 #[rcV s (sl6 s), .agg #[.int .i64 (rlY s), .int .i64 0, .int .i64 0, .int .i64 0, .int .i64 0, .int .i64 0, .int .i64 0]] W fun e w' => e = .returned (.tuple #[rcV s (sl7 s), (tlD s).ag]) ∧ Below W.heap.size W w' := fun W => rclk_any s (sl6 s) (rlY s) 0 0 i6 hs W
  have hnn := And.intro N1 (And.intro N2 (And.intro N3 (And.intro N4 (And.intro N5 (And.intro N6 N7)))))
  have hA := numC_lt (s := s) (k := 0) (b := 2) (Nat.zero_le _)
  have hB := numC_lt (s := s) (k := (sl2 s).pos) (b := 2) i2
  have hY := numC_lt (s := s) (k := (sl4 s).pos) (b := 4) i4
  have hr4 := dRun_le s 4 (sl4 s).pos
  have hsub : ((tl5 s).pos : Int) - ((sl4 s).pos : Int) = (dRun s 4 (sl4 s).pos : Int) := by show (((sl4 s).pos + dRun s 4 (sl4 s).pos : Nat) : Int) - _ = _; push_cast; omega
  have H5 : Hid ((tl5 s).pos ≤ s.size ∧ (sl4 s).pos ≤ s.size) := ⟨i5, i4⟩
  clear N1 N2 N3 N4 N5 N6 N7 i1 i2 i3 i4 i5 i6
  have hA2 : slA s < 100 := hA
  have hB2 : slB s < 100 := hB
  have ey : rlY s = if dRun s 4 (sl4 s).pos = 2 then (if numC s (sl4 s).pos 4 < 70 then 2000 + (numC s (sl4 s).pos 4 : Int) else 1900 + (numC s (sl4 s).pos 4 : Int)) else (numC s (sl4 s).pos 4 : Int) := rfl
  have em : rlM s first = if slB s ≤ 12 ∧ (12 < slA s ∨ first = true) then (slB s, slA s) else (slA s, slB s) := rfl
  have ef : slF s = (decide (slA s ≤ 12) || decide (slB s ≤ 12)) := rfl
  have e5 := (tl_5 s).2
  clear hA hB
  obtain ⟨A, hA⟩ : ∃ A, slA s = A := ⟨_, rfl⟩
  obtain ⟨B, hB⟩ : ∃ B, slB s = B := ⟨_, rfl⟩
  obtain ⟨K, hK⟩ : ∃ K, numC s (sl4 s).pos 4 = K := ⟨_, rfl⟩
  obtain ⟨r, hr⟩ : ∃ r, dRun s 4 (sl4 s).pos = r := ⟨_, rfl⟩
  rw [hA] at hnn hA2 em ef
  rw [hB] at hnn hB2 em ef
  rw [hK] at hnn hY ey
  rw [hr] at hr4 hsub ey e5
  obtain ⟨Y, hYY⟩ : ∃ Y, rlY s = Y := ⟨_, rfl⟩
  rw [hYY] at hnn ey
  unfold rcV D7.ag at hnn
  have HN := Lib.hid hnn
  have HE := Lib.hid (And.intro e5 (And.intro ey (And.intro em ef)))
  have HSUB := Lib.hid hsub
  have hY2 : K < 10000 := hY
  have HYY := Lib.hid hYY
  clear hsub hnn hA hB hK hr hY ey em ef e5 hYY
  have RS0 := Lib.hid (show RI s w.heap.size ⟨0, false⟩ ⟨0, 0, 0, 0, 0, 0, 0⟩ w (((w.alloc (.cells #[.int .i64 0, .int .i64 0, .int .i64 0, .int .i64 0, .int .i64 0, .int .i64 0, .int .i64 0] 38)).alloc (.cells #[.int .i64 0, .int .i64 0, .int .i64 0, .int .i64 0, .int .i64 0, .int .i64 0, .int .i64 0] 38)).alloc (.cells #[.string s, .int .i64 0, .bool true] 67)) from RI.start s ⟨0, false⟩ w)
  obtain ⟨n, hn⟩ : ∃ n, w.heap.size = n := ⟨_, rfl⟩
  go_enter Tryd.func22, Tryd.ntmps22
  go_wp2_with fail
  obtain ⟨X, hX⟩ : ∃ X, (((w.alloc (.cells #[.int .i64 0, .int .i64 0, .int .i64 0, .int .i64 0, .int .i64 0, .int .i64 0, .int .i64 0] 38)).alloc (.cells #[.int .i64 0, .int .i64 0, .int .i64 0, .int .i64 0, .int .i64 0, .int .i64 0, .int .i64 0] 38)).alloc (.cells #[.string s, .int .i64 0, .bool true] 67)) = X := ⟨_, rfl⟩
  rw [hX, hn] at RS0
  rw [hX]
  have HNN := Lib.hid hn
  clear hX hn
  have nn1 : n + 1 ≠ n + 1 + 1 := by omega
  have nn2 : n + 1 + 1 ≠ n + 1 := by omega
  refine (HN.out.1 _).mono ?_
  rintro e w1 ⟨rfl, hb1⟩
  have RT1 := Lib.hid (RS0.out.below hb1)
  obtain ⟨c0, c1, c2, g0, g1, g2⟩ := RT1.out.cf
  have RS1 := Lib.hid (RT1.out.put (q' := sl1 s))
  clear hb1
  go_wp2_with fail
  refine (HN.out.2.1 _).mono ?_
  rintro e w2 ⟨rfl, hb2⟩
  clear c0 c1 c2 g0 g1 g2
  have RT2 := Lib.hid (RS1.out.below hb2)
  obtain ⟨c0, c1, c2, g0, g1, g2⟩ := RT2.out.cf
  have RS2 := Lib.hid (RT2.out.put (q' := sl2 s))
  clear hb2
  go_wp2_with fail
  refine (HN.out.2.2.1 _).mono ?_
  rintro e w3 ⟨rfl, hb3⟩
  clear c0 c1 c2 g0 g1 g2
  have RT3 := Lib.hid (RS2.out.below hb3)
  obtain ⟨c0, c1, c2, g0, g1, g2⟩ := RT3.out.cf
  have RS3 := Lib.hid (RT3.out.put (q' := sl3 s))
  clear hb3
  go_wp2_with fail
  refine (HN.out.2.2.2.1 _).mono ?_
  rintro e w4 ⟨rfl, hb4⟩
  clear c0 c1 c2 g0 g1 g2
  have RT4 := Lib.hid (RS3.out.below hb4)
  obtain ⟨c0, c1, c2, g0, g1, g2⟩ := RT4.out.cf
  have RS4 := Lib.hid (RT4.out.put (q' := sl4 s))
  clear hb4
  go_wp2_with fail
  refine (HN.out.2.2.2.2.1 _).mono ?_
  rintro e w5 ⟨rfl, hb5⟩
  clear c0 c1 c2 g0 g1 g2
  have RT5 := Lib.hid (RS4.out.below hb5)
  obtain ⟨c0, c1, c2, g0, g1, g2⟩ := RT5.out.cf
  have d0 := RT5.out.d.cell 0
  have f0 := RT5.out.d.free 0
  have RS5 := Lib.hid ((RT5.out.put (q' := tl5 s)).s0 (K : Int))
  clear hb5
  go_upto_region 9 with (fail)
  have RG5 : RI s n (tl5 s) ⟨(K : Int), 0, 0, 0, 0, 0, 0⟩ w ((((w5.setCell ⟨n + 1 + 1, 0, none⟩ (.string s)).setCell ⟨n + 1 + 1, 1, none⟩ (.int .i64 ((tl5 s).pos : Int))).setCell ⟨n + 1 + 1, 2, none⟩ (.bool (!(tl5 s).bad))).setCell ⟨n + 1, 0, none⟩ (.int .i64 (K : Int))) := RS5.out
  obtain ⟨W5, hW5⟩ : ∃ W, (((w5.setCell ⟨n + 1 + 1, 0, none⟩ (.string s)).setCell ⟨n + 1 + 1, 1, none⟩ (.int .i64 ((tl5 s).pos : Int))).setCell ⟨n + 1 + 1, 2, none⟩ (.bool (!(tl5 s).bad))).setCell ⟨n + 1, 0, none⟩ (.int .i64 (K : Int)) = W := ⟨_, rfl⟩
  rw [hW5] at RG5 ⊢
  have R5 := Lib.hid RG5
  clear c0 c1 c2 g0 g1 g2 d0 f0 RG5 hW5 RS5 RT5 RS0 RS1 RS2 RS3 RS4 RT1 RT2 RT3 RT4
  obtain ⟨c0, c1, c2, g0, g1, g2⟩ := R5.out.cf
  have hsub := HSUB.out
  have hh5 := H5.out
  obtain ⟨h51, h52⟩ := hh5
  have hwr : IntKind.i64.wrap (((tl5 s).pos : Int) - ((sl4 s).pos : Int)) = (r : Int) := by rw [← hsub]; exact IntWalk.i64_in _ (by omega)
  have p5 : (sl5 s).pos = (tl5 s).pos := rfl
  have HP := Lib.hid p5
  clear p5 h51 h52 HSUB
  go_upto_region 10 with (fail)
  clear hsub hwr
  go_cut [] (fun wx => RI s n (sl5 s) ⟨(K : Int), 0, 0, 0, 0, 0, 0⟩ w wx)
  case first =>
    have HC5 := Lib.hid (show ∀ b : Bool, (!(sl5 s).bad) = b → RI s n (sl5 s) ⟨(K : Int), 0, 0, 0, 0, 0, 0⟩ w (W5.setCell ⟨n + 1 + 1, 2, none⟩ (.bool b)) from fun b hb => by
      have h := R5.out.ok b
      have e : (⟨(tl5 s).pos, !b⟩ : CS) = sl5 s := by rw [← hb, Bool.not_not]; rfl
      rw [e] at h
      exact h)
    have h5 := HE.out.1
    cases hb : (tl5 s).bad with
    | true =>
      rw [hb] at c2 h5
      have H6 := Lib.hid (show (!(sl5 s).bad) = false by rw [h5]; rfl)
      clear h5 hb
      go_wp2
      go_meet
      exact HC5.out _ H6.out
    | false =>
      rw [hb] at c2 h5
      by_cases h3 : r = 3
      · have H6 := Lib.hid (show (!(sl5 s).bad) = false by rw [h5, decide_eq_true h3]; rfl)
        have n3 : ((r : Int) != 3) = false := by simp [h3]
        clear h5 hb h3
        go_wp2
        go_meet
        exact HC5.out _ H6.out
      · have H6 := Lib.hid (show (!(sl5 s).bad) = true by rw [h5, decide_eq_false h3]; rfl)
        have n3 : ((r : Int) != 3) = true := by rw [bne_iff_ne]; omega
        clear h5 hb h3
        go_wp2
        go_meet
        exact HC5.out _ H6.out
  case rest =>
    have R6 := Lib.hid hcut
    clear hcut R5 c0 c1 c2 g0 g1 g2
    have d0 := R6.out.d.cell 0
    have f0 := R6.out.d.free 0
    simp only [date7, D7.cs, List.getElem?_toArray, List.getElem?_cons_zero] at d0
    obtain ⟨W6, hW6⟩ : ∃ W, wc = W := ⟨_, rfl⟩
    subst hW6
    go_upto_if 50 with (fail)
    go_cut [] (fun wx => RI s n (sl5 s) ⟨Y, 0, 0, 0, 0, 0, 0⟩ w wx)
    case first =>
      have ey := HE.out.2.1
      by_cases h2 : r = 2
      · rw [if_pos h2] at ey
        have n2 : ((r : Int) == 2) = true := by simp [h2]
        by_cases h70 : K < 70
        · rw [if_pos h70] at ey
          have H7 := Lib.hid ey
          have q1 : decide ((K : Int) + 1900 < 1970) = true := by rw [decide_eq_true_iff]; omega
          clear ey h2
          go_wp2
          go_meet
          rw [H7.out]
          have h := (R6.out.s0 ((K : Int) + 1900)).s0 ((K : Int) + 1900 + 100)
          have e : (2000 : Int) + (K : Int) = (K : Int) + 1900 + 100 := by omega
          rw [e]
          exact h
        · rw [if_neg h70] at ey
          have H7 := Lib.hid ey
          have q1 : decide ((K : Int) + 1900 < 1970) = false := by rw [decide_eq_false_iff_not]; omega
          clear ey h2
          go_wp2
          go_meet
          rw [H7.out]
          have h := R6.out.s0 ((K : Int) + 1900)
          have e : (1900 : Int) + (K : Int) = (K : Int) + 1900 := by omega
          rw [e]
          exact h
      · rw [if_neg h2] at ey
        have H7 := Lib.hid ey
        have n2 : ((r : Int) == 2) = false := by rw [beq_eq_false_iff_ne]; omega
        clear ey h2
        go_wp2
        go_meet
        rw [H7.out]
        exact R6.out
    case rest =>
      have R7 := Lib.hid hcut
      clear hcut R6 d0 f0
      obtain ⟨c0, c1, c2, g0, g1, g2⟩ := R7.out.cf
      go_wp2_with fail
      refine (HN.out.2.2.2.2.2.1 _).mono ?_
      rintro e w6 ⟨rfl, hb6⟩
      clear c0 c1 c2 g0 g1 g2
      have RT6 := Lib.hid (R7.out.below hb6)
      clear hb6
      obtain ⟨c0, c1, c2, g0, g1, g2⟩ := RT6.out.cf
      have RG6 : RI s n (sl6 s) ⟨Y, 0, 0, 0, 0, 0, 0⟩ w (((w6.setCell ⟨n + 1 + 1, 0, none⟩ (.string s)).setCell ⟨n + 1 + 1, 1, none⟩ (.int .i64 ((sl6 s).pos : Int))).setCell ⟨n + 1 + 1, 2, none⟩ (.bool (!(sl6 s).bad))) := RT6.out.put (q' := sl6 s)
      go_upto_region 16 with (fail)
      obtain ⟨W6, hW6⟩ : ∃ W, ((w6.setCell ⟨n + 1 + 1, 0, none⟩ (.string s)).setCell ⟨n + 1 + 1, 1, none⟩ (.int .i64 ((sl6 s).pos : Int))).setCell ⟨n + 1 + 1, 2, none⟩ (.bool (!(sl6 s).bad)) = W := ⟨_, rfl⟩
      rw [hW6] at RG6 ⊢
      have R8 := Lib.hid RG6
      clear RG6 hW6 RT6 R7 c0 c1 c2 g0 g1 g2
      obtain ⟨c0, c1, c2, g0, g1, g2⟩ := R8.out.cf
      have d0 := R8.out.d.cell 0
      have d1 := R8.out.d.cell 1
      have d2 := R8.out.d.cell 2
      have d3 := R8.out.d.cell 3
      have d4 := R8.out.d.cell 4
      have d5 := R8.out.d.cell 5
      have d6 := R8.out.d.cell 6
      simp only [date7, D7.cs, List.getElem?_toArray, List.getElem?_cons_zero, List.getElem?_cons_succ] at d0 d1 d2 d3 d4 d5 d6
      go_wp2_with fail
      refine (HN.out.2.2.2.2.2.2 _).mono ?_
      rintro e w7 ⟨rfl, hb7⟩
      clear c0 c1 c2 g0 g1 g2 d0 d1 d2 d3 d4 d5 d6
      have R9 := Lib.hid (R8.out.below hb7)
      clear hb7
      obtain ⟨c0, c1, c2, g0, g1, g2⟩ := R9.out.cf
      have d0 := R9.out.d.cell 0
      have d1 := R9.out.d.cell 1
      have d2 := R9.out.d.cell 2
      have d3 := R9.out.d.cell 3
      have d4 := R9.out.d.cell 4
      have d5 := R9.out.d.cell 5
      have d6 := R9.out.d.cell 6
      simp only [date7, D7.cs, List.getElem?_toArray, List.getElem?_cons_zero, List.getElem?_cons_succ] at d0 d1 d2 d3 d4 d5 d6
      have df0 := R9.out.d.free 0
      have df1 := R9.out.d.free 1
      have df2 := R9.out.d.free 2
      have df3 := R9.out.d.free 3
      have df4 := R9.out.d.free 4
      have df5 := R9.out.d.free 5
      have df6 := R9.out.d.free 6
      have RG9 : RI s n (sl7 s) (tlD s) w ((((((((((w7.setCell ⟨n + 1 + 1, 0, none⟩ (.string s)).setCell ⟨n + 1 + 1, 1, none⟩ (.int .i64 ((sl7 s).pos : Int))).setCell ⟨n + 1 + 1, 2, none⟩ (.bool (!(sl7 s).bad))).setCell ⟨n + 1, 0, none⟩ (.int .i64 (tlD s).y)).setCell ⟨n + 1, 1, none⟩ (.int .i64 (tlD s).m)).setCell ⟨n + 1, 2, none⟩ (.int .i64 (tlD s).d)).setCell ⟨n + 1, 3, none⟩ (.int .i64 (tlD s).h)).setCell ⟨n + 1, 4, none⟩ (.int .i64 (tlD s).i)).setCell ⟨n + 1, 5, none⟩ (.int .i64 (tlD s).s)).setCell ⟨n + 1, 6, none⟩ (.int .i64 (tlD s).c)) := (R9.out.put (q' := sl7 s)).putd (tlD s)
      go_upto_region 17 with (fail)
      obtain ⟨W9, hW9⟩ : ∃ W, (((((((((w7.setCell ⟨n + 1 + 1, 0, none⟩ (.string s)).setCell ⟨n + 1 + 1, 1, none⟩ (.int .i64 ((sl7 s).pos : Int))).setCell ⟨n + 1 + 1, 2, none⟩ (.bool (!(sl7 s).bad))).setCell ⟨n + 1, 0, none⟩ (.int .i64 (tlD s).y)).setCell ⟨n + 1, 1, none⟩ (.int .i64 (tlD s).m)).setCell ⟨n + 1, 2, none⟩ (.int .i64 (tlD s).d)).setCell ⟨n + 1, 3, none⟩ (.int .i64 (tlD s).h)).setCell ⟨n + 1, 4, none⟩ (.int .i64 (tlD s).i)).setCell ⟨n + 1, 5, none⟩ (.int .i64 (tlD s).s)).setCell ⟨n + 1, 6, none⟩ (.int .i64 (tlD s).c) = W := ⟨_, rfl⟩
      rw [hW9] at RG9 ⊢
      have RA := Lib.hid RG9
      clear RG9 hW9 R9 R8 c0 c1 c2 g0 g1 g2 d0 d1 d2 d3 d4 d5 d6 df0 df1 df2 df3 df4 df5 df6
      have d1 := RA.out.d.cell 1
      have d2 := RA.out.d.cell 2
      have df1 := RA.out.d.free 1
      have df2 := RA.out.d.free 2
      have em := HE.out.2.2.1
      have ef := HE.out.2.2.2
      have nn3 : n ≠ n + 1 := by omega
      have nn4 : n + 1 ≠ n := by omega
      have nn5 : n ≠ n + 1 + 1 := by omega
      have nn6 : n + 1 + 1 ≠ n := by omega
      have hrd : ∀ p, rlM s first = p → rlD s first = ⟨(tlD s).y, (p.1 : Nat), (p.2 : Nat), (tlD s).h, (tlD s).i, (tlD s).s, (tlD s).c⟩ := fun p hp => by unfold rlD; rw [hp]; rfl
      by_cases hb12 : B ≤ 12
      · have qb : decide ((B : Int) ≤ 12) = true := by rw [decide_eq_true_iff]; omega
        by_cases ha12 : 12 < A
        · have qa : decide ((12 : Int) < (A : Int)) = true := by rw [decide_eq_true_iff]; omega
          have qc : decide ((A : Int) ≤ 12) = false := by rw [decide_eq_false_iff_not]; omega
          rw [if_pos ⟨hb12, .inl ha12⟩] at em
          rw [decide_eq_true hb12, Bool.or_true] at ef
          have HR := Lib.hid (And.intro (hrd _ em) ef)
          clear em ef hrd
          have RG : RI s n (sl7 s) (rlD s first) w ((((W9.setCell ⟨n + 1, 1, none⟩ (.int .i64 (A : Int))).setCell ⟨n + 1, 2, none⟩ (.int .i64 (B : Int))).setCell ⟨n + 1, 1, none⟩ (.int .i64 (B : Int))).setCell ⟨n + 1, 2, none⟩ (.int .i64 (A : Int))) := by rw [HR.out.1]; exact (((RA.out.s1 (A : Int)).s2 (B : Int)).s1 (B : Int)).s2 (A : Int)
          go_upto_region 20 with (fail)
          obtain ⟨WB, hWB⟩ : ∃ W, (((W9.setCell ⟨n + 1, 1, none⟩ (.int .i64 (A : Int))).setCell ⟨n + 1, 2, none⟩ (.int .i64 (B : Int))).setCell ⟨n + 1, 1, none⟩ (.int .i64 (B : Int))).setCell ⟨n + 1, 2, none⟩ (.int .i64 (A : Int)) = W := ⟨_, rfl⟩
          rw [hWB] at RG ⊢
          have RB := Lib.hid RG
          clear RG hWB RA d1 d2 df1 df2
          obtain ⟨c0, c1, c2, g0, g1, g2⟩ := RB.out.cf
          have d0 := RB.out.d.cell 0
          have d1 := RB.out.d.cell 1
          have d2 := RB.out.d.cell 2
          have d3 := RB.out.d.cell 3
          have d4 := RB.out.d.cell 4
          have d5 := RB.out.d.cell 5
          have d6 := RB.out.d.cell 6
          simp only [date7, D7.cs, List.getElem?_toArray, List.getElem?_cons_zero, List.getElem?_cons_succ] at d0 d1 d2 d3 d4 d5 d6
          have r0 := RB.out.r.cell 0
          have rf0 := RB.out.r.free 0
          have r1 := RB.out.r.cell 1
          have rf1 := RB.out.r.free 1
          have r2 := RB.out.r.cell 2
          have rf2 := RB.out.r.free 2
          have r3 := RB.out.r.cell 3
          have rf3 := RB.out.r.free 3
          have r4 := RB.out.r.cell 4
          have rf4 := RB.out.r.free 4
          have r5 := RB.out.r.cell 5
          have rf5 := RB.out.r.free 5
          have r6 := RB.out.r.cell 6
          have rf6 := RB.out.r.free 6
          simp only [z7, date7, List.getElem?_toArray, List.getElem?_cons_zero, List.getElem?_cons_succ] at r0 r1 r2 r3 r4 r5 r6
          go_region
          all_goals
            go_wp2
            exact bodyPost_ret (v := .tuple #[.agg #[.int .i64 (rlD s first).y, .int .i64 (rlD s first).m, .int .i64 (rlD s first).d, .int .i64 (rlD s first).h, .int .i64 (rlD s first).i, .int .i64 (rlD s first).s, .int .i64 (rlD s first).c], .int .i64 ((sl7 s).pos : Int), .bool (!(sl7 s).bad), .bool true]) (by simp [results, Tryd.results22, go_sem, r0, r1, r2, r3, r4, r5, r6, d0, d1, d2, d3, d4, d5, d6]) rfl ⟨by rw [HR.out.2]; rfl, Below.mono (((((((RB.out.b.setCell (p := ⟨n, 0, none⟩) (Nat.le_refl _) _).setCell (p := ⟨n, 1, none⟩) (Nat.le_refl _) _).setCell (p := ⟨n, 2, none⟩) (Nat.le_refl _) _).setCell (p := ⟨n, 3, none⟩) (Nat.le_refl _) _).setCell (p := ⟨n, 4, none⟩) (Nat.le_refl _) _).setCell (p := ⟨n, 5, none⟩) (Nat.le_refl _) _).setCell (p := ⟨n, 6, none⟩) (Nat.le_refl _) _).drew (Nat.le_of_eq HNN.out)⟩
        · have qa : decide ((12 : Int) < (A : Int)) = false := by rw [decide_eq_false_iff_not]; omega
          have qc : decide ((A : Int) ≤ 12) = true := by rw [decide_eq_true_iff]; omega
          rw [decide_eq_true hb12, Bool.or_true] at ef
          cases first with
          | true =>
            rw [if_pos ⟨hb12, .inr rfl⟩] at em
            have HR := Lib.hid (And.intro (hrd _ em) ef)
            clear em ef hrd
            have RG : RI s n (sl7 s) (rlD s true) w ((((W9.setCell ⟨n + 1, 1, none⟩ (.int .i64 (A : Int))).setCell ⟨n + 1, 2, none⟩ (.int .i64 (B : Int))).setCell ⟨n + 1, 1, none⟩ (.int .i64 (B : Int))).setCell ⟨n + 1, 2, none⟩ (.int .i64 (A : Int))) := by rw [HR.out.1]; exact (((RA.out.s1 (A : Int)).s2 (B : Int)).s1 (B : Int)).s2 (A : Int)
            go_upto_region 20 with (fail)
            obtain ⟨WB, hWB⟩ : ∃ W, (((W9.setCell ⟨n + 1, 1, none⟩ (.int .i64 (A : Int))).setCell ⟨n + 1, 2, none⟩ (.int .i64 (B : Int))).setCell ⟨n + 1, 1, none⟩ (.int .i64 (B : Int))).setCell ⟨n + 1, 2, none⟩ (.int .i64 (A : Int)) = W := ⟨_, rfl⟩
            rw [hWB] at RG ⊢
            have RB := Lib.hid RG
            clear RG hWB RA d1 d2 df1 df2
            obtain ⟨c0, c1, c2, g0, g1, g2⟩ := RB.out.cf
            have d0 := RB.out.d.cell 0
            have d1 := RB.out.d.cell 1
            have d2 := RB.out.d.cell 2
            have d3 := RB.out.d.cell 3
            have d4 := RB.out.d.cell 4
            have d5 := RB.out.d.cell 5
            have d6 := RB.out.d.cell 6
            simp only [date7, D7.cs, List.getElem?_toArray, List.getElem?_cons_zero, List.getElem?_cons_succ] at d0 d1 d2 d3 d4 d5 d6
            have r0 := RB.out.r.cell 0
            have rf0 := RB.out.r.free 0
            have r1 := RB.out.r.cell 1
            have rf1 := RB.out.r.free 1
            have r2 := RB.out.r.cell 2
            have rf2 := RB.out.r.free 2
            have r3 := RB.out.r.cell 3
            have rf3 := RB.out.r.free 3
            have r4 := RB.out.r.cell 4
            have rf4 := RB.out.r.free 4
            have r5 := RB.out.r.cell 5
            have rf5 := RB.out.r.free 5
            have r6 := RB.out.r.cell 6
            have rf6 := RB.out.r.free 6
            simp only [z7, date7, List.getElem?_toArray, List.getElem?_cons_zero, List.getElem?_cons_succ] at r0 r1 r2 r3 r4 r5 r6
            go_region
            all_goals
              go_wp2
              exact bodyPost_ret (v := .tuple #[.agg #[.int .i64 (rlD s true).y, .int .i64 (rlD s true).m, .int .i64 (rlD s true).d, .int .i64 (rlD s true).h, .int .i64 (rlD s true).i, .int .i64 (rlD s true).s, .int .i64 (rlD s true).c], .int .i64 ((sl7 s).pos : Int), .bool (!(sl7 s).bad), .bool true]) (by simp [results, Tryd.results22, go_sem, r0, r1, r2, r3, r4, r5, r6, d0, d1, d2, d3, d4, d5, d6]) rfl ⟨by rw [HR.out.2]; rfl, Below.mono (((((((RB.out.b.setCell (p := ⟨n, 0, none⟩) (Nat.le_refl _) _).setCell (p := ⟨n, 1, none⟩) (Nat.le_refl _) _).setCell (p := ⟨n, 2, none⟩) (Nat.le_refl _) _).setCell (p := ⟨n, 3, none⟩) (Nat.le_refl _) _).setCell (p := ⟨n, 4, none⟩) (Nat.le_refl _) _).setCell (p := ⟨n, 5, none⟩) (Nat.le_refl _) _).setCell (p := ⟨n, 6, none⟩) (Nat.le_refl _) _).drew (Nat.le_of_eq HNN.out)⟩
          | false =>
            rw [if_neg (fun x => x.2.elim ha12 (fun y => by cases y))] at em
            have HR := Lib.hid (And.intro (hrd _ em) ef)
            clear em ef hrd
            have RG : RI s n (sl7 s) (rlD s false) w ((W9.setCell ⟨n + 1, 1, none⟩ (.int .i64 (A : Int))).setCell ⟨n + 1, 2, none⟩ (.int .i64 (B : Int))) := by rw [HR.out.1]; exact (RA.out.s1 (A : Int)).s2 (B : Int)
            go_upto_region 20 with (fail)
            obtain ⟨WB, hWB⟩ : ∃ W, (W9.setCell ⟨n + 1, 1, none⟩ (.int .i64 (A : Int))).setCell ⟨n + 1, 2, none⟩ (.int .i64 (B : Int)) = W := ⟨_, rfl⟩
            rw [hWB] at RG ⊢
            have RB := Lib.hid RG
            clear RG hWB RA d1 d2 df1 df2
            obtain ⟨c0, c1, c2, g0, g1, g2⟩ := RB.out.cf
            have d0 := RB.out.d.cell 0
            have d1 := RB.out.d.cell 1
            have d2 := RB.out.d.cell 2
            have d3 := RB.out.d.cell 3
            have d4 := RB.out.d.cell 4
            have d5 := RB.out.d.cell 5
            have d6 := RB.out.d.cell 6
            simp only [date7, D7.cs, List.getElem?_toArray, List.getElem?_cons_zero, List.getElem?_cons_succ] at d0 d1 d2 d3 d4 d5 d6
            have r0 := RB.out.r.cell 0
            have rf0 := RB.out.r.free 0
            have r1 := RB.out.r.cell 1
            have rf1 := RB.out.r.free 1
            have r2 := RB.out.r.cell 2
            have rf2 := RB.out.r.free 2
            have r3 := RB.out.r.cell 3
            have rf3 := RB.out.r.free 3
            have r4 := RB.out.r.cell 4
            have rf4 := RB.out.r.free 4
            have r5 := RB.out.r.cell 5
            have rf5 := RB.out.r.free 5
            have r6 := RB.out.r.cell 6
            have rf6 := RB.out.r.free 6
            simp only [z7, date7, List.getElem?_toArray, List.getElem?_cons_zero, List.getElem?_cons_succ] at r0 r1 r2 r3 r4 r5 r6
            go_region
            all_goals
              go_wp2
              exact bodyPost_ret (v := .tuple #[.agg #[.int .i64 (rlD s false).y, .int .i64 (rlD s false).m, .int .i64 (rlD s false).d, .int .i64 (rlD s false).h, .int .i64 (rlD s false).i, .int .i64 (rlD s false).s, .int .i64 (rlD s false).c], .int .i64 ((sl7 s).pos : Int), .bool (!(sl7 s).bad), .bool true]) (by simp [results, Tryd.results22, go_sem, r0, r1, r2, r3, r4, r5, r6, d0, d1, d2, d3, d4, d5, d6]) rfl ⟨by rw [HR.out.2]; rfl, Below.mono (((((((RB.out.b.setCell (p := ⟨n, 0, none⟩) (Nat.le_refl _) _).setCell (p := ⟨n, 1, none⟩) (Nat.le_refl _) _).setCell (p := ⟨n, 2, none⟩) (Nat.le_refl _) _).setCell (p := ⟨n, 3, none⟩) (Nat.le_refl _) _).setCell (p := ⟨n, 4, none⟩) (Nat.le_refl _) _).setCell (p := ⟨n, 5, none⟩) (Nat.le_refl _) _).setCell (p := ⟨n, 6, none⟩) (Nat.le_refl _) _).drew (Nat.le_of_eq HNN.out)⟩
      · have qb : decide ((B : Int) ≤ 12) = false := by rw [decide_eq_false_iff_not]; omega
        rw [if_neg (fun x => hb12 x.1)] at em
        by_cases ha12 : A ≤ 12
        · have qc : decide ((A : Int) ≤ 12) = true := by rw [decide_eq_true_iff]; omega
          rw [decide_eq_true ha12, Bool.true_or] at ef
          have HR := Lib.hid (And.intro (hrd _ em) ef)
          clear em ef hrd
          have RG : RI s n (sl7 s) (rlD s first) w ((W9.setCell ⟨n + 1, 1, none⟩ (.int .i64 (A : Int))).setCell ⟨n + 1, 2, none⟩ (.int .i64 (B : Int))) := by rw [HR.out.1]; exact (RA.out.s1 (A : Int)).s2 (B : Int)
          go_upto_region 20 with (fail)
          obtain ⟨WB, hWB⟩ : ∃ W, (W9.setCell ⟨n + 1, 1, none⟩ (.int .i64 (A : Int))).setCell ⟨n + 1, 2, none⟩ (.int .i64 (B : Int)) = W := ⟨_, rfl⟩
          rw [hWB] at RG ⊢
          have RB := Lib.hid RG
          clear RG hWB RA d1 d2 df1 df2
          obtain ⟨c0, c1, c2, g0, g1, g2⟩ := RB.out.cf
          have d0 := RB.out.d.cell 0
          have d1 := RB.out.d.cell 1
          have d2 := RB.out.d.cell 2
          have d3 := RB.out.d.cell 3
          have d4 := RB.out.d.cell 4
          have d5 := RB.out.d.cell 5
          have d6 := RB.out.d.cell 6
          simp only [date7, D7.cs, List.getElem?_toArray, List.getElem?_cons_zero, List.getElem?_cons_succ] at d0 d1 d2 d3 d4 d5 d6
          have r0 := RB.out.r.cell 0
          have rf0 := RB.out.r.free 0
          have r1 := RB.out.r.cell 1
          have rf1 := RB.out.r.free 1
          have r2 := RB.out.r.cell 2
          have rf2 := RB.out.r.free 2
          have r3 := RB.out.r.cell 3
          have rf3 := RB.out.r.free 3
          have r4 := RB.out.r.cell 4
          have rf4 := RB.out.r.free 4
          have r5 := RB.out.r.cell 5
          have rf5 := RB.out.r.free 5
          have r6 := RB.out.r.cell 6
          have rf6 := RB.out.r.free 6
          simp only [z7, date7, List.getElem?_toArray, List.getElem?_cons_zero, List.getElem?_cons_succ] at r0 r1 r2 r3 r4 r5 r6
          go_region
          all_goals
            go_wp2
            exact bodyPost_ret (v := .tuple #[.agg #[.int .i64 (rlD s first).y, .int .i64 (rlD s first).m, .int .i64 (rlD s first).d, .int .i64 (rlD s first).h, .int .i64 (rlD s first).i, .int .i64 (rlD s first).s, .int .i64 (rlD s first).c], .int .i64 ((sl7 s).pos : Int), .bool (!(sl7 s).bad), .bool true]) (by simp [results, Tryd.results22, go_sem, r0, r1, r2, r3, r4, r5, r6, d0, d1, d2, d3, d4, d5, d6]) rfl ⟨by rw [HR.out.2]; rfl, Below.mono (((((((RB.out.b.setCell (p := ⟨n, 0, none⟩) (Nat.le_refl _) _).setCell (p := ⟨n, 1, none⟩) (Nat.le_refl _) _).setCell (p := ⟨n, 2, none⟩) (Nat.le_refl _) _).setCell (p := ⟨n, 3, none⟩) (Nat.le_refl _) _).setCell (p := ⟨n, 4, none⟩) (Nat.le_refl _) _).setCell (p := ⟨n, 5, none⟩) (Nat.le_refl _) _).setCell (p := ⟨n, 6, none⟩) (Nat.le_refl _) _).drew (Nat.le_of_eq HNN.out)⟩
        · have qc : decide ((A : Int) ≤ 12) = false := by rw [decide_eq_false_iff_not]; omega
          rw [decide_eq_false ha12, decide_eq_false hb12, Bool.or_false] at ef
          have HR := Lib.hid (And.intro (hrd _ em) ef)
          clear em ef hrd
          have RG : RI s n (sl7 s) (rlD s first) w ((W9.setCell ⟨n + 1, 1, none⟩ (.int .i64 (A : Int))).setCell ⟨n + 1, 2, none⟩ (.int .i64 (B : Int))) := by rw [HR.out.1]; exact (RA.out.s1 (A : Int)).s2 (B : Int)
          go_upto_region 20 with (fail)
          obtain ⟨WB, hWB⟩ : ∃ W, (W9.setCell ⟨n + 1, 1, none⟩ (.int .i64 (A : Int))).setCell ⟨n + 1, 2, none⟩ (.int .i64 (B : Int)) = W := ⟨_, rfl⟩
          rw [hWB] at RG ⊢
          have RB := Lib.hid RG
          clear RG hWB RA d1 d2 df1 df2
          obtain ⟨c0, c1, c2, g0, g1, g2⟩ := RB.out.cf
          have d0 := RB.out.d.cell 0
          have d1 := RB.out.d.cell 1
          have d2 := RB.out.d.cell 2
          have d3 := RB.out.d.cell 3
          have d4 := RB.out.d.cell 4
          have d5 := RB.out.d.cell 5
          have d6 := RB.out.d.cell 6
          simp only [date7, D7.cs, List.getElem?_toArray, List.getElem?_cons_zero, List.getElem?_cons_succ] at d0 d1 d2 d3 d4 d5 d6
          have r0 := RB.out.r.cell 0
          have rf0 := RB.out.r.free 0
          have r1 := RB.out.r.cell 1
          have rf1 := RB.out.r.free 1
          have r2 := RB.out.r.cell 2
          have rf2 := RB.out.r.free 2
          have r3 := RB.out.r.cell 3
          have rf3 := RB.out.r.free 3
          have r4 := RB.out.r.cell 4
          have rf4 := RB.out.r.free 4
          have r5 := RB.out.r.cell 5
          have rf5 := RB.out.r.free 5
          have r6 := RB.out.r.cell 6
          have rf6 := RB.out.r.free 6
          simp only [z7, date7, List.getElem?_toArray, List.getElem?_cons_zero, List.getElem?_cons_succ] at r0 r1 r2 r3 r4 r5 r6
          go_region
          all_goals
            go_wp2
            exact bodyPost_ret (v := .tuple #[.agg #[.int .i64 (rlD s first).y, .int .i64 (rlD s first).m, .int .i64 (rlD s first).d, .int .i64 (rlD s first).h, .int .i64 (rlD s first).i, .int .i64 (rlD s first).s, .int .i64 (rlD s first).c], .int .i64 ((sl7 s).pos : Int), .bool (!(sl7 s).bad), .bool false]) (by simp [results, Tryd.results22, go_sem, r0, r1, r2, r3, r4, r5, r6, d0, d1, d2, d3, d4, d5, d6]) rfl ⟨by rw [HR.out.2]; rfl, Below.mono (((((((RB.out.b.setCell (p := ⟨n, 0, none⟩) (Nat.le_refl _) _).setCell (p := ⟨n, 1, none⟩) (Nat.le_refl _) _).setCell (p := ⟨n, 2, none⟩) (Nat.le_refl _) _).setCell (p := ⟨n, 3, none⟩) (Nat.le_refl _) _).setCell (p := ⟨n, 4, none⟩) (Nat.le_refl _) _).setCell (p := ⟨n, 5, none⟩) (Nat.le_refl _) _).setCell (p := ⟨n, 6, none⟩) (Nat.le_refl _) _).drew (Nat.le_of_eq HNN.out)⟩

end Go.Proofs.YtpbfgafkoodeoaaDoor
