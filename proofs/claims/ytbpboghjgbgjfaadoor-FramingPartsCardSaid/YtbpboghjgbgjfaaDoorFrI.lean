/- The reference of layer 9: Frame. -/
import Derived.Test.YtbpboghjgbgjfaaDoorFrH
import Derived.Test.YtbpboghjgbgjfaaDoorFrF
import Derived.IntWalk
namespace Go.Proofs.YtbpboghjgbgjfaaDoor
open Go.RowKit

theorem rframe_no (a : Option Addr) (n c : Nat) (off lim : Int) (w : World) (h : off < 0 ∨ (n : Int) < off) :
    Calls Tryd.prog 14 #[.slice a n c, .int .i64 off, .int .i64 lim] w fun e w' => e = .returned (.tuple #[.slice none 0 0, .int .i64 off]) ∧ w' = w := by
  by_cases h0 : off < 0
  · have d0 : decide (off < 0) = true := decide_eq_true h0
    go_enter Tryd.func14, Tryd.ntmps14
    go_wp2
    go_ret2
    exact ⟨rfl, rfl⟩
  · have d0 : decide (off < 0) = false := decide_eq_false h0
    have d1 : decide ((n : Int) < off) = true := decide_eq_true (by omega)
    go_enter Tryd.func14, Tryd.ntmps14
    go_wp2
    go_ret2
    exact ⟨rfl, rfl⟩
theorem pcL_drop (L : List UInt8) (o A B : Nat) (h : A ≤ B) : pcL (L.drop o) (A, B) = (L.drop (o + A)).take (o + B - (o + A)) := by
  unfold pcL
  rw [List.drop_drop]
  congr 1
  show B - A = _
  omega
set_option maxRecDepth 100000 in
set_option linter.unusedSimpArgs false in
set_option maxHeartbeats 8000000 in
theorem rframe_yes (a : Option Addr) (c o : Nat) (L l : List UInt8) (hl : L.drop o = l) (lim : Int) (hL : L.length ≤ 2097152) (ho : o ≤ L.length) (w : World) (hS : BySl w (.slice a L.length c) L) :
    Calls Tryd.prog 14 #[.slice a L.length c, .int .i64 (o : Int), .int .i64 lim] w fun e w' =>
      (∃ v, e = .returned (.tuple #[v, .int .i64 ((o : Int) + (lastK l l.length : Int))]) ∧ w'.ownsRow w.heap.size 41 5 v (spK l l.length).length (frL l (o : Int) lim (spK l l.length))) ∧ Below w.heap.size w w' := by
  obtain ⟨i0, hi, hz0, hz1, hz2⟩ := info_parts infoFr
  have d0 : decide ((o : Int) < 0) = false := decide_eq_false (by omega)
  have d1 : decide ((L.length : Int) < (o : Int)) = false := decide_eq_false (by omega)
  have d2 : decide (L.length < o) = false := decide_eq_false (by omega)
  have hc : L.length ≤ c := by obtain ⟨a2, c2, e, h1, -⟩ := hS; cases e; exact h1
  have hsl := fun W => run_from a L.length c o ho W
  have hby := hS.rest o ho
  have hrl : (L.drop o).length = L.length - o := List.length_drop ..
  rw [hl] at hby hrl
  obtain ⟨sa, hsa⟩ : ∃ sa, subA a c o = sa := ⟨_, rfl⟩
  obtain ⟨sn, hsn⟩ : ∃ sn, L.length - o = sn := ⟨_, rfl⟩
  obtain ⟨cn, hcn⟩ : ∃ cn, c - o = cn := ⟨_, rfl⟩
  rw [hsa, hsn, hcn] at hby
  simp only [hsa, hsn, hcn] at hsl
  have hln := linesR_any _ l w hby (by omega)
  have hsn2 : l.length = sn := by omega
  obtain ⟨M, hM⟩ : ∃ M, L.length = M := ⟨_, rfl⟩
  rw [hM] at hS hL ho d1 d2 hc hsl ⊢
  have hos : o + sn = M := by omega
  have H := Lib.hid (And.intro hln (And.intro hS (And.intro hl (And.intro hsn2 hM))))
  clear hln hS hl hsn2 hM hrl hby hsa hsn hcn
  go_enter Tryd.func14, Tryd.ntmps14
  go_wp2_with fail
  refine H.out.1.mono ?_
  rintro e w1 ⟨⟨v, rfl, hr⟩, hb1⟩
  obtain ⟨g0, sc, rfl, hsc, -⟩ := sp_form hr
  obtain ⟨sp, hsp⟩ : ∃ sp, spK l l.length = sp := ⟨_, rfl⟩
  rw [hsp] at hr hsc ⊢
  obtain ⟨N, hN⟩ : ∃ N, sp.length = N := ⟨_, rfl⟩
  rw [hN] at hr hsc ⊢
  have hNb : N ≤ sn := by rw [← hN, ← hsp, ← H.out.2.2.2.1]; exact spK_len _ _
  have HA := Lib.hid (And.intro hsp (And.intro hN (And.intro hr hb1)))
  clear hsp hN hr hb1 hsl
  go_wp2_with fail
  go_loopw [9, 10, 11] (fun ov ev iv wr => ∃ i : Nat, i ≤ N ∧ iv = .int .i64 i ∧ ev = .int .i64 ((o : Int) + (endOf sp i : Int)) ∧ wr.ownsRow w1.heap.size 41 5 ov i (frL l (o : Int) lim (sp.take i)) ∧ Below w1.heap.size w1 wr) (fun _ _ iv _ => N - (intOf iv).toNat)
  case atStart => exact ⟨0, Nat.zero_le _, rfl, by simp [endOf], by simpa [frL] using World.ownsRow_nil _ _ _ _, Below.refl _ _⟩
  case round =>
    obtain ⟨i, hi1, rfl, rfl, hrw, hbr⟩ := hrel
    obtain ⟨va, vm, vc, rfl⟩ := row_slice hrw
    have HR := Lib.hid (And.intro hrw hbr)
    clear hrw hbr
    by_cases hlt : i < N
    · have e1 : decide ((i : Int) < (N : Int)) = true := by rw [decide_eq_true_iff]; omega
      have i1 : (i : Int) < (N : Int) := by omega
      have i2 : (0 : Int) ≤ (i : Int) := by omega
      obtain ⟨g, A, B, rfl, q0, q1, hAB, hBn, hA, hB, hkk⟩ : ∃ g A B : Nat, g0 = some ⟨g, 0, none⟩ ∧ wr.cell? ⟨g, i * 2, none⟩ = some (.int .i64 (A : Int)) ∧ wr.cell? ⟨g, i * 2 + 1, none⟩ = some (.int .i64 (B : Int)) ∧ A ≤ B ∧ B ≤ sn ∧ endOf sp i = A ∧ endOf sp (i + 1) = B ∧ sp[i]? = some (A, B) := by
        obtain ⟨ga, sc2, e, -, hx⟩ := sp_form (row_below HA.out.2.2.1 HR.out.2)
        cases e
        have hsl : i < sp.length := by rw [HA.out.2.1]; exact hlt
        obtain ⟨g, h1, h2, h3⟩ := hx i hsl
        obtain ⟨b, h7, h8, h9⟩ := spK_at l l.length i (by rw [HA.out.1]; exact hsl)
        simp only [HA.out.1] at h7
        have hm := spK_in l l.length sp[i] (by rw [HA.out.1]; exact List.getElem_mem _)
        exact ⟨g, _, _, h1, h2, h3, by omega, by have := H.out.2.2.2.1; omega, by rw [h7], by rw [endOf_succ _ _ hsl], List.getElem?_eq_getElem hsl⟩
      rw [hA]
      go_wp2_with fail
      have hglt : g < wr.heap.size := block_lt_of_cell q0
      have hHS : ∀ W, Below wr.heap.size wr W → W.cell? ⟨g, i * 2, none⟩ = some (.int .i64 (A : Int)) ∧ W.cell? ⟨g, i * 2 + 1, none⟩ = some (.int .i64 (B : Int)) := fun W hW => ⟨(hW.cell (p := ⟨g, i * 2, none⟩) hglt).trans q0, (hW.cell (p := ⟨g, i * 2 + 1, none⟩) hglt).trans q1⟩
      have HS := Lib.hid hHS
      have hb0 := Lib.hid (show Below wr.heap.size wr wr.drew from (Below.refl _ _).drew)
      have w1a : IntKind.i64.wrap ((o : Int) + (A : Int)) = (o : Int) + (A : Int) := IntWalk.i64_in _ (by omega)
      have w1b : IntKind.i64.wrap ((B : Int) - (A : Int)) = (B : Int) - (A : Int) := IntWalk.i64_in _ (by omega)
      clear hHS q0 q1
      go_region_held3 (fun W => W.cell? ⟨g, i * 2, none⟩ = some (.int .i64 (A : Int)) ∧ W.cell? ⟨g, i * 2 + 1, none⟩ = some (.int .i64 (B : Int))) (first | (with_reducible exact HS.out _ hb0.out) | (with_reducible exact HS.out _ (bl_trans' hb0.out (below_new _ _)))) (fail)
      obtain ⟨pn, hpn⟩ : ∃ pn, B - A = pn := ⟨_, rfl⟩
      have hpe : (B : Int) - (A : Int) = (pn : Int) := by omega
      rw [hpe]
      have k2 : BkAt wr.heap.size 41 #[.int .i64 ((o : Int) + (A : Int)), .int .i64 (pn : Int), .string ⟨#[]⟩, .int .i64 0, .bool false] (wr.alloc (.cells #[.int .i64 ((o : Int) + (A : Int)), .int .i64 (pn : Int), .string ⟨#[]⟩, .int .i64 0, .bool false] 41)).drew := BkAt.new _ _ _
      have k3 : Below wr.heap.size wr (wr.alloc (.cells #[.int .i64 ((o : Int) + (A : Int)), .int .i64 (pn : Int), .string ⟨#[]⟩, .int .i64 0, .bool false] 41)).drew := (below_new wr _).drew
      obtain ⟨W2, hW2⟩ : ∃ x, (wr.alloc (.cells #[.int .i64 ((o : Int) + (A : Int)), .int .i64 (pn : Int), .string ⟨#[]⟩, .int .i64 0, .bool false] 41)).drew = x := ⟨_, rfl⟩
      obtain ⟨b, hb⟩ : ∃ x, wr.heap.size = x := ⟨_, rfl⟩
      rw [hW2] at k2 k3 ⊢
      rw [hb] at k2
      simp only [hb]
      have hbw0 : w.heap.size ≤ b := by have h1 := HA.out.2.2.2.size; have h2 := HR.out.2.size; omega
      have hrow := row_below HR.out.1 k3
      have hpl : (pcL l (A, B)).length = pn := by rw [pcL_len l (A, B) (by have := H.out.2.2.2.1; show B ≤ _; omega)]; exact hpn
      have hpc : (L.drop (o + A)).take (o + A + pn - (o + A)) = pcL l (A, B) := by rw [← H.out.2.2.1, pcL_drop L o A B hAB]; congr 1; omega
      have hw2 : Below w.heap.size w W2 := bl_trans' HA.out.2.2.2 (bl_trans' HR.out.2 k3)
      have hby := (H.out.2.1.below hw2).sub (o + A) (o + A + pn) (by omega) (by have := H.out.2.2.2.2; omega)
      have hsl := fun W => run_sub a M c (o + A) (o + A + pn) (by omega) (by omega) W
      rw [hpc] at hby
      obtain ⟨xa, hxa⟩ : ∃ x, subA a c (o + A) = x := ⟨_, rfl⟩
      obtain ⟨xc, hxc⟩ : ∃ x, c - (o + A) = x := ⟨_, rfl⟩
      have hxn : o + A + pn - (o + A) = pn := by omega
      have hca : ((o + A : Nat) : Int) = (o : Int) + (A : Int) := by omega
      have hcb : ((o + A + pn : Nat) : Int) = (o : Int) + (A : Int) + (pn : Int) := by omega
      rw [hxa, hxc, hxn] at hby
      simp only [hxa, hxc, hxn, hca, hcb] at hsl
      have htx := rtext_any _ (pcL l (A, B)) (by omega) W2 hby
      obtain ⟨S, hSe⟩ : ∃ y, frS (pcL l (A, B)) lim = y := ⟨_, rfl⟩
      obtain ⟨D, hDe⟩ : ∃ y : Int, (frD (pcL l (A, B)) lim : Int) = y := ⟨_, rfl⟩
      obtain ⟨bb, hbe⟩ : ∃ y, frB (pcL l (A, B)) lim = y := ⟨_, rfl⟩
      have hfc : frC ((o : Int) + (A : Int)) (pcL l (A, B)) lim = [.int .i64 ((o : Int) + (A : Int)), .int .i64 (pn : Int), .string S, .int .i64 D, .bool bb] := by unfold frC; rw [hSe, hDe, hbe, hpl]
      have y0 : W2.cell? ⟨b, 0, none⟩ = some (.int .i64 ((o : Int) + (A : Int))) := k2.cell 0
      have y1 : W2.cell? ⟨b, 1, none⟩ = some (.int .i64 (pn : Int)) := k2.cell 1
      have y4 : W2.cell? ⟨b, 4, none⟩ = some (.bool false) := k2.cell 4
      have z4 := k2.free 4
      have hpb : (pn : Int) ≤ 2097152 := by omega
      have hob : (o : Int) ≤ 2097152 := by omega
      have hAb : (A : Int) ≤ 2097152 := by omega
      have HX := Lib.hid (And.intro hfc (And.intro hB (And.intro hkk (And.intro hrow (And.intro htx (And.intro k2 (And.intro k3 hbw0)))))))
      have HY := Lib.hid (And.intro hSe (And.intro hDe (And.intro hbe hpl)))
      have HP := Lib.hid (show (A : Int) + (pn : Int) = (B : Int) by omega)
      clear hfc hB hkk hrow htx k2 k3 hbw0 hSe hDe hbe hpl hpc hw2 hby hpn hpe hW2 hxa hxc hxn hca hcb w1b hb0 HS hA
      by_cases hbt : lim < (pn : Int)
      case' pos =>
        have g1 : decide (lim < (pn : Int)) = true := decide_eq_true hbt
        go_upto_region 13 with (fail)
        have hbb : bb = true := by have h := HY.out.2.2.1; unfold frB at h; rw [HY.out.2.2.2] at h; rw [← h]; exact g1
        have hS0 : S = ⟨#[]⟩ := by have h := HY.out.1; unfold frS at h; rw [HY.out.2.2.1, hbb] at h; exact h.symm
        have hD0 : D = 0 := by have h := HY.out.2.1; unfold frD at h; rw [HY.out.2.2.1, hbb] at h; exact h.symm
        have k5 : BkAt b 41 #[.int .i64 ((o : Int) + (A : Int)), .int .i64 (pn : Int), .string S, .int .i64 D, .bool bb] (W2.setCell ⟨b, 4, none⟩ (.bool true)) := by
          rw [hS0, hD0, hbb]
          exact HX.out.2.2.2.2.2.1.set 4 (.bool true)
        have k6 : Below w.heap.size W2 (W2.setCell ⟨b, 4, none⟩ (.bool true)) := (Below.refl _ _).setCell (p := ⟨b, 4, none⟩) HX.out.2.2.2.2.2.2.2 _
        have k7 : W2.grownBy (W2.setCell ⟨b, 4, none⟩ (.bool true)) (some b) := ⟨rfl, rfl, rfl, by simp [World.setCell], fun i _ hne => Below.heap_setCell W2 ⟨b, 4, none⟩ _ i (by rintro rfl; exact hne rfl)⟩
        obtain ⟨W5, hW5⟩ : ∃ x, W2.setCell ⟨b, 4, none⟩ (.bool true) = x := ⟨_, rfl⟩
      case' neg =>
        have g1 : decide (lim < (pn : Int)) = false := decide_eq_false hbt
        go_wp2_with fail
        refine HX.out.2.2.2.2.1.mono ?_
        rintro e W4 ⟨rfl, hb4⟩
        have hbb : bb = false := by have h := HY.out.2.2.1; unfold frB at h; rw [HY.out.2.2.2] at h; rw [← h]; exact g1
        have hS0 : (⟨(textB (pcL l (A, B))).toArray⟩ : ByteArray) = S := by have h := HY.out.1; unfold frS at h; rw [HY.out.2.2.1, hbb] at h; exact h
        have hD0 : (textN (pcL l (A, B)) : Int) = D := by have h := HY.out.2.1; unfold frD at h; rw [HY.out.2.2.1, hbb] at h; exact h
        rw [hS0, hD0]
        have k4 := HX.out.2.2.2.2.2.1.below hb4
        have x1 : W4.cell? ⟨b, 2, none⟩ = some (.string ⟨#[]⟩) := k4.cell 2
        have x2 : W4.cell? ⟨b, 3, none⟩ = some (.int .i64 0) := k4.cell 3
        have x3 := k4.free 2
        have x4 := k4.free 3
        have hb4w : Below w.heap.size W2 W4 := hb4.mono (by have := HX.out.2.2.2.2.2.1.lt; have := HX.out.2.2.2.2.2.2.2; omega)
        have HZ := Lib.hid (And.intro k4 (And.intro hb4w hb4))
        clear k4 hb4 hb4w
        go_upto_region 13 with (fail)
        have k5 : BkAt b 41 #[.int .i64 ((o : Int) + (A : Int)), .int .i64 (pn : Int), .string S, .int .i64 D, .bool bb] ((W4.setCell ⟨b, 2, none⟩ (.string S)).setCell ⟨b, 3, none⟩ (.int .i64 D)) := by
          rw [hbb]
          exact (HZ.out.1.set 2 (.string S)).set 3 (.int .i64 D)
        have k6 : Below w.heap.size W2 ((W4.setCell ⟨b, 2, none⟩ (.string S)).setCell ⟨b, 3, none⟩ (.int .i64 D)) := (HZ.out.2.1.setCell (p := ⟨b, 2, none⟩) HX.out.2.2.2.2.2.2.2 _).setCell (p := ⟨b, 3, none⟩) HX.out.2.2.2.2.2.2.2 _
        have k7 : W2.grownBy ((W4.setCell ⟨b, 2, none⟩ (.string S)).setCell ⟨b, 3, none⟩ (.int .i64 D)) (some b) := ⟨HZ.out.2.2.os, HZ.out.2.2.tape, HZ.out.2.2.output, by have := HZ.out.2.2.size; simpa [World.setCell] using this, fun i hi hne => (Below.heap_setCell _ ⟨b, 3, none⟩ _ i (by rintro rfl; exact hne rfl)).trans ((Below.heap_setCell W4 ⟨b, 2, none⟩ _ i (by rintro rfl; exact hne rfl)).trans (HZ.out.2.2.block i hi))⟩
        obtain ⟨W5, hW5⟩ : ∃ x, (W4.setCell ⟨b, 2, none⟩ (.string S)).setCell ⟨b, 3, none⟩ (.int .i64 D) = x := ⟨_, rfl⟩
      all_goals
        rw [hW5] at k5 k6 k7 ⊢
        have hne : ∀ gg, (Value.slice va vm vc).ownBlock = some gg → gg ≠ b := fun gg hgg e => by
          have h1 := (World.ownsRow.lt HR.out.1 gg hgg).2
          omega
        have hrow5 := World.ownsRow.kept HX.out.2.2.2.1 k7 (by
          cases hv : (Value.slice va vm vc).ownBlock with
          | none => exact .inl rfl
          | some gg => exact .inr (fun e => hne gg hv (Option.some.inj e)))
        have j0 : W5.cell? ⟨b, 0, none⟩ = some (.int .i64 ((o : Int) + (A : Int))) := k5.cell 0
        have j1 : W5.cell? ⟨b, 1, none⟩ = some (.int .i64 (pn : Int)) := k5.cell 1
        have j2 : W5.cell? ⟨b, 2, none⟩ = some (.string S) := k5.cell 2
        have j3 : W5.cell? ⟨b, 3, none⟩ = some (.int .i64 D) := k5.cell 3
        have j4 : W5.cell? ⟨b, 4, none⟩ = some (.bool bb) := k5.cell 4
        have hbw : Below w1.heap.size w1 W5 := (HR.out.2.trans (HX.out.2.2.2.2.2.2.1.mono HR.out.2.size)).trans ⟨k7.os, k7.tape, k7.output, k7.size, fun i hi => k7.block i (by have h1 := HX.out.2.2.2.2.2.2.1.size; have h2 := HR.out.2.size; omega) (fun e => by have h2 := HR.out.2.size; have := Option.some.inj e; omega)⟩
        have HV := Lib.hid (And.intro hrow5 (And.intro k5 (And.intro hbw hne)))
        clear hrow5 k5 hbw hne k6 k7 hW5 y0 y1 y4 z4 hbb hS0 hD0
        go_wp2_with (at_builtin; refine wpList_append_own_at _ rfl (.tmp 72) (.tmp 74) 34 rfl w1.heap.size 41 i0 (.agg #[.int .i64 0, .int .i64 0, .string ⟨#[]⟩, .int .i64 0, .bool false]) 5 48 Tryd.underlying34 hi hz0 hz1 hz2 rfl (by decide) _ i _ rfl (row_below HV.out.1 (below_new _ _)) ⟨W5.heap.size, 0, none⟩ 1 1 [.int .i64 ((o : Int) + (A : Int)), .int .i64 (pn : Int), .string S, .int .i64 D, .bool bb] rfl rfl ?c1 ?c2 ?c3 ?c4 ?c5 ?_)
        case c1 =>
          intro j u hj
          rw [Addr.add_lit, Nat.zero_add, Lib.cell_of_heap (heap_alloc_new W5 _)]
          simpa using hj
        case c2 =>
          intro u hu
          simp only [List.mem_cons, List.not_mem_nil, or_false] at hu
          rcases hu with rfl | rfl | rfl | rfl | rfl <;> rfl
        case c3 => unfold maxLen; omega
        case c4 => omega
        case c5 => have h2 := HV.out.2.2.1.size; simp; omega
        intro v' w6 hown hgrow _ _
        have k8 : BkAt b 41 #[.int .i64 ((o : Int) + (A : Int)), .int .i64 (pn : Int), .string S, .int .i64 D, .bool bb] w6 := (hgrow.block b (by have := HV.out.2.1.lt; simp; omega) (fun e => HV.out.2.2.2 b e.symm rfl)).trans ((Below.heap_alloc _ _ b HV.out.2.1.lt).trans HV.out.2.1)
        have hb6 : Below w1.heap.size w1 w6 := below_own' (w := w1) (HV.out.2.2.1.alloc HV.out.2.2.1.size _) hgrow (fun gg hgg => (World.ownsRow.lt HV.out.1 gg hgg).1)
        have m0 : w6.cell? ⟨b, 0, none⟩ = some (.int .i64 ((o : Int) + (A : Int))) := k8.cell 0
        have m1 : w6.cell? ⟨b, 1, none⟩ = some (.int .i64 (pn : Int)) := k8.cell 1
        have hown2 : w6.ownsRow w1.heap.size 41 5 v' (i + 1) (frL l (o : Int) lim (sp.take (i + 1))) := by
          rw [List.take_add_one, HX.out.2.2.1, frL_app]
          show w6.ownsRow w1.heap.size 41 5 v' (i + 1) (frL l (o : Int) lim (sp.take i) ++ frL l (o : Int) lim [(A, B)])
          rw [frL_one, HX.out.1]
          exact hown
        have HW := Lib.hid (And.intro hown2 hb6)
        clear hown hgrow hown2 hb6 k8
        go_wp2
        go_roundw
        case rel => exact ⟨i + 1, by omega, by congr 1, by rw [HX.out.2.1]; congr 1; have := HP.out; omega, HW.out.1, HW.out.2⟩
        case measure => simp [intOf]; omega
    · obtain rfl : i = N := by omega
      have e1 : decide ((i : Int) < (i : Int)) = false := by simp
      have hend : endOf sp i = lastK l l.length := by
        have := endOf_len l l.length
        rw [HA.out.1, HA.out.2.1] at this
        exact this
      rw [hend]
      go_wp2
      go_ret2
      refine ⟨⟨_, rfl, ?_⟩, bl_trans' HA.out.2.2.2 HR.out.2⟩
      have h := HR.out.1
      rw [List.take_of_length_le (by rw [HA.out.2.1]; exact Nat.le_refl _)] at h
      rw [HA.out.1, HA.out.2.1]
      exact row_base h HA.out.2.2.2.size
end Go.Proofs.YtbpboghjgbgjfaaDoor
