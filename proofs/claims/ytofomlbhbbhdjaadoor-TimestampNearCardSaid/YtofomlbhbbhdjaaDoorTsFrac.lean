/- The contracts of the cursor's fraction, clock and zone. -/
import Derived.Test.YtofomlbhbbhdjaaDoorTsClk
namespace Go.Proofs.YtofomlbhbbhdjaaDoor
open Go.RowKit

theorem CAt.copy {s : ByteArray} {B : Nat} {p : CS} {w : World} (h : CAt s B p w) : CAt s w.heap.size p (w.alloc (.cells #[.string s, .int .i64 (p.pos : Int), .bool p.bad] 62)) :=
  ⟨heap_alloc_new _ _, h.le, h.sz⟩
/-- A whole cursor is stored. -/
def put3 (w : World) (B : Nat) (s : ByteArray) (q : CS) : World := ((w.setCell ⟨B, 0, none⟩ (.string s)).setCell ⟨B, 1, none⟩ (.int .i64 (q.pos : Int))).setCell ⟨B, 2, none⟩ (.bool q.bad)
theorem CAt.put {s : ByteArray} {B : Nat} {p q : CS} {w : World} (h : CAt s B p w) (hq : q.pos ≤ s.size) : CAt s B q (put3 w B s q) := by
  have h0 := h.hp
  refine ⟨?_, hq, h.sz⟩
  unfold put3
  simp only [World.setCell, Array.getElem?_modify, if_true, h0, Option.map_some]
  rfl
theorem put3_fr {B : Nat} {s : ByteArray} {q : CS} {a w : World} {P : Nat → Prop} (h : FrP P a w) (hB : P B) : FrP P a (put3 w B s q) :=
  ((h.setCell B 0 _ hB).setCell B 1 _ hB).setCell B 2 _ hB

/-- What only a block of the call's own is written in. -/
theorem fresh_below {w w2 : World} {o : Obj} {n : Nat} (hn : n = w.heap.size) (k : FrP (fun j => j = n) (w.alloc o) w2) : Below w.heap.size w w2 :=
  ((Below.refl _ w).alloc (Nat.le_refl _) o).trans (k.toBelow (by simp) (fun i hi => by omega))
theorem fracB_false {s : ByteArray} {p : CS} (h : p.bad = true ∨ (byN s p.pos ≠ 46 ∧ byN s p.pos ≠ 44) ∨ digB (byN s (p.pos + 1)) = false) : fracB s p = false := by
  unfold fracB
  rcases h with h | ⟨h, h'⟩ | h
  · simp [h]
  · simp [h, h']
  · simp [h]
set_option maxRecDepth 100000 in
set_option maxHeartbeats 4000000 in
theorem frac_none (s : ByteArray) (B : Nat) (p : CS) (w : World) (h : CAt s B p w) (h1 : byN s p.pos ≠ 46) (h2 : byN s p.pos ≠ 44) :
    Calls Tryd.prog 94 #[cPtr B] w fun e w' => e = .returned (.int .i64 0) ∧ CAt s B p w' ∧ Fr B w w' := by
  obtain ⟨c0, c1, c2, f0, f1, f2⟩ := h.parts
  have hc := h.copy
  have ht1 := fun W hW => take_no s w.heap.size p 46 W hW h1
  have ht2 := fun W hW => take_no s w.heap.size p 44 W hW h2
  have HP := Lib.hid h
  have H := Lib.hid (And.intro ht1 (And.intro ht2 hc))
  clear ht1 ht2 hc h1 h2 h
  unfold cPtr at H ⊢
  go_enter Tryd.func94, Tryd.ntmps94
  go_wp2_with fail
  refine (H.out.1 _ H.out.2.2).mono ?_
  rintro e w1 ⟨rfl, h1, hf1⟩
  go_wp2_with fail
  refine (H.out.2.1 _ h1).mono ?_
  rintro e w2 ⟨rfl, h2, hf2⟩
  go_wp2
  go_ret
  have hb := fresh_below rfl (hf1.trans hf2)
  exact ⟨rfl, HP.out.below hb, .ofBelow hb⟩

theorem slice_three (E : ByteArray) (h : 1 ≤ E.size) (W : World) :
    (Instr.slice 9 (.string (E ++ ⟨#[48, 48]⟩)) none (some (.int .i64 3)) none).run Tryd.prog W = .ok (.string ((E ++ ⟨#[48, 48]⟩).extract 0 3)) W := by
  have u := run_underlying Tryd.underlying9
  have e : (E ++ ⟨#[48, 48]⟩).size = E.size + 2 := by rw [ByteArray.size_append]; rfl
  simp [go_sem, Instr.slice, u, e]
  omega
theorem frac_num {E : ByteArray} {l : List UInt8} (he : E.data.toList = l) (ha : allD l = true) (w : World) :
    Calls Tryd.prog 81 #[.string ((E ++ ⟨#[48, 48]⟩).extract 0 3)] w fun e w' => (∃ x, e = .returned (.tuple #[.int .i64 (valD ((l ++ [48, 48]).take 3) : Nat), .bool x])) ∧ Below w.heap.size w w' := by
  have e : (E ++ ⟨#[48, 48]⟩).extract 0 3 = ⟨((l ++ [48, 48]).take 3).toArray⟩ := by
    apply bext
    rw [extract_list, ByteArray.data_append, Array.toList_append, he]; rfl
  have hall : allD ((l ++ [48, 48]).take 3) = true := by
    have h2 : allD (l ++ [48, 48]) = true := by
      unfold allD at ha ⊢
      rw [List.all_append, ha]; rfl
    unfold allD at h2 ⊢
    rw [List.all_eq_true] at h2 ⊢
    exact fun x hx => h2 x (List.mem_of_mem_take hx)
  have h := number_any ((l ++ [48, 48]).take 3) w
  rw [numV_digs hall (by rw [List.length_take]; omega)] at h
  rw [e]
  exact h.mono fun e w' ⟨he, hb⟩ => ⟨⟨_, he⟩, hb⟩

set_option maxRecDepth 100000 in
set_option maxHeartbeats 4000000 in
theorem frac_bad46 (s : ByteArray) (B : Nat) (p : CS) (w : World) (h : CAt s B p w) (h1 : byN s p.pos = 46) (hq : (digitsC s p.next 1 9).bad = true) :
    Calls Tryd.prog 94 #[cPtr B] w fun e w' => e = .returned (.int .i64 0) ∧ CAt s B p w' ∧ Fr B w w' := by
  obtain ⟨c0, c1, c2, f0, f1, f2⟩ := h.parts
  have hc := h.copy
  have hlt : p.pos < s.size := byN_pos (by omega)
  have hle : p.next.pos ≤ s.size := hlt
  have ht := fun W hW => take_yes s w.heap.size p 46 W hW h1 (by omega)
  have hd := fun W hW => digits_any s w.heap.size p.next 1 9 (by omega) (by omega) W hW
  obtain ⟨q, hqq⟩ : ∃ q, digitsC s p.next 1 9 = q := ⟨_, rfl⟩
  rw [hqq] at hq hd
  obtain ⟨E, hE⟩ : ∃ E, s.extract p.next.pos (p.next.pos + dRun s 9 p.next.pos) = E := ⟨_, rfl⟩
  rw [hE] at hd
  have HQ := Lib.hid hq
  clear hE hqq
  have HP := Lib.hid h
  have H := Lib.hid (And.intro ht (And.intro hd hc))
  clear ht hd hc h1 hq h hle hlt
  unfold cPtr at H ⊢
  go_enter Tryd.func94, Tryd.ntmps94
  go_wp2_with fail
  refine (H.out.1 _ H.out.2.2).mono ?_
  rintro e w1 ⟨rfl, h1, hf1⟩
  go_wp2_with fail
  refine (H.out.2.1 _ h1).mono ?_
  rintro e w2 ⟨rfl, h2, hf2⟩
  have hb := fresh_below rfl (hf1.trans hf2)
  have hB := HP.out.below hb
  obtain ⟨d0, d1, d2, g0, g1', g2⟩ := h2.parts
  obtain ⟨b0, b1, b2, b3, b4, b5⟩ := hB.parts
  rw [HQ.out] at d2
  have HH := Lib.hid (And.intro hb (And.intro hB h2))
  clear hb hB h1 hf1 h2 hf2
  go_wp2
  go_ret
  exact ⟨rfl, HH.out.2.1, .ofBelow HH.out.1⟩

set_option maxRecDepth 100000 in
set_option maxHeartbeats 4000000 in
theorem frac_ok46 (s : ByteArray) (B : Nat) (p : CS) (w : World) (h : CAt s B p w) (h1 : byN s p.pos = 46) (hq : (digitsC s p.next 1 9).bad = false) :
    Calls Tryd.prog 94 #[cPtr B] w fun e w' => e = .returned (.int .i64 (valD ((subL s (p.pos + 1) (dRun s 9 (p.pos + 1)) ++ [48, 48]).take 3) : Nat)) ∧ CAt s B (digitsC s p.next 1 9) w' ∧ Fr B w w' := by
  obtain ⟨c0, c1, c2, f0, f1, f2⟩ := h.parts
  have hc := h.copy
  have hlt : p.pos < s.size := byN_pos (by omega)
  have hle : p.next.pos ≤ s.size := hlt
  have ht := fun W hW => take_yes s w.heap.size p 46 W hW h1 (by omega)
  have hd := fun W hW => digits_any s w.heap.size p.next 1 9 (by omega) (by omega) W hW
  have hsz := h.sz
  have hin := dRun_in s 9 p.next.pos hle
  have hr9 := dRun_le s 9 p.next.pos
  have hal := run_all (s := s) (n := 9) hle
  have hr1 : 1 ≤ dRun s 9 p.next.pos := by
    unfold digitsC at hq
    simp at hq
    exact Nat.one_le_iff_ne_zero.2 hq.2
  have hES := extr_size hin
  have hEL := subL_len hin
  have hE2 : (s.extract p.next.pos (p.next.pos + dRun s 9 p.next.pos)).data.toList = subL s p.next.pos (dRun s 9 p.next.pos) := rfl
  have hnx : p.next.pos = p.pos + 1 := rfl
  have hqp : (digitsC s p.next 1 9).pos ≤ s.size := hin
  obtain ⟨q, hqq⟩ : ∃ q, digitsC s p.next 1 9 = q := ⟨_, rfl⟩
  rw [hqq] at hq hd hqp ⊢
  rw [← hnx]
  obtain ⟨E, hE⟩ : ∃ E, s.extract p.next.pos (p.next.pos + dRun s 9 p.next.pos) = E := ⟨_, rfl⟩
  obtain ⟨l, hl⟩ : ∃ l, subL s p.next.pos (dRun s 9 p.next.pos) = l := ⟨_, rfl⟩
  obtain ⟨r, hr⟩ : ∃ r, dRun s 9 p.next.pos = r := ⟨_, rfl⟩
  rw [hE] at hd hES hE2
  rw [hl] at hal hEL hE2 ⊢
  rw [hr] at hr1 hr9 hES hEL
  have hsl := fun W => slice_three E (by omega) W
  have hnm := frac_num (E := E) (l := l) hE2 hal
  have g1 : ¬ 9223372036854775807 < E.size + 2 := by omega
  obtain ⟨X, hX⟩ : ∃ X, (E ++ ⟨#[48, 48]⟩).extract 0 3 = X := ⟨_, rfl⟩
  obtain ⟨v, hv⟩ : ∃ v, valD ((l ++ [48, 48]).take 3) = v := ⟨_, rfl⟩
  rw [hX] at hsl hnm
  rw [hv] at hnm ⊢
  have HQ := Lib.hid (And.intro hnm (And.intro hqp hq))
  clear hl hr hE hX hv hqq hnx hE2 hal hr1 hr9 hEL hin hnm hqp hES
  have HP := Lib.hid h
  have H := Lib.hid (And.intro ht (And.intro hd hc))
  clear ht hd hc h1 hq h hle hlt
  unfold cPtr at H ⊢
  go_enter Tryd.func94, Tryd.ntmps94
  go_wp2_with fail
  refine (H.out.1 _ H.out.2.2).mono ?_
  rintro e w1 ⟨rfl, h1, hf1⟩
  go_wp2_with fail
  refine (H.out.2.1 _ h1).mono ?_
  rintro e w2 ⟨rfl, h2, hf2⟩
  have hb := fresh_below rfl (hf1.trans hf2)
  have hB := HP.out.below hb
  obtain ⟨d0, d1, d2, g0, g1', g2⟩ := h2.parts
  obtain ⟨b0, b1, b2, b3, b4, b5⟩ := hB.parts
  rw [HQ.out.2.2] at d2
  have HH := Lib.hid (And.intro hb (And.intro hB h2))
  clear hb hB h1 hf1 h2 hf2
  have hsz2 : w.heap.size ≠ B := by have := HP.out.lt; omega
  go_wp2_with fail
  refine (HQ.out.1 _).mono ?_
  rintro e w3 ⟨⟨x, rfl⟩, hb3⟩
  go_wp2
  go_ret
  have hw : CAt s B q (put3 w2 B s q) := HH.out.2.1.put HQ.out.2.1
  have hf : Fr B w (put3 w2 B s q) := put3_fr (.ofBelow HH.out.1) rfl
  unfold put3 at hw hf
  rw [HQ.out.2.2] at hw hf
  exact ⟨rfl, hw.below hb3, hf.below hb3⟩

set_option maxRecDepth 100000 in
set_option maxHeartbeats 4000000 in
theorem frac_bad44 (s : ByteArray) (B : Nat) (p : CS) (w : World) (h : CAt s B p w) (h1 : byN s p.pos = 44) (hq : (digitsC s p.next 1 9).bad = true) :
    Calls Tryd.prog 94 #[cPtr B] w fun e w' => e = .returned (.int .i64 0) ∧ CAt s B p w' ∧ Fr B w w' := by
  obtain ⟨c0, c1, c2, f0, f1, f2⟩ := h.parts
  have hc := h.copy
  have hlt : p.pos < s.size := byN_pos (by omega)
  have hle : p.next.pos ≤ s.size := hlt
  have ht0 := fun W hW => take_no s w.heap.size p 46 W hW (by omega)
  have ht := fun W hW => take_yes s w.heap.size p 44 W hW h1 (by omega)
  have hd := fun W hW => digits_any s w.heap.size p.next 1 9 (by omega) (by omega) W hW
  obtain ⟨q, hqq⟩ : ∃ q, digitsC s p.next 1 9 = q := ⟨_, rfl⟩
  rw [hqq] at hq hd
  obtain ⟨E, hE⟩ : ∃ E, s.extract p.next.pos (p.next.pos + dRun s 9 p.next.pos) = E := ⟨_, rfl⟩
  rw [hE] at hd
  have HQ := Lib.hid hq
  clear hE hqq
  have HP := Lib.hid h
  have H := Lib.hid (And.intro ht (And.intro hd hc))
  clear ht hd hc h1 hq h hle hlt
  have H0 := Lib.hid ht0
  clear ht0
  unfold cPtr at H H0 ⊢
  go_enter Tryd.func94, Tryd.ntmps94
  go_wp2_with fail
  refine (H0.out _ H.out.2.2).mono ?_
  rintro e w0 ⟨rfl, hA, hfA⟩
  go_wp2_with fail
  refine (H.out.1 _ hA).mono ?_
  rintro e w1 ⟨rfl, h1, hfB⟩
  have hf1 := hfA.trans hfB
  clear hA hfA hfB
  go_wp2_with fail
  refine (H.out.2.1 _ h1).mono ?_
  rintro e w2 ⟨rfl, h2, hf2⟩
  have hb := fresh_below rfl (hf1.trans hf2)
  have hB := HP.out.below hb
  obtain ⟨d0, d1, d2, g0, g1', g2⟩ := h2.parts
  obtain ⟨b0, b1, b2, b3, b4, b5⟩ := hB.parts
  rw [HQ.out] at d2
  have HH := Lib.hid (And.intro hb (And.intro hB h2))
  clear hb hB h1 hf1 h2 hf2
  go_wp2
  go_ret
  exact ⟨rfl, HH.out.2.1, .ofBelow HH.out.1⟩

set_option maxRecDepth 100000 in
set_option maxHeartbeats 4000000 in
theorem frac_ok44 (s : ByteArray) (B : Nat) (p : CS) (w : World) (h : CAt s B p w) (h1 : byN s p.pos = 44) (hq : (digitsC s p.next 1 9).bad = false) :
    Calls Tryd.prog 94 #[cPtr B] w fun e w' => e = .returned (.int .i64 (valD ((subL s (p.pos + 1) (dRun s 9 (p.pos + 1)) ++ [48, 48]).take 3) : Nat)) ∧ CAt s B (digitsC s p.next 1 9) w' ∧ Fr B w w' := by
  obtain ⟨c0, c1, c2, f0, f1, f2⟩ := h.parts
  have hc := h.copy
  have hlt : p.pos < s.size := byN_pos (by omega)
  have hle : p.next.pos ≤ s.size := hlt
  have ht0 := fun W hW => take_no s w.heap.size p 46 W hW (by omega)
  have ht := fun W hW => take_yes s w.heap.size p 44 W hW h1 (by omega)
  have hd := fun W hW => digits_any s w.heap.size p.next 1 9 (by omega) (by omega) W hW
  have hsz := h.sz
  have hin := dRun_in s 9 p.next.pos hle
  have hr9 := dRun_le s 9 p.next.pos
  have hal := run_all (s := s) (n := 9) hle
  have hr1 : 1 ≤ dRun s 9 p.next.pos := by
    unfold digitsC at hq
    simp at hq
    exact Nat.one_le_iff_ne_zero.2 hq.2
  have hES := extr_size hin
  have hEL := subL_len hin
  have hE2 : (s.extract p.next.pos (p.next.pos + dRun s 9 p.next.pos)).data.toList = subL s p.next.pos (dRun s 9 p.next.pos) := rfl
  have hnx : p.next.pos = p.pos + 1 := rfl
  have hqp : (digitsC s p.next 1 9).pos ≤ s.size := hin
  obtain ⟨q, hqq⟩ : ∃ q, digitsC s p.next 1 9 = q := ⟨_, rfl⟩
  rw [hqq] at hq hd hqp ⊢
  rw [← hnx]
  obtain ⟨E, hE⟩ : ∃ E, s.extract p.next.pos (p.next.pos + dRun s 9 p.next.pos) = E := ⟨_, rfl⟩
  obtain ⟨l, hl⟩ : ∃ l, subL s p.next.pos (dRun s 9 p.next.pos) = l := ⟨_, rfl⟩
  obtain ⟨r, hr⟩ : ∃ r, dRun s 9 p.next.pos = r := ⟨_, rfl⟩
  rw [hE] at hd hES hE2
  rw [hl] at hal hEL hE2 ⊢
  rw [hr] at hr1 hr9 hES hEL
  have hsl := fun W => slice_three E (by omega) W
  have hnm := frac_num (E := E) (l := l) hE2 hal
  have g1 : ¬ 9223372036854775807 < E.size + 2 := by omega
  obtain ⟨X, hX⟩ : ∃ X, (E ++ ⟨#[48, 48]⟩).extract 0 3 = X := ⟨_, rfl⟩
  obtain ⟨v, hv⟩ : ∃ v, valD ((l ++ [48, 48]).take 3) = v := ⟨_, rfl⟩
  rw [hX] at hsl hnm
  rw [hv] at hnm ⊢
  have HQ := Lib.hid (And.intro hnm (And.intro hqp hq))
  clear hl hr hE hX hv hqq hnx hE2 hal hr1 hr9 hEL hin hnm hqp hES
  have HP := Lib.hid h
  have H := Lib.hid (And.intro ht (And.intro hd hc))
  clear ht hd hc h1 hq h hle hlt
  have H0 := Lib.hid ht0
  clear ht0
  unfold cPtr at H H0 ⊢
  go_enter Tryd.func94, Tryd.ntmps94
  go_wp2_with fail
  refine (H0.out _ H.out.2.2).mono ?_
  rintro e w0 ⟨rfl, hA, hfA⟩
  go_wp2_with fail
  refine (H.out.1 _ hA).mono ?_
  rintro e w1 ⟨rfl, h1, hfB⟩
  have hf1 := hfA.trans hfB
  clear hA hfA hfB
  go_wp2_with fail
  refine (H.out.2.1 _ h1).mono ?_
  rintro e w2 ⟨rfl, h2, hf2⟩
  have hb := fresh_below rfl (hf1.trans hf2)
  have hB := HP.out.below hb
  obtain ⟨d0, d1, d2, g0, g1', g2⟩ := h2.parts
  obtain ⟨b0, b1, b2, b3, b4, b5⟩ := hB.parts
  rw [HQ.out.2.2] at d2
  have HH := Lib.hid (And.intro hb (And.intro hB h2))
  clear hb hB h1 hf1 h2 hf2
  have hsz2 : w.heap.size ≠ B := by have := HP.out.lt; omega
  go_wp2_with fail
  refine (HQ.out.1 _).mono ?_
  rintro e w3 ⟨⟨x, rfl⟩, hb3⟩
  go_wp2
  go_ret
  have hw : CAt s B q (put3 w2 B s q) := HH.out.2.1.put HQ.out.2.1
  have hf : Fr B w (put3 w2 B s q) := put3_fr (.ofBelow HH.out.1) rfl
  unfold put3 at hw hf
  rw [HQ.out.2.2] at hw hf
  exact ⟨rfl, hw.below hb3, hf.below hb3⟩

theorem frac_stop {s : ByteArray} {p : CS} : (digitsC s p.next 1 9).bad = true ↔ p.bad = true ∨ digB (byN s (p.pos + 1)) = false := by
  have e : dRun s 9 (p.pos + 1) < 1 ↔ digB (byN s (p.pos + 1)) = false := by
    unfold dRun
    split
    · rename_i h; rw [h]; simp
    · rename_i h; simp at h; rw [h]; simp
  unfold digitsC CS.next
  simp only [Bool.or_eq_true, decide_eq_true_iff, e]
theorem frac_any (s : ByteArray) (B : Nat) (p : CS) (w : World) (h : CAt s B p w) :
    Calls Tryd.prog 94 #[cPtr B] w fun e w' => e = .returned (.int .i64 (fracV s p : Nat)) ∧ CAt s B (fracC s p) w' ∧ Fr B w w' := by
  by_cases hs : byN s p.pos = 46 ∨ byN s p.pos = 44
  · cases hq : (digitsC s p.next 1 9).bad with
    | true =>
      obtain ⟨e1, e2⟩ := frac_no (fracB_false (s := s) (p := p) ((frac_stop.1 hq).elim .inl fun x => .inr (.inr x)))
      rw [e1, e2]
      rcases hs with hs | hs
      · exact frac_bad46 s B p w h hs hq
      · exact frac_bad44 s B p w h hs hq
    | false =>
      have hy : fracB s p = true := by
        have h1 : ¬ (p.bad = true ∨ digB (byN s (p.pos + 1)) = false) := fun x => by rw [frac_stop.2 x] at hq; cases hq
        have h2 : p.bad = false := by simpa using fun x => h1 (.inl x)
        have h3 : digB (byN s (p.pos + 1)) = true := by simpa using fun x => h1 (.inr x)
        unfold fracB
        rw [h2, h3]
        rcases hs with hs | hs <;> simp [hs]
      obtain ⟨e1, e2⟩ := frac_yes hy
      have e3 : digitsC s p.next 1 9 = fracC s p := by
        rw [e1]
        have : (digitsC s p.next 1 9).bad = p.bad := by
          rw [hq]
          unfold fracB at hy
          simp only [Bool.and_eq_true] at hy
          simpa using hy.1.1.symm
        exact congrArg (CS.mk _) this
      rw [e2, ← e3]
      rcases hs with hs | hs
      · exact frac_ok46 s B p w h hs hq
      · exact frac_ok44 s B p w h hs hq
  · obtain ⟨e1, e2⟩ := frac_no (fracB_false (s := s) (p := p) (.inr (.inl ⟨fun x => hs (.inl x), fun x => hs (.inr x)⟩)))
    rw [e1, e2]
    exact frac_none s B p w h (fun x => hs (.inl x)) (fun x => hs (.inr x))
end Go.Proofs.YtofomlbhbbhdjaaDoor
