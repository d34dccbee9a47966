/- The contracts of the cursor's year, month, fraction, clock and zone. The contracts of the cursor's fraction, clock and zone. The contracts of the cursor's clock and zone. -/
import Derived.Test.YtpbfgafkoodeoaaDoorRvB
import Derived.Test.YtpbfgafkoodeoaaDoorRvC
namespace Go.Proofs.YtpbfgafkoodeoaaDoor
open Go.RowKit

theorem numE {s : ByteArray} {k b : Nat} (hk : k ≤ s.size) (hb : b ≤ 18) (w : World) :
    Calls Tryd.prog 62 #[.string (s.extract k (k + dRun s b k))] w fun e w' => (∃ x, e = .returned (.tuple #[.int .i64 (numC s k b : Int), .bool x])) ∧ Below w.heap.size w w' := by
  have h := number_any (subL s k (dRun s b k)) w
  rw [numC_eq hk hb] at h
  unfold subL at h
  rw [mk_list] at h
  exact h.mono fun e w' ⟨he, hb⟩ => ⟨⟨_, he⟩, hb⟩
theorem extr_size {s : ByteArray} {k n : Nat} (h : k + n ≤ s.size) : (s.extract k (k + n)).size = n := by rw [ByteArray.size_extract]; omega

set_option maxRecDepth 100000 in
set_option maxHeartbeats 4000000 in
theorem year_any (s : ByteArray) (B : Nat) (p : CS) (w : World) (h : CAt s B p w) :
    Calls Tryd.prog 60 #[cPtr B] w fun e w' => e = .returned (.int .i64 (yearV s p)) ∧ CAt s B (yearC s p) w' ∧ Fr B w w' := by
  have hd := digits_any s B p 2 4 (by omega) (by omega) w h
  have hn := fun W => numE (s := s) (k := p.pos) (b := 4) h.le (by omega) W
  have hlt := numC_lt (s := s) (k := p.pos) (b := 4) h.le
  have hr4 := dRun_le s 4 p.pos
  have hsz := extr_size (dRun_in s 4 p.pos h.le)
  unfold yearV yearC
  unfold digitsC at hd
  obtain ⟨E, hE⟩ : ∃ E, s.extract p.pos (p.pos + dRun s 4 p.pos) = E := ⟨_, rfl⟩
  obtain ⟨v, hv⟩ : ∃ v, numC s p.pos 4 = v := ⟨_, rfl⟩
  obtain ⟨r, hr⟩ : ∃ r, dRun s 4 p.pos = r := ⟨_, rfl⟩
  rw [hE] at hd hn hsz
  rw [hv] at hn hlt ⊢
  rw [hr] at hd hr4 hsz ⊢
  have H := Lib.hid (And.intro hd hn)
  clear hd hn hE hv hr h
  unfold cPtr at H ⊢
  by_cases h4 : r = 4
  · subst h4
    have e1 : ((E.size : Int) == 4) = true := by rw [beq_iff_eq]; omega
    rw [if_pos rfl]
    clear hsz
    go_enter Tryd.func60, Tryd.ntmps60
    go_wp2_with fail
    refine (H.out.1).mono ?_
    rintro e w1 ⟨rfl, h1, hf1⟩
    go_wp2_with fail
    refine (H.out.2 _).mono ?_
    rintro e w2 ⟨⟨x, rfl⟩, hb2⟩
    go_wp2
    go_ret
    exact ⟨rfl, by simpa using h1.below hb2, hf1.below hb2⟩
  · have e1 : ((E.size : Int) == 4) = false := by rw [beq_eq_false_iff_ne]; omega
    rw [if_neg h4]
    by_cases h3 : r = 3
    · subst h3
      have e2 : ((E.size : Int) == 3) = true := by rw [beq_iff_eq]; omega
      rw [if_pos rfl]
      clear hsz h4
      go_enter Tryd.func60, Tryd.ntmps60
      go_wp2_with fail
      refine (H.out.1).mono ?_
      rintro e w1 ⟨rfl, h1, hf1⟩
      go_wp2_with fail
      refine (H.out.2 _).mono ?_
      rintro e w2 ⟨⟨x, rfl⟩, hb2⟩
      have h2 := h1.below hb2
      have hf2 := hf1.below hb2
      obtain ⟨c0, c1, c2, f0, f1, f2⟩ := h2.parts
      have HH := Lib.hid (And.intro h2 hf2)
      clear h1 hf1 hb2 h2 hf2
      go_wp2
      go_ret
      exact ⟨rfl, by simpa using HH.out.1.setBad true, HH.out.2.setCell B 2 _ rfl⟩
    · have e2 : ((E.size : Int) == 3) = false := by rw [beq_eq_false_iff_ne]; omega
      rw [if_neg h3]
      clear hsz h4
      by_cases h7 : v < 70
      · rw [if_pos h7]
        go_enter Tryd.func60, Tryd.ntmps60
        go_wp2_with fail
        refine (H.out.1).mono ?_
        rintro e w1 ⟨rfl, h1, hf1⟩
        go_wp2_with fail
        refine (H.out.2 _).mono ?_
        rintro e w2 ⟨⟨x, rfl⟩, hb2⟩
        go_wp2
        go_ret
        exact ⟨rfl, by simpa [h3] using h1.below hb2, hf1.below hb2⟩
      · rw [if_neg h7]
        go_enter Tryd.func60, Tryd.ntmps60
        go_wp2_with fail
        refine (H.out.1).mono ?_
        rintro e w1 ⟨rfl, h1, hf1⟩
        go_wp2_with fail
        refine (H.out.2 _).mono ?_
        rintro e w2 ⟨⟨x, rfl⟩, hb2⟩
        go_wp2
        go_ret
        exact ⟨rfl, by simpa [h3] using h1.below hb2, hf1.below hb2⟩

theorem mon_min (s : ByteArray) (p : CS) (h : p.pos ≤ s.size) : ∃ k, monQ s p = p.pos + k ∧ p.pos + k ≤ s.size ∧ (k : Int) ≤ 3 ∧ min ((p.pos : Int) + 3) (s.size : Int) = (p.pos : Int) + (k : Int) := by
  unfold monQ
  by_cases h3 : p.pos + 3 ≤ s.size
  · exact ⟨3, by omega, by omega, by omega, by omega⟩
  · exact ⟨s.size - p.pos, by omega, by omega, by omega, by omega⟩
set_option maxRecDepth 100000 in
set_option maxHeartbeats 4000000 in
theorem cmonth_any (s : ByteArray) (B : Nat) (p : CS) (w : World) (h : CAt s B p w) (hM : MonT w) (hne : B ≠ 1) :
    Calls Tryd.prog 58 #[cPtr B] w fun e w' => e = .returned (.int .i64 (cmonN s p : Nat)) ∧ CAt s B (monthC s p) w' ∧ Fr B w w' := by
  have hle := h.le
  have hsz := h.sz
  obtain ⟨k, hq, hk, hk3, hmin⟩ := mon_min s p hle
  obtain ⟨c0, c1, c2, f0, f1, f2⟩ := h.parts
  have hmo := fun W (hW : MonT W) => month_any (s.extract p.pos (monQ s p)) (by rw [ByteArray.size_extract]; omega) W hW
  have hsl := fun W => slice_two s p.pos k hk W
  have hst := h.setPos (p.pos + k) ((p.pos : Int) + (k : Int)) (by push_cast; rfl) hk
  have hfs := (FrP.refl (fun j => j = B) w).setCell B 1 (.int .i64 ((p.pos : Int) + (k : Int))) rfl
  unfold monthC cmonN
  rw [hq] at hmo ⊢
  obtain ⟨E, hE⟩ : ∃ E, s.extract p.pos (p.pos + k) = E := ⟨_, rfl⟩
  obtain ⟨v, hv⟩ : ∃ v, monthN E.data.toList = v := ⟨_, rfl⟩
  rw [hE] at hmo hsl ⊢
  rw [hv] at hmo ⊢
  obtain ⟨d0, d1, d2, g0, g1, g2⟩ := hst.parts
  have hMX := hM.frp hfs (fun e => hne e.symm)
  obtain ⟨X, hX⟩ : ∃ X, w.setCell ⟨B, 1, none⟩ (.int .i64 ((p.pos : Int) + (k : Int))) = X := ⟨_, rfl⟩
  rw [hX] at hst hfs hMX d0 d1 d2 g0 g1 g2
  have HX := Lib.hid hX
  have H := Lib.hid (And.intro hmo (And.intro hst (And.intro hfs hMX)))
  clear hmo hst hfs hE hv hM h hq hMX hne hX
  have HS := Lib.hid hsl
  clear hsl
  unfold cPtr at H ⊢
  go_enter Tryd.func58, Tryd.ntmps58
  go_wp2
  rw [HX.out]
  have hsl := HS.out
  push_cast at d1
  clear hmin c0 c1 c2 f0 f1 f2
  go_region_with (go_at_call 71; refine (H.out.1 _ (H.out.2.2.2.below ((Below.refl _ _).drew))).mono ?_; rintro e w3 ⟨rfl, hb3⟩)
  all_goals clear hsl
  all_goals
    have h3 := (H.out.2.1.drew).below hb3
    have hf3 := (H.out.2.2.1.drew).below hb3
    obtain ⟨q0, q1, q2, q3, q4, q5⟩ := h3.parts
    simp only at q1 q2
    have HH := Lib.hid (And.intro h3 hf3)
    clear h3 hf3 hb3 d0 d1 d2 g0 g1 g2
    by_cases hv0 : v = 0
    · subst hv0
      go_wp2
      go_ret
      exact ⟨rfl, by simpa using HH.out.1.setBad true, HH.out.2.setCell B 2 _ rfl⟩
    · have e1 : ((v : Int) == 0) = false := by rw [beq_eq_false_iff_ne]; omega
      go_wp2
      go_ret
      exact ⟨rfl, by simpa [hv0] using HH.out.1, HH.out.2⟩
end Go.Proofs.YtpbfgafkoodeoaaDoor

namespace Go.Proofs.YtpbfgafkoodeoaaDoor
open Go.RowKit

theorem CAt.copy {s : ByteArray} {B : Nat} {p : CS} {w : World} (h : CAt s B p w) : CAt s w.heap.size p (w.alloc (.cells #[.string s, .int .i64 (p.pos : Int), .bool p.bad] 54)) :=
  ⟨heap_alloc_new _ _, h.le, h.sz⟩
/-- A whole cursor is stored. -/
def put3 (w : World) (B : Nat) (s : ByteArray) (q : CS) : World := ((w.setCell ⟨B, 0, none⟩ (.string s)).setCell ⟨B, 1, none⟩ (.int .i64 (q.pos : Int))).setCell ⟨B, 2, none⟩ (.bool q.bad)
theorem CAt.put {s : ByteArray} {B : Nat} {p q : CS} {w : World} (h : CAt s B p w) (hq : q.pos ≤ s.size) : CAt s B q (put3 w B s q) := by
  have h0 := h.hp
  refine ⟨?_, hq, h.sz⟩
  unfold put3
  simp only [World.setCell, Array.getElem?_modify, if_true, h0, Option.map_some]
  rfl
theorem put3_fr {B : Nat} {s : ByteArray} {q : CS} {a w : World} {P : Nat → Prop} (h : FrP P a w) (hB : P B) : FrP P a (put3 w B s q) :=
  ((h.setCell B 0 _ hB).setCell B 1 _ hB).setCell B 2 _ hB

/-- What only a block of the call's own is written in. -/
theorem fresh_below {w w2 : World} {o : Obj} {n : Nat} (hn : n = w.heap.size) (k : FrP (fun j => j = n) (w.alloc o) w2) : Below w.heap.size w w2 :=
  ((Below.refl _ w).alloc (Nat.le_refl _) o).trans (k.toBelow (by simp) (fun i hi => by omega))
theorem fracB_false {s : ByteArray} {p : CS} (h : p.bad = true ∨ (byN s p.pos ≠ 46 ∧ byN s p.pos ≠ 44) ∨ digB (byN s (p.pos + 1)) = false) : fracB s p = false := by
  unfold fracB
  rcases h with h | ⟨h, h'⟩ | h
  · simp [h]
  · simp [h, h']
  · simp [h]
set_option maxRecDepth 100000 in
set_option maxHeartbeats 4000000 in
theorem frac_none (s : ByteArray) (B : Nat) (p : CS) (w : World) (h : CAt s B p w) (h1 : byN s p.pos ≠ 46) (h2 : byN s p.pos ≠ 44) :
    Calls Tryd.prog 70 #[cPtr B] w fun e w' => e = .returned (.int .i64 0) ∧ CAt s B p w' ∧ Fr B w w' := by
  obtain ⟨c0, c1, c2, f0, f1, f2⟩ := h.parts
  have hc := h.copy
  have ht1 := fun W hW => take_no s w.heap.size p 46 W hW h1
  have ht2 := fun W hW => take_no s w.heap.size p 44 W hW h2
  have HP := Lib.hid h
  have H := Lib.hid (And.intro ht1 (And.intro ht2 hc))
  clear ht1 ht2 hc h1 h2 h
  unfold cPtr at H ⊢
  go_enter Tryd.func70, Tryd.ntmps70
  go_wp2_with fail
  refine (H.out.1 _ H.out.2.2).mono ?_
  rintro e w1 ⟨rfl, h1, hf1⟩
  go_wp2_with fail
  refine (H.out.2.1 _ h1).mono ?_
  rintro e w2 ⟨rfl, h2, hf2⟩
  go_wp2
  go_ret
  have hb := fresh_below rfl (hf1.trans hf2)
  exact ⟨rfl, HP.out.below hb, .ofBelow hb⟩

theorem slice_three (E : ByteArray) (h : 1 ≤ E.size) (W : World) :
    (Instr.slice 9 (.string (E ++ ⟨#[48, 48]⟩)) none (some (.int .i64 3)) none).run Tryd.prog W = .ok (.string ((E ++ ⟨#[48, 48]⟩).extract 0 3)) W := by
  have u := run_underlying Tryd.underlying9
  have e : (E ++ ⟨#[48, 48]⟩).size = E.size + 2 := by rw [ByteArray.size_append]; rfl
  simp [go_sem, Instr.slice, u, e]
  omega
theorem frac_num {E : ByteArray} {l : List UInt8} (he : E.data.toList = l) (ha : allD l = true) (w : World) :
    Calls Tryd.prog 62 #[.string ((E ++ ⟨#[48, 48]⟩).extract 0 3)] w fun e w' => (∃ x, e = .returned (.tuple #[.int .i64 (valD ((l ++ [48, 48]).take 3) : Nat), .bool x])) ∧ Below w.heap.size w w' := by
  have e : (E ++ ⟨#[48, 48]⟩).extract 0 3 = ⟨((l ++ [48, 48]).take 3).toArray⟩ := by
    apply bext
    rw [extract_list, ByteArray.data_append, Array.toList_append, he]; rfl
  have hall : allD ((l ++ [48, 48]).take 3) = true := by
    have h2 : allD (l ++ [48, 48]) = true := by
      unfold allD at ha ⊢
      rw [List.all_append, ha]; rfl
    unfold allD at h2 ⊢
    rw [List.all_eq_true] at h2 ⊢
    exact fun x hx => h2 x (List.mem_of_mem_take hx)
  have h := number_any ((l ++ [48, 48]).take 3) w
  rw [numV_digs hall (by rw [List.length_take]; omega)] at h
  rw [e]
  exact h.mono fun e w' ⟨he, hb⟩ => ⟨⟨_, he⟩, hb⟩

set_option maxRecDepth 100000 in
set_option maxHeartbeats 4000000 in
theorem frac_bad46 (s : ByteArray) (B : Nat) (p : CS) (w : World) (h : CAt s B p w) (h1 : byN s p.pos = 46) (hq : (digitsC s p.next 1 9).bad = true) :
    Calls Tryd.prog 70 #[cPtr B] w fun e w' => e = .returned (.int .i64 0) ∧ CAt s B p w' ∧ Fr B w w' := by
  obtain ⟨c0, c1, c2, f0, f1, f2⟩ := h.parts
  have hc := h.copy
  have hlt : p.pos < s.size := byN_pos (by omega)
  have hle : p.next.pos ≤ s.size := hlt
  have ht := fun W hW => take_yes s w.heap.size p 46 W hW h1 (by omega)
  have hd := fun W hW => digits_any s w.heap.size p.next 1 9 (by omega) (by omega) W hW
  obtain ⟨q, hqq⟩ : ∃ q, digitsC s p.next 1 9 = q := ⟨_, rfl⟩
  rw [hqq] at hq hd
  obtain ⟨E, hE⟩ : ∃ E, s.extract p.next.pos (p.next.pos + dRun s 9 p.next.pos) = E := ⟨_, rfl⟩
  rw [hE] at hd
  have HQ := Lib.hid hq
  clear hE hqq
  have HP := Lib.hid h
  have H := Lib.hid (And.intro ht (And.intro hd hc))
  clear ht hd hc h1 hq h hle hlt
  unfold cPtr at H ⊢
  go_enter Tryd.func70, Tryd.ntmps70
  go_wp2_with fail
  refine (H.out.1 _ H.out.2.2).mono ?_
  rintro e w1 ⟨rfl, h1, hf1⟩
  go_wp2_with fail
  refine (H.out.2.1 _ h1).mono ?_
  rintro e w2 ⟨rfl, h2, hf2⟩
  have hb := fresh_below rfl (hf1.trans hf2)
  have hB := HP.out.below hb
  obtain ⟨d0, d1, d2, g0, g1', g2⟩ := h2.parts
  obtain ⟨b0, b1, b2, b3, b4, b5⟩ := hB.parts
  rw [HQ.out] at d2
  have HH := Lib.hid (And.intro hb (And.intro hB h2))
  clear hb hB h1 hf1 h2 hf2
  go_wp2
  go_ret
  exact ⟨rfl, HH.out.2.1, .ofBelow HH.out.1⟩

set_option maxRecDepth 100000 in
set_option maxHeartbeats 4000000 in
theorem frac_ok46 (s : ByteArray) (B : Nat) (p : CS) (w : World) (h : CAt s B p w) (h1 : byN s p.pos = 46) (hq : (digitsC s p.next 1 9).bad = false) :
    Calls Tryd.prog 70 #[cPtr B] w fun e w' => e = .returned (.int .i64 (valD ((subL s (p.pos + 1) (dRun s 9 (p.pos + 1)) ++ [48, 48]).take 3) : Nat)) ∧ CAt s B (digitsC s p.next 1 9) w' ∧ Fr B w w' := by
  obtain ⟨c0, c1, c2, f0, f1, f2⟩ := h.parts
  have hc := h.copy
  have hlt : p.pos < s.size := byN_pos (by omega)
  have hle : p.next.pos ≤ s.size := hlt
  have ht := fun W hW => take_yes s w.heap.size p 46 W hW h1 (by omega)
  have hd := fun W hW => digits_any s w.heap.size p.next 1 9 (by omega) (by omega) W hW
  have hsz := h.sz
  have hin := dRun_in s 9 p.next.pos hle
  have hr9 := dRun_le s 9 p.next.pos
  have hal := run_all (s := s) (n := 9) hle
  have hr1 : 1 ≤ dRun s 9 p.next.pos := by
    unfold digitsC at hq
    simp at hq
    exact Nat.one_le_iff_ne_zero.2 hq.2
  have hES := extr_size hin
  have hEL := subL_len hin
  have hE2 : (s.extract p.next.pos (p.next.pos + dRun s 9 p.next.pos)).data.toList = subL s p.next.pos (dRun s 9 p.next.pos) := rfl
  have hnx : p.next.pos = p.pos + 1 := rfl
  have hqp : (digitsC s p.next 1 9).pos ≤ s.size := hin
  obtain ⟨q, hqq⟩ : ∃ q, digitsC s p.next 1 9 = q := ⟨_, rfl⟩
  rw [hqq] at hq hd hqp ⊢
  rw [← hnx]
  obtain ⟨E, hE⟩ : ∃ E, s.extract p.next.pos (p.next.pos + dRun s 9 p.next.pos) = E := ⟨_, rfl⟩
  obtain ⟨l, hl⟩ : ∃ l, subL s p.next.pos (dRun s 9 p.next.pos) = l := ⟨_, rfl⟩
  obtain ⟨r, hr⟩ : ∃ r, dRun s 9 p.next.pos = r := ⟨_, rfl⟩
  rw [hE] at hd hES hE2
  rw [hl] at hal hEL hE2 ⊢
  rw [hr] at hr1 hr9 hES hEL
  have hsl := fun W => slice_three E (by omega) W
  have hnm := frac_num (E := E) (l := l) hE2 hal
  have g1 : ¬ 9223372036854775807 < E.size + 2 := by omega
  obtain ⟨X, hX⟩ : ∃ X, (E ++ ⟨#[48, 48]⟩).extract 0 3 = X := ⟨_, rfl⟩
  obtain ⟨v, hv⟩ : ∃ v, valD ((l ++ [48, 48]).take 3) = v := ⟨_, rfl⟩
  rw [hX] at hsl hnm
  rw [hv] at hnm ⊢
  have HQ := Lib.hid (And.intro hnm (And.intro hqp hq))
  clear hl hr hE hX hv hqq hnx hE2 hal hr1 hr9 hEL hin hnm hqp hES
  have HP := Lib.hid h
  have H := Lib.hid (And.intro ht (And.intro hd hc))
  clear ht hd hc h1 hq h hle hlt
  unfold cPtr at H ⊢
  go_enter Tryd.func70, Tryd.ntmps70
  go_wp2_with fail
  refine (H.out.1 _ H.out.2.2).mono ?_
  rintro e w1 ⟨rfl, h1, hf1⟩
  go_wp2_with fail
  refine (H.out.2.1 _ h1).mono ?_
  rintro e w2 ⟨rfl, h2, hf2⟩
  have hb := fresh_below rfl (hf1.trans hf2)
  have hB := HP.out.below hb
  obtain ⟨d0, d1, d2, g0, g1', g2⟩ := h2.parts
  obtain ⟨b0, b1, b2, b3, b4, b5⟩ := hB.parts
  rw [HQ.out.2.2] at d2
  have HH := Lib.hid (And.intro hb (And.intro hB h2))
  clear hb hB h1 hf1 h2 hf2
  have hsz2 : w.heap.size ≠ B := by have := HP.out.lt; omega
  go_wp2_with fail
  refine (HQ.out.1 _).mono ?_
  rintro e w3 ⟨⟨x, rfl⟩, hb3⟩
  go_wp2
  go_ret
  have hw : CAt s B q (put3 w2 B s q) := HH.out.2.1.put HQ.out.2.1
  have hf : Fr B w (put3 w2 B s q) := put3_fr (.ofBelow HH.out.1) rfl
  unfold put3 at hw hf
  rw [HQ.out.2.2] at hw hf
  exact ⟨rfl, hw.below hb3, hf.below hb3⟩

set_option maxRecDepth 100000 in
set_option maxHeartbeats 4000000 in
theorem frac_bad44 (s : ByteArray) (B : Nat) (p : CS) (w : World) (h : CAt s B p w) (h1 : byN s p.pos = 44) (hq : (digitsC s p.next 1 9).bad = true) :
    Calls Tryd.prog 70 #[cPtr B] w fun e w' => e = .returned (.int .i64 0) ∧ CAt s B p w' ∧ Fr B w w' := by
  obtain ⟨c0, c1, c2, f0, f1, f2⟩ := h.parts
  have hc := h.copy
  have hlt : p.pos < s.size := byN_pos (by omega)
  have hle : p.next.pos ≤ s.size := hlt
  have ht0 := fun W hW => take_no s w.heap.size p 46 W hW (by omega)
  have ht := fun W hW => take_yes s w.heap.size p 44 W hW h1 (by omega)
  have hd := fun W hW => digits_any s w.heap.size p.next 1 9 (by omega) (by omega) W hW
  obtain ⟨q, hqq⟩ : ∃ q, digitsC s p.next 1 9 = q := ⟨_, rfl⟩
  rw [hqq] at hq hd
  obtain ⟨E, hE⟩ : ∃ E, s.extract p.next.pos (p.next.pos + dRun s 9 p.next.pos) = E := ⟨_, rfl⟩
  rw [hE] at hd
  have HQ := Lib.hid hq
  clear hE hqq
  have HP := Lib.hid h
  have H := Lib.hid (And.intro ht (And.intro hd hc))
  clear ht hd hc h1 hq h hle hlt
  have H0 := Lib.hid ht0
  clear ht0
  unfold cPtr at H H0 ⊢
  go_enter Tryd.func70, Tryd.ntmps70
  go_wp2_with fail
  refine (H0.out _ H.out.2.2).mono ?_
  rintro e w0 ⟨rfl, hA, hfA⟩
  go_wp2_with fail
  refine (H.out.1 _ hA).mono ?_
  rintro e w1 ⟨rfl, h1, hfB⟩
  have hf1 := hfA.trans hfB
  clear hA hfA hfB
  go_wp2_with fail
  refine (H.out.2.1 _ h1).mono ?_
  rintro e w2 ⟨rfl, h2, hf2⟩
  have hb := fresh_below rfl (hf1.trans hf2)
  have hB := HP.out.below hb
  obtain ⟨d0, d1, d2, g0, g1', g2⟩ := h2.parts
  obtain ⟨b0, b1, b2, b3, b4, b5⟩ := hB.parts
  rw [HQ.out] at d2
  have HH := Lib.hid (And.intro hb (And.intro hB h2))
  clear hb hB h1 hf1 h2 hf2
  go_wp2
  go_ret
  exact ⟨rfl, HH.out.2.1, .ofBelow HH.out.1⟩

set_option maxRecDepth 100000 in
set_option maxHeartbeats 4000000 in
theorem frac_ok44 (s : ByteArray) (B : Nat) (p : CS) (w : World) (h : CAt s B p w) (h1 : byN s p.pos = 44) (hq : (digitsC s p.next 1 9).bad = false) :
    Calls Tryd.prog 70 #[cPtr B] w fun e w' => e = .returned (.int .i64 (valD ((subL s (p.pos + 1) (dRun s 9 (p.pos + 1)) ++ [48, 48]).take 3) : Nat)) ∧ CAt s B (digitsC s p.next 1 9) w' ∧ Fr B w w' := by
  obtain ⟨c0, c1, c2, f0, f1, f2⟩ := h.parts
  have hc := h.copy
  have hlt : p.pos < s.size := byN_pos (by omega)
  have hle : p.next.pos ≤ s.size := hlt
  have ht0 := fun W hW => take_no s w.heap.size p 46 W hW (by omega)
  have ht := fun W hW => take_yes s w.heap.size p 44 W hW h1 (by omega)
  have hd := fun W hW => digits_any s w.heap.size p.next 1 9 (by omega) (by omega) W hW
  have hsz := h.sz
  have hin := dRun_in s 9 p.next.pos hle
  have hr9 := dRun_le s 9 p.next.pos
  have hal := run_all (s := s) (n := 9) hle
  have hr1 : 1 ≤ dRun s 9 p.next.pos := by
    unfold digitsC at hq
    simp at hq
    exact Nat.one_le_iff_ne_zero.2 hq.2
  have hES := extr_size hin
  have hEL := subL_len hin
  have hE2 : (s.extract p.next.pos (p.next.pos + dRun s 9 p.next.pos)).data.toList = subL s p.next.pos (dRun s 9 p.next.pos) := rfl
  have hnx : p.next.pos = p.pos + 1 := rfl
  have hqp : (digitsC s p.next 1 9).pos ≤ s.size := hin
  obtain ⟨q, hqq⟩ : ∃ q, digitsC s p.next 1 9 = q := ⟨_, rfl⟩
  rw [hqq] at hq hd hqp ⊢
  rw [← hnx]
  obtain ⟨E, hE⟩ : ∃ E, s.extract p.next.pos (p.next.pos + dRun s 9 p.next.pos) = E := ⟨_, rfl⟩
  obtain ⟨l, hl⟩ : ∃ l, subL s p.next.pos (dRun s 9 p.next.pos) = l := ⟨_, rfl⟩
  obtain ⟨r, hr⟩ : ∃ r, dRun s 9 p.next.pos = r := ⟨_, rfl⟩
  rw [hE] at hd hES hE2
  rw [hl] at hal hEL hE2 ⊢
  rw [hr] at hr1 hr9 hES hEL
  have hsl := fun W => slice_three E (by omega) W
  have hnm := frac_num (E := E) (l := l) hE2 hal
  have g1 : ¬ 9223372036854775807 < E.size + 2 := by omega
  obtain ⟨X, hX⟩ : ∃ X, (E ++ ⟨#[48, 48]⟩).extract 0 3 = X := ⟨_, rfl⟩
  obtain ⟨v, hv⟩ : ∃ v, valD ((l ++ [48, 48]).take 3) = v := ⟨_, rfl⟩
  rw [hX] at hsl hnm
  rw [hv] at hnm ⊢
  have HQ := Lib.hid (And.intro hnm (And.intro hqp hq))
  clear hl hr hE hX hv hqq hnx hE2 hal hr1 hr9 hEL hin hnm hqp hES
  have HP := Lib.hid h
  have H := Lib.hid (And.intro ht (And.intro hd hc))
  clear ht hd hc h1 hq h hle hlt
  have H0 := Lib.hid ht0
  clear ht0
  unfold cPtr at H H0 ⊢
  go_enter Tryd.func70, Tryd.ntmps70
  go_wp2_with fail
  refine (H0.out _ H.out.2.2).mono ?_
  rintro e w0 ⟨rfl, hA, hfA⟩
  go_wp2_with fail
  refine (H.out.1 _ hA).mono ?_
  rintro e w1 ⟨rfl, h1, hfB⟩
  have hf1 := hfA.trans hfB
  clear hA hfA hfB
  go_wp2_with fail
  refine (H.out.2.1 _ h1).mono ?_
  rintro e w2 ⟨rfl, h2, hf2⟩
  have hb := fresh_below rfl (hf1.trans hf2)
  have hB := HP.out.below hb
  obtain ⟨d0, d1, d2, g0, g1', g2⟩ := h2.parts
  obtain ⟨b0, b1, b2, b3, b4, b5⟩ := hB.parts
  rw [HQ.out.2.2] at d2
  have HH := Lib.hid (And.intro hb (And.intro hB h2))
  clear hb hB h1 hf1 h2 hf2
  have hsz2 : w.heap.size ≠ B := by have := HP.out.lt; omega
  go_wp2_with fail
  refine (HQ.out.1 _).mono ?_
  rintro e w3 ⟨⟨x, rfl⟩, hb3⟩
  go_wp2
  go_ret
  have hw : CAt s B q (put3 w2 B s q) := HH.out.2.1.put HQ.out.2.1
  have hf : Fr B w (put3 w2 B s q) := put3_fr (.ofBelow HH.out.1) rfl
  unfold put3 at hw hf
  rw [HQ.out.2.2] at hw hf
  exact ⟨rfl, hw.below hb3, hf.below hb3⟩

theorem frac_stop {s : ByteArray} {p : CS} : (digitsC s p.next 1 9).bad = true ↔ p.bad = true ∨ digB (byN s (p.pos + 1)) = false := by
  have e : dRun s 9 (p.pos + 1) < 1 ↔ digB (byN s (p.pos + 1)) = false := by
    unfold dRun
    split
    · rename_i h; rw [h]; simp
    · rename_i h; simp at h; rw [h]; simp
  unfold digitsC CS.next
  simp only [Bool.or_eq_true, decide_eq_true_iff, e]
theorem frac_any (s : ByteArray) (B : Nat) (p : CS) (w : World) (h : CAt s B p w) :
    Calls Tryd.prog 70 #[cPtr B] w fun e w' => e = .returned (.int .i64 (fracV s p : Nat)) ∧ CAt s B (fracC s p) w' ∧ Fr B w w' := by
  by_cases hs : byN s p.pos = 46 ∨ byN s p.pos = 44
  · cases hq : (digitsC s p.next 1 9).bad with
    | true =>
      obtain ⟨e1, e2⟩ := frac_no (fracB_false (s := s) (p := p) ((frac_stop.1 hq).elim .inl fun x => .inr (.inr x)))
      rw [e1, e2]
      rcases hs with hs | hs
      · exact frac_bad46 s B p w h hs hq
      · exact frac_bad44 s B p w h hs hq
    | false =>
      have hy : fracB s p = true := by
        have h1 : ¬ (p.bad = true ∨ digB (byN s (p.pos + 1)) = false) := fun x => by rw [frac_stop.2 x] at hq; cases hq
        have h2 : p.bad = false := by simpa using fun x => h1 (.inl x)
        have h3 : digB (byN s (p.pos + 1)) = true := by simpa using fun x => h1 (.inr x)
        unfold fracB
        rw [h2, h3]
        rcases hs with hs | hs <;> simp [hs]
      obtain ⟨e1, e2⟩ := frac_yes hy
      have e3 : digitsC s p.next 1 9 = fracC s p := by
        rw [e1]
        have : (digitsC s p.next 1 9).bad = p.bad := by
          rw [hq]
          unfold fracB at hy
          simp only [Bool.and_eq_true] at hy
          simpa using hy.1.1.symm
        exact congrArg (CS.mk _) this
      rw [e2, ← e3]
      rcases hs with hs | hs
      · exact frac_ok46 s B p w h hs hq
      · exact frac_ok44 s B p w h hs hq
  · obtain ⟨e1, e2⟩ := frac_no (fracB_false (s := s) (p := p) (.inr (.inl ⟨fun x => hs (.inl x), fun x => hs (.inr x)⟩)))
    rw [e1, e2]
    exact frac_none s B p w h (fun x => hs (.inl x)) (fun x => hs (.inr x))
end Go.Proofs.YtpbfgafkoodeoaaDoor

namespace Go.Proofs.YtpbfgafkoodeoaaDoor
open Go.RowKit

theorem DtAt.set {D : Nat} {vs : Array Value} {w : World} (h : DtAt D vs w) (i : Nat) (v : Value) : DtAt D (vs.setIfInBounds i v) (w.setCell ⟨D, i, none⟩ v) := heap_setCell_row v h
theorem DtAt.frp {D : Nat} {vs : Array Value} {w w' : World} {P : Nat → Prop} (h : DtAt D vs w) (k : FrP P w w') (hn : ¬ P D) : DtAt D vs w' := (k.block D h.lt hn).trans h
theorem DtAt.free {D : Nat} {vs : Array Value} {w : World} (h : DtAt D vs w) (j : Nat) : w.frozen? ⟨D, j, none⟩ = false := Lib.frozen_of_heap h j
def date7 (y m d h i s c : Int) : Array Value := #[.int .i64 y, .int .i64 m, .int .i64 d, .int .i64 h, .int .i64 i, .int .i64 s, .int .i64 c]
abbrev FrD (B D : Nat) : World → World → Prop := FrP (fun k => k = B ∨ k = D)
theorem FrP.up {P Q : Nat → Prop} {w w' : World} (h : FrP P w w') (k : ∀ i, P i → Q i) : FrP Q w w' := ⟨h.os, h.tape, h.output, h.size, fun i hi hn => h.block i hi (fun x => hn (k i x))⟩
theorem Fr.upD {B : Nat} {w w' : World} (h : Fr B w w') (D : Nat) : FrD B D w w' := h.up fun _ x => .inl x

set_option maxRecDepth 100000 in
set_option maxHeartbeats 4000000 in
theorem clock_any (s : ByteArray) (B D : Nat) (p : CS) (y m d h i sc c : Int) (w : World) (hc : CAt s B p w) (hd : DtAt D (date7 y m d h i sc c) w) (hne : D ≠ B) :
    Calls Tryd.prog 56 #[cPtr B, .pointer (some ⟨D, 0, none⟩)] w fun e w' => e = .returned (.tuple #[]) ∧ CAt s B (clockC s p) w' ∧ DtAt D (date7 y m d (clkH s p) (clkI s p) (clkS s p) (clkM s p)) w' ∧ FrD B D w w' := by
  have hn1 := fun W hW => cnumber_any s B p 2 2 (by omega) (by omega) W hW
  have hx1 := fun W hW => expect_any s B (digitsC s p 2 2) 58 (by omega) W hW
  have hn2 := fun W hW => cnumber_any s B (expectC s (digitsC s p 2 2) 58) 2 2 (by omega) (by omega) W hW
  have hx2 := fun W hW => expect_any s B (digitsC s (expectC s (digitsC s p 2 2) 58) 2 2) 58 (by omega) W hW
  have hn3 := fun W hW => cnumber_any s B (expectC s (digitsC s (expectC s (digitsC s p 2 2) 58) 2 2) 58) 2 2 (by omega) (by omega) W hW
  have hf := fun W hW => frac_any s B (clkC s p) W hW
  unfold clockC clkM clkH clkI clkS
  unfold clkC at hf ⊢
  obtain ⟨q1, e1⟩ : ∃ q, digitsC s p 2 2 = q := ⟨_, rfl⟩
  obtain ⟨v1, f1⟩ : ∃ q, numC s p.pos 2 = q := ⟨_, rfl⟩
  rw [e1] at hn1 hx1 hn2 hx2 hn3 hf ⊢
  rw [f1] at hn1 ⊢
  obtain ⟨q2, e2⟩ : ∃ q, expectC s q1 58 = q := ⟨_, rfl⟩
  rw [e2] at hx1 hn2 hx2 hn3 hf ⊢
  obtain ⟨q3, e3⟩ : ∃ q, digitsC s q2 2 2 = q := ⟨_, rfl⟩
  obtain ⟨v2, f2⟩ : ∃ q, numC s q2.pos 2 = q := ⟨_, rfl⟩
  rw [e3] at hn2 hx2 hn3 hf ⊢
  rw [f2] at hn2 ⊢
  obtain ⟨q4, e4⟩ : ∃ q, expectC s q3 58 = q := ⟨_, rfl⟩
  rw [e4] at hx2 hn3 hf ⊢
  obtain ⟨q5, e5⟩ : ∃ q, digitsC s q4 2 2 = q := ⟨_, rfl⟩
  obtain ⟨v3, f3⟩ : ∃ q, numC s q4.pos 2 = q := ⟨_, rfl⟩
  rw [e5] at hn3 hf ⊢
  rw [f3] at hn3 ⊢
  obtain ⟨q6, e6⟩ : ∃ q, fracC s q5 = q := ⟨_, rfl⟩
  obtain ⟨v4, f4⟩ : ∃ q, fracV s q5 = q := ⟨_, rfl⟩
  rw [e6] at hf ⊢
  rw [f4] at hf ⊢
  have H := Lib.hid (And.intro hn1 (And.intro hx1 (And.intro hn2 (And.intro hx2 (And.intro hn3 hf)))))
  have HP := Lib.hid (And.intro hc hd)
  clear hn1 hx1 hn2 hx2 hn3 hf e1 f1 e2 e3 f2 e4 e5 f3 e6 f4 hc hd
  unfold cPtr at H ⊢
  go_enter Tryd.func56, Tryd.ntmps56
  go_wp2_with fail
  refine (H.out.1 _ HP.out.1).mono ?_
  rintro e w1 ⟨rfl, h1, k1⟩
  have d1 := HP.out.2.frp k1 hne
  have K1 := Lib.hid (Fr.upD k1 D)
  have c1 := d1.cell 3
  have g1 := d1.free 3
  have D1 := Lib.hid (d1.set 3 (.int .i64 v1))
  have C1 := Lib.hid h1
  unfold date7 at c1
  simp only [List.getElem?_toArray, List.getElem?_cons_zero, List.getElem?_cons_succ] at c1
  clear d1 h1 k1
  go_wp2_with fail
  have k1' := K1.out.setCell D 3 (.int .i64 v1) (.inr rfl)
  have h1' : CAt s B q1 (w1.setCell ⟨D, 3, none⟩ (.int .i64 v1)) := C1.out.frp ((FrP.refl (fun k => k = D) w1).setCell D 3 (.int .i64 v1) rfl) (fun x => hne x.symm)
  refine (H.out.2.1 _ h1').mono ?_
  rintro e w2 ⟨rfl, h2, k2⟩
  have d2 := D1.out.frp k2 hne
  have K2 := Lib.hid (k1'.trans (Fr.upD k2 D))
  clear c1 g1 k1' h1' k2
  go_wp2_with fail
  refine (H.out.2.2.1 _ h2).mono ?_
  rintro e w3 ⟨rfl, h3, k3⟩
  have d3 := d2.frp k3 hne
  have K3 := Lib.hid (K2.out.trans (Fr.upD k3 D))
  have c3 := d3.cell 4
  have g3 := d3.free 4
  have D3 := Lib.hid (d3.set 4 (.int .i64 v2))
  have C3 := Lib.hid h3
  unfold date7 at c3
  simp only [List.getElem?_toArray, List.getElem?_cons_zero, List.getElem?_cons_succ, List.setIfInBounds_toArray, List.set_cons_zero, List.set_cons_succ] at c3
  clear d3 h3 k3 d2 h2
  go_wp2_with fail
  have k3' := K3.out.setCell D 4 (.int .i64 v2) (.inr rfl)
  have h3' : CAt s B q3 (w3.setCell ⟨D, 4, none⟩ (.int .i64 v2)) := C3.out.frp ((FrP.refl (fun k => k = D) w3).setCell D 4 (.int .i64 v2) rfl) (fun x => hne x.symm)
  refine (H.out.2.2.2.1 _ h3').mono ?_
  rintro e w4 ⟨rfl, h4, k4⟩
  have d4 := D3.out.frp k4 hne
  have K4 := Lib.hid (k3'.trans (Fr.upD k4 D))
  clear c3 g3 k3' h3' k4
  go_wp2_with fail
  refine (H.out.2.2.2.2.1 _ h4).mono ?_
  rintro e w5 ⟨rfl, h5, k5⟩
  have d5 := d4.frp k5 hne
  have K5 := Lib.hid (K4.out.trans (Fr.upD k5 D))
  have c5 := d5.cell 5
  have g5 := d5.free 5
  have D5 := Lib.hid (d5.set 5 (.int .i64 v3))
  have C5 := Lib.hid h5
  unfold date7 at c5
  simp only [List.getElem?_toArray, List.getElem?_cons_zero, List.getElem?_cons_succ, List.setIfInBounds_toArray, List.set_cons_zero, List.set_cons_succ] at c5
  clear d5 h5 k5 d4 h4
  go_wp2_with fail
  have k5' := K5.out.setCell D 5 (.int .i64 v3) (.inr rfl)
  have h5' : CAt s B q5 (w5.setCell ⟨D, 5, none⟩ (.int .i64 v3)) := C5.out.frp ((FrP.refl (fun k => k = D) w5).setCell D 5 (.int .i64 v3) rfl) (fun x => hne x.symm)
  refine (H.out.2.2.2.2.2 _ h5').mono ?_
  rintro e w6 ⟨rfl, h6, k6⟩
  have d6 := D5.out.frp k6 hne
  have K6 := Lib.hid (k5'.trans (Fr.upD k6 D))
  have c6 := d6.cell 6
  have g6 := d6.free 6
  have D6 := Lib.hid (d6.set 6 (.int .i64 v4))
  have C6 := Lib.hid h6
  unfold date7 at c6
  simp only [List.getElem?_toArray, List.getElem?_cons_zero, List.getElem?_cons_succ, List.setIfInBounds_toArray, List.set_cons_zero, List.set_cons_succ] at c6
  clear d6 h6 k6 c5 g5 k5' h5'
  go_wp2
  go_end0
  have k6' := K6.out.setCell D 6 (.int .i64 v4) (.inr rfl)
  have h6' : CAt s B q6 (w6.setCell ⟨D, 6, none⟩ (.int .i64 v4)) := C6.out.frp ((FrP.refl (fun k => k = D) w6).setCell D 6 (.int .i64 v4) rfl) (fun x => hne x.symm)
  exact ⟨rfl, h6', by simpa [date7] using D6.out, k6'⟩

set_option maxRecDepth 100000 in
set_option maxHeartbeats 4000000 in
theorem zone_Z (s : ByteArray) (B : Nat) (p : CS) (z : Int) (w : World) (h : CAt s B p w) (h1 : byN s p.pos = 90) :
    Calls Tryd.prog 57 #[cPtr B, .int .i64 z] w fun e w' => e = .returned (.int .i64 0) ∧ CAt s B p.next w' ∧ Fr B w w' := by
  have H := Lib.hid (take_yes s B p 90 w h h1 (by omega))
  clear h h1
  unfold cPtr at H ⊢
  go_enter Tryd.func57, Tryd.ntmps57
  go_wp2_with fail
  refine (H.out).mono ?_
  rintro e w1 ⟨rfl, h1, hf1⟩
  go_wp2
  go_ret
  exact ⟨rfl, h1, hf1⟩

set_option maxRecDepth 100000 in
set_option maxHeartbeats 4000000 in
theorem zone_minus (s : ByteArray) (B : Nat) (p : CS) (z : Int) (w : World) (h : CAt s B p w) (h1 : byN s p.pos = 45) (hq : (digitsC s (takeC s (digitsC s p.next 2 2) 58) 2 2).bad = false) :
    Calls Tryd.prog 57 #[cPtr B, .int .i64 z] w fun e w' => e = .returned (.int .i64 (-(zonN s p))) ∧ CAt s B (zon3 s p) w' ∧ Fr B w w' := by
  obtain ⟨c0, c1, c2, f0, f1, f2⟩ := h.parts
  have hcp := fun W (hW : CAt s B p W) => CAt.copy hW
  have hz := take_no s B p 90 w h (by omega)
  have ht := fun W T hW => take_yes s T p 45 W hW h1 (by omega)
  have hle : p.next.pos ≤ s.size := byN_pos (s := s) (k := p.pos) (by omega)
  unfold zonN zon3 zon2 zon1
  have hn1 := fun W T hW => cnumber_any s T p.next 2 2 (by omega) (by omega) W hW
  have hk := fun W T hW => take_any s T (digitsC s p.next 2 2) 58 (by omega) W hW
  have hn2 := fun W T hW => cnumber_any s T (takeC s (digitsC s p.next 2 2) 58) 2 2 (by omega) (by omega) W hW
  have hb1 := numC_lt (s := s) (k := p.next.pos) (b := 2) hle
  obtain ⟨q1, e1⟩ : ∃ q, digitsC s p.next 2 2 = q := ⟨_, rfl⟩
  obtain ⟨v1, f1'⟩ : ∃ q, numC s (p.next).pos 2 = q := ⟨_, rfl⟩
  have hi1 : q1.pos ≤ s.size := by rw [← e1]; exact dRun_in s 2 _ hle
  rw [e1] at hn1 hk hn2 hq ⊢
  rw [f1'] at hn1 hb1 ⊢
  obtain ⟨tb, e0⟩ : ∃ q, tkB s q1 58 = q := ⟨_, rfl⟩
  obtain ⟨q2, e2⟩ : ∃ q, takeC s q1 58 = q := ⟨_, rfl⟩
  have hi2 : q2.pos ≤ s.size := by
    rw [← e2]; unfold takeC; split
    · rename_i hx; exact byN_pos (s := s) (k := q1.pos) (by omega)
    · exact hi1
  have hb2 := numC_lt (s := s) (k := q2.pos) (b := 2) hi2
  rw [e0, e2] at hk
  rw [e2] at hn2 hq ⊢
  obtain ⟨q3, e3⟩ : ∃ q, digitsC s q2 2 2 = q := ⟨_, rfl⟩
  obtain ⟨v2, f2'⟩ : ∃ q, numC s q2.pos 2 = q := ⟨_, rfl⟩
  have hi3 : q3.pos ≤ s.size := by rw [← e3]; exact dRun_in s 2 _ hi2
  rw [e3] at hn2 hq ⊢
  rw [f2'] at hn2 hb2 ⊢
  have HP := Lib.hid h
  have H := Lib.hid (And.intro hz (And.intro ht (And.intro hn1 (And.intro hk hn2))))
  have HC := Lib.hid hcp
  have HQ := Lib.hid (And.intro hq hi3)
  clear hz ht hn1 hk hn2 hcp hq h e1 f1' e0 e2 e3 f2' h1 c0 c1 c2 f0 f1 f2 hle hi1 hi2 hi3
  unfold cPtr at H ⊢
  go_enter Tryd.func57, Tryd.ntmps57
  go_wp2_with fail
  refine (H.out.1).mono ?_
  rintro e w0 ⟨rfl, hA, kA⟩
  obtain ⟨c0, c1, c2, f0, f1, f2⟩ := hA.parts
  have hT := HC.out w0 hA
  have hbA : Below w0.heap.size w0 w0 := Below.refl _ _
  have HA := Lib.hid (And.intro hA (And.intro kA hT))
  clear hA kA hT hbA
  go_wp2_with fail
  refine (H.out.2.1 _ _ HA.out.2.2).mono ?_
  rintro e w1 ⟨rfl, h1, k1⟩
  go_wp2_with fail
  refine (H.out.2.2.1 _ _ h1).mono ?_
  rintro e w2 ⟨rfl, h2, k2⟩
  have k12 := k1.trans k2
  clear k1 k2 h1
  go_wp2_with fail
  refine (H.out.2.2.2.1 _ _ h2).mono ?_
  rintro e w3 ⟨rfl, h3, k3⟩
  have k13 := k12.trans k3
  clear k12 k3 h2
  go_wp2_with fail
  refine (H.out.2.2.2.2 _ _ h3).mono ?_
  rintro e w4 ⟨rfl, h4, k4⟩
  have hb := fresh_below rfl (k13.trans k4)
  have hB := HA.out.1.below hb
  obtain ⟨d0, d1, d2, g0, g1, g2⟩ := h4.parts
  obtain ⟨b0, b1, b2, b3, b4, b5⟩ := hB.parts
  rw [HQ.out.1] at d2
  have HH := Lib.hid (And.intro hb (And.intro hB h4))
  clear hb hB h3 h4 k13 k4 c0 c1 c2 f0 f1 f2
  have hw : CAt s B q3 (put3 w4 B s q3) := HH.out.2.1.put HQ.out.2
  have hf : Fr B w (put3 w4 B s q3) := put3_fr (HA.out.2.1.below HH.out.1) rfl
  unfold put3 at hw hf
  rw [HQ.out.1] at hw hf
  have hsz2 : w0.heap.size ≠ B := by have := HA.out.1.lt; omega
  have HW := Lib.hid (And.intro hw hf)
  clear hw hf
  go_wp2
  go_ret
  exact ⟨rt_int (by push_cast; omega), HW.out.1, HW.out.2⟩

set_option maxRecDepth 100000 in
set_option maxHeartbeats 4000000 in
theorem zone_minusBad (s : ByteArray) (B : Nat) (p : CS) (z : Int) (w : World) (h : CAt s B p w) (h1 : byN s p.pos = 45) (hq : (digitsC s (takeC s (digitsC s p.next 2 2) 58) 2 2).bad = true) :
    Calls Tryd.prog 57 #[cPtr B, .int .i64 z] w fun e w' => e = .returned (.int .i64 z) ∧ CAt s B p w' ∧ Fr B w w' := by
  obtain ⟨c0, c1, c2, f0, f1, f2⟩ := h.parts
  have hcp := fun W (hW : CAt s B p W) => CAt.copy hW
  have hz := take_no s B p 90 w h (by omega)
  have ht := fun W T hW => take_yes s T p 45 W hW h1 (by omega)
  have hn1 := fun W T hW => cnumber_any s T p.next 2 2 (by omega) (by omega) W hW
  have hk := fun W T hW => take_any s T (digitsC s p.next 2 2) 58 (by omega) W hW
  have hn2 := fun W T hW => cnumber_any s T (takeC s (digitsC s p.next 2 2) 58) 2 2 (by omega) (by omega) W hW
  obtain ⟨q1, e1⟩ : ∃ q, digitsC s p.next 2 2 = q := ⟨_, rfl⟩
  obtain ⟨v1, f1'⟩ : ∃ q, numC s (p.next).pos 2 = q := ⟨_, rfl⟩
  rw [e1] at hn1 hk hn2 hq
  rw [f1'] at hn1
  obtain ⟨tb, e0⟩ : ∃ q, tkB s q1 58 = q := ⟨_, rfl⟩
  obtain ⟨q2, e2⟩ : ∃ q, takeC s q1 58 = q := ⟨_, rfl⟩
  rw [e0, e2] at hk
  rw [e2] at hn2 hq
  obtain ⟨q3, e3⟩ : ∃ q, digitsC s q2 2 2 = q := ⟨_, rfl⟩
  obtain ⟨v2, f2'⟩ : ∃ q, numC s q2.pos 2 = q := ⟨_, rfl⟩
  rw [e3] at hn2 hq
  rw [f2'] at hn2
  have HP := Lib.hid h
  have H := Lib.hid (And.intro hz (And.intro ht (And.intro hn1 (And.intro hk hn2))))
  have HC := Lib.hid hcp
  have HQ := Lib.hid (And.intro hq trivial)
  clear hz ht hn1 hk hn2 hcp hq h e1 f1' e0 e2 e3 f2' h1 c0 c1 c2 f0 f1 f2
  unfold cPtr at H ⊢
  go_enter Tryd.func57, Tryd.ntmps57
  go_wp2_with fail
  refine (H.out.1).mono ?_
  rintro e w0 ⟨rfl, hA, kA⟩
  obtain ⟨c0, c1, c2, f0, f1, f2⟩ := hA.parts
  have hT := HC.out w0 hA
  have hbA : Below w0.heap.size w0 w0 := Below.refl _ _
  have HA := Lib.hid (And.intro hA (And.intro kA hT))
  clear hA kA hT hbA
  go_wp2_with fail
  refine (H.out.2.1 _ _ HA.out.2.2).mono ?_
  rintro e w1 ⟨rfl, h1, k1⟩
  go_wp2_with fail
  refine (H.out.2.2.1 _ _ h1).mono ?_
  rintro e w2 ⟨rfl, h2, k2⟩
  have k12 := k1.trans k2
  clear k1 k2 h1
  go_wp2_with fail
  refine (H.out.2.2.2.1 _ _ h2).mono ?_
  rintro e w3 ⟨rfl, h3, k3⟩
  have k13 := k12.trans k3
  clear k12 k3 h2
  go_wp2_with fail
  refine (H.out.2.2.2.2 _ _ h3).mono ?_
  rintro e w4 ⟨rfl, h4, k4⟩
  have hb := fresh_below rfl (k13.trans k4)
  have hB := HA.out.1.below hb
  obtain ⟨d0, d1, d2, g0, g1, g2⟩ := h4.parts
  obtain ⟨b0, b1, b2, b3, b4, b5⟩ := hB.parts
  rw [HQ.out.1] at d2
  have HH := Lib.hid (And.intro hb (And.intro hB h4))
  clear hb hB h3 h4 k13 k4 c0 c1 c2 f0 f1 f2
  go_wp2
  go_ret
  exact ⟨rfl, HH.out.2.1, HA.out.2.1.below HH.out.1⟩

set_option maxRecDepth 100000 in
set_option maxHeartbeats 4000000 in
theorem zone_plus (s : ByteArray) (B : Nat) (p : CS) (z : Int) (w : World) (h : CAt s B p w) (h1 : byN s p.pos = 43) (hq : (digitsC s (takeC s (digitsC s p.next 2 2) 58) 2 2).bad = false) :
    Calls Tryd.prog 57 #[cPtr B, .int .i64 z] w fun e w' => e = .returned (.int .i64 (zonN s p)) ∧ CAt s B (zon3 s p) w' ∧ Fr B w w' := by
  obtain ⟨c0, c1, c2, f0, f1, f2⟩ := h.parts
  have hcp := fun W (hW : CAt s B p W) => CAt.copy hW
  have hz := take_no s B p 90 w h (by omega)
  have hm := fun W T hW => take_no s T p 45 W hW (by omega)
  have ht := fun W T hW => expect_any s T p 43 (by omega) W hW
  unfold expectC at ht
  rw [if_pos h1] at ht
  have hle : p.next.pos ≤ s.size := byN_pos (s := s) (k := p.pos) (by omega)
  unfold zonN zon3 zon2 zon1
  have hn1 := fun W T hW => cnumber_any s T p.next 2 2 (by omega) (by omega) W hW
  have hk := fun W T hW => take_any s T (digitsC s p.next 2 2) 58 (by omega) W hW
  have hn2 := fun W T hW => cnumber_any s T (takeC s (digitsC s p.next 2 2) 58) 2 2 (by omega) (by omega) W hW
  have hb1 := numC_lt (s := s) (k := p.next.pos) (b := 2) hle
  obtain ⟨q1, e1⟩ : ∃ q, digitsC s p.next 2 2 = q := ⟨_, rfl⟩
  obtain ⟨v1, f1'⟩ : ∃ q, numC s (p.next).pos 2 = q := ⟨_, rfl⟩
  have hi1 : q1.pos ≤ s.size := by rw [← e1]; exact dRun_in s 2 _ hle
  rw [e1] at hn1 hk hn2 hq ⊢
  rw [f1'] at hn1 hb1 ⊢
  obtain ⟨tb, e0⟩ : ∃ q, tkB s q1 58 = q := ⟨_, rfl⟩
  obtain ⟨q2, e2⟩ : ∃ q, takeC s q1 58 = q := ⟨_, rfl⟩
  have hi2 : q2.pos ≤ s.size := by
    rw [← e2]; unfold takeC; split
    · rename_i hx; exact byN_pos (s := s) (k := q1.pos) (by omega)
    · exact hi1
  have hb2 := numC_lt (s := s) (k := q2.pos) (b := 2) hi2
  rw [e0, e2] at hk
  rw [e2] at hn2 hq ⊢
  obtain ⟨q3, e3⟩ : ∃ q, digitsC s q2 2 2 = q := ⟨_, rfl⟩
  obtain ⟨v2, f2'⟩ : ∃ q, numC s q2.pos 2 = q := ⟨_, rfl⟩
  have hi3 : q3.pos ≤ s.size := by rw [← e3]; exact dRun_in s 2 _ hi2
  rw [e3] at hn2 hq ⊢
  rw [f2'] at hn2 hb2 ⊢
  have HP := Lib.hid h
  have H := Lib.hid (And.intro hz (And.intro ht (And.intro hn1 (And.intro hk hn2))))
  have HC := Lib.hid hcp
  have HQ := Lib.hid (And.intro hq hi3)
  have HM := Lib.hid hm
  clear hm
  clear hz ht hn1 hk hn2 hcp hq h e1 f1' e0 e2 e3 f2' h1 c0 c1 c2 f0 f1 f2 hle hi1 hi2 hi3
  unfold cPtr at H HM ⊢
  go_enter Tryd.func57, Tryd.ntmps57
  go_wp2_with fail
  refine (H.out.1).mono ?_
  rintro e w0 ⟨rfl, hA, kA⟩
  obtain ⟨c0, c1, c2, f0, f1, f2⟩ := hA.parts
  have hT := HC.out w0 hA
  have hbA : Below w0.heap.size w0 w0 := Below.refl _ _
  have HA := Lib.hid (And.intro hA (And.intro kA hT))
  clear hA kA hT hbA
  go_wp2_with fail
  refine (HM.out _ _ HA.out.2.2).mono ?_
  rintro e w1 ⟨rfl, h0, k0⟩
  go_wp2_with fail
  refine (H.out.2.1 _ _ h0).mono ?_
  rintro e w1' ⟨rfl, h1, k1'⟩
  have k1 := k0.trans k1'
  clear k0 k1' h0
  go_wp2_with fail
  refine (H.out.2.2.1 _ _ h1).mono ?_
  rintro e w2 ⟨rfl, h2, k2⟩
  have k12 := k1.trans k2
  clear k1 k2 h1
  go_wp2_with fail
  refine (H.out.2.2.2.1 _ _ h2).mono ?_
  rintro e w3 ⟨rfl, h3, k3⟩
  have k13 := k12.trans k3
  clear k12 k3 h2
  go_wp2_with fail
  refine (H.out.2.2.2.2 _ _ h3).mono ?_
  rintro e w4 ⟨rfl, h4, k4⟩
  have hb := fresh_below rfl (k13.trans k4)
  have hB := HA.out.1.below hb
  obtain ⟨d0, d1, d2, g0, g1, g2⟩ := h4.parts
  obtain ⟨b0, b1, b2, b3, b4, b5⟩ := hB.parts
  rw [HQ.out.1] at d2
  have HH := Lib.hid (And.intro hb (And.intro hB h4))
  clear hb hB h3 h4 k13 k4 c0 c1 c2 f0 f1 f2
  have hw : CAt s B q3 (put3 w4 B s q3) := HH.out.2.1.put HQ.out.2
  have hf : Fr B w (put3 w4 B s q3) := put3_fr (HA.out.2.1.below HH.out.1) rfl
  unfold put3 at hw hf
  rw [HQ.out.1] at hw hf
  have hsz2 : w0.heap.size ≠ B := by have := HA.out.1.lt; omega
  have HW := Lib.hid (And.intro hw hf)
  clear hw hf
  go_wp2
  go_ret
  exact ⟨rt_int (by push_cast; omega), HW.out.1, HW.out.2⟩

set_option maxRecDepth 100000 in
set_option maxHeartbeats 4000000 in
theorem zone_plusBad (s : ByteArray) (B : Nat) (p : CS) (z : Int) (w : World) (h : CAt s B p w) (h1 : byN s p.pos = 43) (hq : (digitsC s (takeC s (digitsC s p.next 2 2) 58) 2 2).bad = true) :
    Calls Tryd.prog 57 #[cPtr B, .int .i64 z] w fun e w' => e = .returned (.int .i64 z) ∧ CAt s B p w' ∧ Fr B w w' := by
  obtain ⟨c0, c1, c2, f0, f1, f2⟩ := h.parts
  have hcp := fun W (hW : CAt s B p W) => CAt.copy hW
  have hz := take_no s B p 90 w h (by omega)
  have hm := fun W T hW => take_no s T p 45 W hW (by omega)
  have ht := fun W T hW => expect_any s T p 43 (by omega) W hW
  unfold expectC at ht
  rw [if_pos h1] at ht
  have hn1 := fun W T hW => cnumber_any s T p.next 2 2 (by omega) (by omega) W hW
  have hk := fun W T hW => take_any s T (digitsC s p.next 2 2) 58 (by omega) W hW
  have hn2 := fun W T hW => cnumber_any s T (takeC s (digitsC s p.next 2 2) 58) 2 2 (by omega) (by omega) W hW
  obtain ⟨q1, e1⟩ : ∃ q, digitsC s p.next 2 2 = q := ⟨_, rfl⟩
  obtain ⟨v1, f1'⟩ : ∃ q, numC s (p.next).pos 2 = q := ⟨_, rfl⟩
  rw [e1] at hn1 hk hn2 hq
  rw [f1'] at hn1
  obtain ⟨tb, e0⟩ : ∃ q, tkB s q1 58 = q := ⟨_, rfl⟩
  obtain ⟨q2, e2⟩ : ∃ q, takeC s q1 58 = q := ⟨_, rfl⟩
  rw [e0, e2] at hk
  rw [e2] at hn2 hq
  obtain ⟨q3, e3⟩ : ∃ q, digitsC s q2 2 2 = q := ⟨_, rfl⟩
  obtain ⟨v2, f2'⟩ : ∃ q, numC s q2.pos 2 = q := ⟨_, rfl⟩
  rw [e3] at hn2 hq
  rw [f2'] at hn2
  have HP := Lib.hid h
  have H := Lib.hid (And.intro hz (And.intro ht (And.intro hn1 (And.intro hk hn2))))
  have HC := Lib.hid hcp
  have HQ := Lib.hid (And.intro hq trivial)
  have HM := Lib.hid hm
  clear hm
  clear hz ht hn1 hk hn2 hcp hq h e1 f1' e0 e2 e3 f2' h1 c0 c1 c2 f0 f1 f2
  unfold cPtr at H HM ⊢
  go_enter Tryd.func57, Tryd.ntmps57
  go_wp2_with fail
  refine (H.out.1).mono ?_
  rintro e w0 ⟨rfl, hA, kA⟩
  obtain ⟨c0, c1, c2, f0, f1, f2⟩ := hA.parts
  have hT := HC.out w0 hA
  have hbA : Below w0.heap.size w0 w0 := Below.refl _ _
  have HA := Lib.hid (And.intro hA (And.intro kA hT))
  clear hA kA hT hbA
  go_wp2_with fail
  refine (HM.out _ _ HA.out.2.2).mono ?_
  rintro e w1 ⟨rfl, h0, k0⟩
  go_wp2_with fail
  refine (H.out.2.1 _ _ h0).mono ?_
  rintro e w1' ⟨rfl, h1, k1'⟩
  have k1 := k0.trans k1'
  clear k0 k1' h0
  go_wp2_with fail
  refine (H.out.2.2.1 _ _ h1).mono ?_
  rintro e w2 ⟨rfl, h2, k2⟩
  have k12 := k1.trans k2
  clear k1 k2 h1
  go_wp2_with fail
  refine (H.out.2.2.2.1 _ _ h2).mono ?_
  rintro e w3 ⟨rfl, h3, k3⟩
  have k13 := k12.trans k3
  clear k12 k3 h2
  go_wp2_with fail
  refine (H.out.2.2.2.2 _ _ h3).mono ?_
  rintro e w4 ⟨rfl, h4, k4⟩
  have hb := fresh_below rfl (k13.trans k4)
  have hB := HA.out.1.below hb
  obtain ⟨d0, d1, d2, g0, g1, g2⟩ := h4.parts
  obtain ⟨b0, b1, b2, b3, b4, b5⟩ := hB.parts
  rw [HQ.out.1] at d2
  have HH := Lib.hid (And.intro hb (And.intro hB h4))
  clear hb hB h3 h4 k13 k4 c0 c1 c2 f0 f1 f2
  go_wp2
  go_ret
  exact ⟨rfl, HH.out.2.1, HA.out.2.1.below HH.out.1⟩

set_option maxRecDepth 100000 in
set_option maxHeartbeats 4000000 in
theorem zone_none (s : ByteArray) (B : Nat) (p : CS) (z : Int) (w : World) (h : CAt s B p w) (h1 : byN s p.pos ≠ 90) (h2 : byN s p.pos ≠ 45) (h3 : byN s p.pos ≠ 43) (hq : (digitsC s (takeC s (digitsC s (⟨p.pos, true⟩ : CS) 2 2) 58) 2 2).bad = true) :
    Calls Tryd.prog 57 #[cPtr B, .int .i64 z] w fun e w' => e = .returned (.int .i64 z) ∧ CAt s B p w' ∧ Fr B w w' := by
  obtain ⟨c0, c1, c2, f0, f1, f2⟩ := h.parts
  have hcp := fun W (hW : CAt s B p W) => CAt.copy hW
  have hz := take_no s B p 90 w h (by omega)
  have hm := fun W T hW => take_no s T p 45 W hW (by omega)
  have ht := fun W T hW => expect_any s T p 43 (by omega) W hW
  unfold expectC at ht
  rw [if_neg h3] at ht
  have hn1 := fun W T hW => cnumber_any s T (⟨p.pos, true⟩ : CS) 2 2 (by omega) (by omega) W hW
  have hk := fun W T hW => take_any s T (digitsC s (⟨p.pos, true⟩ : CS) 2 2) 58 (by omega) W hW
  have hn2 := fun W T hW => cnumber_any s T (takeC s (digitsC s (⟨p.pos, true⟩ : CS) 2 2) 58) 2 2 (by omega) (by omega) W hW
  obtain ⟨q1, e1⟩ : ∃ q, digitsC s (⟨p.pos, true⟩ : CS) 2 2 = q := ⟨_, rfl⟩
  obtain ⟨v1, f1'⟩ : ∃ q, numC s ((⟨p.pos, true⟩ : CS)).pos 2 = q := ⟨_, rfl⟩
  rw [e1] at hn1 hk hn2 hq
  rw [f1'] at hn1
  obtain ⟨tb, e0⟩ : ∃ q, tkB s q1 58 = q := ⟨_, rfl⟩
  obtain ⟨q2, e2⟩ : ∃ q, takeC s q1 58 = q := ⟨_, rfl⟩
  rw [e0, e2] at hk
  rw [e2] at hn2 hq
  obtain ⟨q3, e3⟩ : ∃ q, digitsC s q2 2 2 = q := ⟨_, rfl⟩
  obtain ⟨v2, f2'⟩ : ∃ q, numC s q2.pos 2 = q := ⟨_, rfl⟩
  rw [e3] at hn2 hq
  rw [f2'] at hn2
  have HP := Lib.hid h
  have H := Lib.hid (And.intro hz (And.intro ht (And.intro hn1 (And.intro hk hn2))))
  have HC := Lib.hid hcp
  have HQ := Lib.hid (And.intro hq trivial)
  have HM := Lib.hid hm
  clear hm
  clear hz ht hn1 hk hn2 hcp hq h e1 f1' e0 e2 e3 f2' h1 h2 h3 c0 c1 c2 f0 f1 f2
  unfold cPtr at H HM ⊢
  go_enter Tryd.func57, Tryd.ntmps57
  go_wp2_with fail
  refine (H.out.1).mono ?_
  rintro e w0 ⟨rfl, hA, kA⟩
  obtain ⟨c0, c1, c2, f0, f1, f2⟩ := hA.parts
  have hT := HC.out w0 hA
  have hbA : Below w0.heap.size w0 w0 := Below.refl _ _
  have HA := Lib.hid (And.intro hA (And.intro kA hT))
  clear hA kA hT hbA
  go_wp2_with fail
  refine (HM.out _ _ HA.out.2.2).mono ?_
  rintro e w1 ⟨rfl, h0, k0⟩
  go_wp2_with fail
  refine (H.out.2.1 _ _ h0).mono ?_
  rintro e w1' ⟨rfl, h1, k1'⟩
  have k1 := k0.trans k1'
  clear k0 k1' h0
  go_wp2_with fail
  refine (H.out.2.2.1 _ _ h1).mono ?_
  rintro e w2 ⟨rfl, h2, k2⟩
  have k12 := k1.trans k2
  clear k1 k2 h1
  go_wp2_with fail
  refine (H.out.2.2.2.1 _ _ h2).mono ?_
  rintro e w3 ⟨rfl, h3, k3⟩
  have k13 := k12.trans k3
  clear k12 k3 h2
  go_wp2_with fail
  refine (H.out.2.2.2.2 _ _ h3).mono ?_
  rintro e w4 ⟨rfl, h4, k4⟩
  have hb := fresh_below rfl (k13.trans k4)
  have hB := HA.out.1.below hb
  obtain ⟨d0, d1, d2, g0, g1, g2⟩ := h4.parts
  obtain ⟨b0, b1, b2, b3, b4, b5⟩ := hB.parts
  rw [HQ.out.1] at d2
  have HH := Lib.hid (And.intro hb (And.intro hB h4))
  clear hb hB h3 h4 k13 k4 c0 c1 c2 f0 f1 f2
  go_wp2
  go_ret
  exact ⟨rfl, HH.out.2.1, HA.out.2.1.below HH.out.1⟩

theorem zone_any (s : ByteArray) (B : Nat) (p : CS) (z : Int) (w : World) (h : CAt s B p w) :
    Calls Tryd.prog 57 #[cPtr B, .int .i64 z] w fun e w' => e = .returned (.int .i64 (zoneV s p z)) ∧ CAt s B (zoneC s p) w' ∧ Fr B w w' := by
  unfold zoneV zoneC
  by_cases hZ : byN s p.pos = 90
  · rw [if_pos hZ, if_pos hZ]; exact zone_Z s B p z w h hZ
  · rw [if_neg hZ, if_neg hZ]
    by_cases hm : byN s p.pos = 45
    · cases hq : (zon3 s p).bad with
      | true =>
        have hb : zonB s p = false := by unfold zonB; rw [hq]; simp
        rw [hb]; exact zone_minusBad s B p z w h hm hq
      | false =>
        have hb : zonB s p = true := by unfold zonB; rw [hq]; simp [hm]
        rw [hb, if_pos rfl, if_pos rfl, if_pos hm]; exact zone_minus s B p z w h hm hq
    · by_cases hp : byN s p.pos = 43
      · cases hq : (zon3 s p).bad with
        | true =>
          have hb : zonB s p = false := by unfold zonB; rw [hq]; simp
          rw [hb]; exact zone_plusBad s B p z w h hp hq
        | false =>
          have hb : zonB s p = true := by unfold zonB; rw [hq]; simp [hp]
          rw [hb, if_pos rfl, if_pos rfl, if_neg hm]; exact zone_plus s B p z w h hp hq
      · have hb : zonB s p = false := by unfold zonB; simp [hm, hp]
        rw [hb]
        exact zone_none s B p z w h hZ hm hp (digitsC_bad (by rw [takeC_bad]; exact digitsC_bad rfl))
end Go.Proofs.YtpbfgafkoodeoaaDoor
