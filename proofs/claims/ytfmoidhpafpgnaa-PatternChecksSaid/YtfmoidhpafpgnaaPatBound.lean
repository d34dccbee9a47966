/- The contracts of the parser's bound and bounds. The contract of the parser's bounds. -/
import Derived.Test.YtfmoidhpafpgnaaPatParse
import Derived.BigQuiet
import Derived.Deep.RegionWith
namespace Go.Proofs.Ytfmoidhpafpgnaa
open Go.RowKit

theorem num_digs (l : List UInt8) (h : allD l = true) (h1 : 1 ≤ l.length) (h2 : l.length ≤ 2) : numV l = (valD l : Int) ∧ numB l = true := by
  have hn : isNeg l = false := by
    cases l with
    | nil => simp at h1
    | cons c r =>
      simp only [allD, List.all_cons, Bool.and_eq_true] at h
      have h3 : digB c.toNat = true := h.1
      simp [digB] at h3
      simp [isNeg]
      intro h4
      rw [h4] at h3
      revert h3; decide
  have hp : digPart l = l := by simp [digPart, hn]
  have hB : numB l = true := by
    unfold numB digOk; rw [hp, h]; simp; omega
  refine ⟨?_, hB⟩
  unfold numV
  rw [hB, hn, hp]; simp
theorem num_none : numV [] = 0 ∧ numB [] = false := by decide

theorem mk_list (x : ByteArray) : ByteArray.mk x.data.toList.toArray = x := by cases x; simp
theorem slice_two (s : ByteArray) (a k : Nat) (h2 : a + k ≤ s.size) (W : World) :
    (Instr.slice 9 (.string s) (some (.int .i64 (a : Int))) (some (.int .i64 ((a : Int) + (k : Int)))) none).run Try.prog W = .ok (.string (s.extract a (a + k))) W := by
  have e2 : ((a : Int) + (k : Int)).toNat = a + k := by omega
  have u := run_underlying Try.underlying9
  simp [go_sem, Instr.slice, u, e2]
  intro h
  exact absurd (h (by omega)) (by omega)
theorem PAt.drew {s : ByteArray} {B : Nat} {p : PS} {w : World} (h : PAt s B p w) : PAt s B p w.drew := ⟨h.hp, h.le, h.sz⟩
/-- The state of bound's loop. -/
structure BdAt (s : ByteArray) (B : Nat) (p : PS) (w0 wr : World) (k : Nat) : Prop where
  hk : k ≤ digitsS s p
  hp : PAt s B ⟨p.pos + k, p.er⟩ wr
  fr : Fr B w0 wr
def posIn (B : Nat) (w : World) : Nat := match w.cell? ⟨B, 1, none⟩ with | some v => (intOf v).toNat | none => 0
theorem posIn_eq {s : ByteArray} {B : Nat} {p : PS} {w : World} (h : PAt s B p w) : posIn B w = p.pos := by
  unfold posIn; rw [h.parts.2.1]; simp [intOf]

/-- What the digits are. -/
theorem digits_ways (s : ByteArray) (p : PS) (_hp : p.pos ≤ s.size) :
    digitsS s p ≤ 2 ∧ (∀ k, k < digitsS s p → digB (peekS s ⟨p.pos + k, p.er⟩) = true) ∧ (digitsS s p < 2 → digB (peekS s ⟨p.pos + digitsS s p, p.er⟩) = false) := by
  unfold digitsS
  by_cases h0 : digB (peekS s p) = true
  · rw [if_pos h0]
    by_cases h1 : digB (peekS s p.next) = true
    · rw [if_pos h1]
      refine ⟨by omega, fun k hk => ?_, fun h => by omega⟩
      rcases (by omega : k = 0 ∨ k = 1) with rfl | rfl
      · exact h0
      · exact h1
    · rw [if_neg h1]
      refine ⟨by omega, fun k hk => ?_, fun _ => by simpa [PS.next] using h1⟩
      obtain rfl : k = 0 := by omega
      exact h0
  · rw [if_neg h0]
    exact ⟨by omega, fun k hk => by omega, fun _ => by simpa using h0⟩
theorem digB_zero : digB 0 = false := by decide
theorem dig_peek {s : ByteArray} {p : PS} (h : digB (peekS s p) = true) : p.er = 0 ∧ p.pos < s.size :=
  peekS_in (fun e => by rw [e, digB_zero] at h; cases h)
theorem digits_fit (s : ByteArray) (p : PS) (hp : p.pos ≤ s.size) : p.pos + digitsS s p ≤ s.size := by
  obtain ⟨h2, hd, -⟩ := digits_ways s p hp
  rcases Nat.eq_zero_or_pos (digitsS s p) with h | h
  · omega
  · have := (dig_peek (hd (digitsS s p - 1) (by omega))).2
    simp only at this
    omega
theorem digits_all (s : ByteArray) (p : PS) (hp : p.pos ≤ s.size) :
    allD (s.extract p.pos (p.pos + digitsS s p)).data.toList = true ∧ (s.extract p.pos (p.pos + digitsS s p)).data.toList.length = digitsS s p := by
  obtain ⟨h2, hd, -⟩ := digits_ways s p hp
  have hf := digits_fit s p hp
  have hl : (s.extract p.pos (p.pos + digitsS s p)).data.toList.length = digitsS s p := by rw [sizeB, ByteArray.size_extract]; omega
  refine ⟨?_, hl⟩
  rw [allD, List.all_eq_true]
  intro x hx
  obtain ⟨k, hk, rfl⟩ := List.getElem_of_mem hx
  have hk2 : k < digitsS s p := by omega
  have h := hd k hk2
  have he := dig_peek h
  rw [peekS_ok he.1, byteN_in _ _ he.2] at h
  have e : (s.extract p.pos (p.pos + digitsS s p)).data.toList[k] = s[p.pos + k]'he.2 := by
    simp only [extract_list]
    rw [List.getElem_drop, List.getElem_take]
    rfl
  rw [e]; exact h

set_option maxRecDepth 100000 in
set_option maxHeartbeats 4000000 in
theorem bound_zero (s : ByteArray) (B : Nat) (p : PS) (w : World) (h : PAt s B p w) (d : Nat) (hdd : digitsS s p = d) (hnum : numV (s.extract p.pos (p.pos + d)).data.toList = 0 ∧ numB (s.extract p.pos (p.pos + d)).data.toList = false) :
    Calls Try.prog 51 #[pPtr B] w fun e w' => e = .returned (.int .i64 0) ∧ PAt s B (failS ⟨p.pos + d, p.er⟩ (p.pos + d) 1) w' ∧ Fr B w w' := by
  have hle := h.le
  have hsz := h.sz
  obtain ⟨g2, gd, gn⟩ := digits_ways s p hle
  have gf := digits_fit s p hle
  obtain ⟨c0, c1, c2, f1, f2⟩ := h.parts
  have hpk := fun q W hW => peek_to s B q W hW
  have hdi := fun c hc W => digit_any c hc W
  have hws := fun W => number_any (s.extract p.pos (p.pos + d)).data.toList W
  rw [mk_list, hnum.1, hnum.2] at hws
  have G := Lib.hid (And.intro gd gn)
  have H := Lib.hid (And.intro hpk hdi)
  have HP := Lib.hid h
  clear gd gn hpk hdi h
  obtain ⟨k0, hk0⟩ : ∃ d, digitsS s p = d := ⟨_, rfl⟩
  obtain rfl : k0 = d := by rw [← hk0, hdd]
  clear hdd
  have HD := Lib.hid hk0
  rw [hk0] at g2 gf
  clear hk0
  obtain ⟨N, hN⟩ : ∃ D, s.extract p.pos (p.pos + k0) = D := ⟨_, rfl⟩
  rw [hN] at hws
  have hsl := fun W => slice_two s p.pos k0 gf W
  rw [hN] at hsl
  have KN := Lib.hid hws
  clear hnum
  have HF := Lib.hid (fun W (hW : PAt s B ⟨p.pos + k0, p.er⟩ W) => fail_any s B ⟨p.pos + k0, p.er⟩ (p.pos + k0) 1 W hW gf)
  have KL := Lib.hid hsl
  clear hN hws hsl
  unfold pPtr at H ⊢
  go_enter Try.func51, Try.ntmps51
  go_wp2
  go_loopw [] (fun wr => ∃ k, BdAt s B p w wr k) (fun wr => s.size - posIn B wr)
  case atStart => exact ⟨0, Nat.zero_le _, HP.out, Fr.refl _ _⟩
  case round =>
    obtain ⟨k, hk, hp, hfr⟩ := hrel
    rw [HD.out] at hk
    obtain ⟨c0, c1, c2, f1, f2⟩ := hp.parts
    simp only at c1 c2
    have hz := hp.le
    simp only at hz
    by_cases hk2 : k < k0
    · have gk := G.out.1 k (by rw [HD.out]; exact hk2)
      have hq := dig_peek gk
      simp only at hq
      obtain ⟨c, hc⟩ : ∃ c, peekS s ⟨p.pos + k, p.er⟩ = c := ⟨_, rfl⟩
      have hclt := peekS_lt s ⟨p.pos + k, p.er⟩
      have hpk := H.out.1 ⟨p.pos + k, p.er⟩ wr hp
      rw [hc] at gk hclt hpk
      have hdi := fun W => H.out.2 c hclt W
      rw [gk] at hdi
      have d1 : decide (((p.pos + k : Nat) : Int) < (p.pos : Int) + 2) = true := by simp; omega
      have K := Lib.hid (And.intro hpk (And.intro hdi (And.intro hq hc)))
      have HPP := Lib.hid hp
      clear hpk hdi hq hc gk hp
      go_wp2_with fail
      refine (K.out.1).mono ?_
      rintro e w1 ⟨rfl, h1, hf1⟩
      go_wp2_with fail
      refine (K.out.2.1 _).mono ?_
      rintro e w2 ⟨rfl, hb2⟩
      have h2 := h1.below hb2
      have hf2 := hf1.below hb2
      obtain ⟨e0, e1, e2, g1, g2'⟩ := h2.parts
      simp only at e1 e2
      go_wp2
      go_roundw
      case rel => exact ⟨k + 1, by rw [HD.out]; omega, h2.setPos (p.pos + (k + 1)) _ (by push_cast; omega) (by omega), (hfr.trans hf2).setCell 1 _⟩
      case measure =>
        rw [posIn_eq HPP.out, posIn_eq (h2.setPos (p.pos + (k + 1)) _ (by push_cast; omega) (by omega))]
        simp only
        omega
    · obtain rfl : k = k0 := by omega
      clear hk2 hk
      by_cases hk3 : k < 2
      · have gk := G.out.2 (by rw [HD.out]; exact hk3)
        rw [HD.out] at gk
        obtain ⟨c, hc⟩ : ∃ c, peekS s ⟨p.pos + k, p.er⟩ = c := ⟨_, rfl⟩
        have hclt := peekS_lt s ⟨p.pos + k, p.er⟩
        have hpk := H.out.1 ⟨p.pos + k, p.er⟩ wr hp
        rw [hc] at gk hclt hpk
        have hdi := fun W => H.out.2 c hclt W
        rw [gk] at hdi
        have d1 : decide (((p.pos + k : Nat) : Int) < (p.pos : Int) + 2) = true := by simp; omega
        have K := Lib.hid (And.intro hpk (And.intro hdi hc))
        clear hpk hdi hc gk hp
        go_wp2_with fail
        refine (K.out.1).mono ?_
        rintro e w1 ⟨rfl, h1, hf1⟩
        go_wp2_with fail
        refine (K.out.2.1 _).mono ?_
        rintro e w2 ⟨rfl, hb2⟩
        have h2 := h1.below hb2
        have hf2 := hfr.trans (hf1.below hb2)
        clear hfr d1 K h1 hb2 hf1
        obtain ⟨e0, e1, e2, g1, g2'⟩ := h2.parts
        simp only at e1 e2
        have hsl := KL.out
        go_wp2
        go_region_with (go_at_call 62; refine (KN.out _).mono ?_; rintro e w3 ⟨rfl, hb3⟩)
        all_goals clear hsl
        all_goals
          have h3 := (PAt.drew h2).below hb3
          have hf3 := (hf2.drew).below hb3
          obtain ⟨q0, q1, q2, q3, q4⟩ := h3.parts
          simp only at q1 q2
          go_wp2_with fail
          refine (HF.out _ h3).mono ?_
          rintro e w4 ⟨rfl, h4, hf4⟩
          have hdc : decide ((0 : Int) > 40) = false := by decide
          go_wp2
          go_ret
          exact ⟨rfl, h4, hf3.trans hf4⟩
      · obtain ⟨w2, rfl⟩ : ∃ w2, w2 = wr := ⟨_, rfl⟩
        have h2 := hp
        have hf2 := hfr
        obtain rfl : k = 2 := by omega
        have d1 : decide (((p.pos + 2 : Nat) : Int) < (p.pos : Int) + 2) = false := by simp
        have hsl : ∀ W, (Instr.slice 9 (.string s) (some (.int .i64 (p.pos : Int))) (some (.int .i64 ((p.pos : Int) + 2))) none).run Try.prog W = .ok (.string N) W := KL.out
        clear hfr hp hk3
        go_wp2
        go_region_with (go_at_call 62; refine (KN.out _).mono ?_; rintro e w3 ⟨rfl, hb3⟩)
        all_goals clear hsl d1
        all_goals
          have h3 := (PAt.drew h2).below hb3
          have hf3 := (hf2.drew).below hb3
          obtain ⟨q0, q1, q2, q3, q4⟩ := h3.parts
          simp only at q1 q2
          go_wp2_with fail
          refine (HF.out _ h3).mono ?_
          rintro e w4 ⟨rfl, h4, hf4⟩
          have hdc : decide ((0 : Int) > 40) = false := by decide
          go_wp2
          go_ret
          exact ⟨rfl, h4, hf3.trans hf4⟩
set_option maxRecDepth 100000 in
set_option maxHeartbeats 4000000 in
theorem bound_ok (s : ByteArray) (B : Nat) (p : PS) (w : World) (h : PAt s B p w) (d : Nat) (hdd : digitsS s p = d) (v : Nat) (hnum : numV (s.extract p.pos (p.pos + d)).data.toList = (v : Int) ∧ numB (s.extract p.pos (p.pos + d)).data.toList = true) (hv : v ≤ 40) :
    Calls Try.prog 51 #[pPtr B] w fun e w' => e = .returned (.int .i64 (v : Int)) ∧ PAt s B ⟨p.pos + d, p.er⟩ w' ∧ Fr B w w' := by
  have hle := h.le
  have hsz := h.sz
  obtain ⟨g2, gd, gn⟩ := digits_ways s p hle
  have gf := digits_fit s p hle
  obtain ⟨c0, c1, c2, f1, f2⟩ := h.parts
  have hpk := fun q W hW => peek_to s B q W hW
  have hdi := fun c hc W => digit_any c hc W
  have hws := fun W => number_any (s.extract p.pos (p.pos + d)).data.toList W
  rw [mk_list, hnum.1, hnum.2] at hws
  have G := Lib.hid (And.intro gd gn)
  have H := Lib.hid (And.intro hpk hdi)
  have HP := Lib.hid h
  clear gd gn hpk hdi h
  obtain ⟨k0, hk0⟩ : ∃ d, digitsS s p = d := ⟨_, rfl⟩
  obtain rfl : k0 = d := by rw [← hk0, hdd]
  clear hdd
  have HD := Lib.hid hk0
  rw [hk0] at g2 gf
  clear hk0
  obtain ⟨N, hN⟩ : ∃ D, s.extract p.pos (p.pos + k0) = D := ⟨_, rfl⟩
  rw [hN] at hws
  have hsl := fun W => slice_two s p.pos k0 gf W
  rw [hN] at hsl
  have KN := Lib.hid hws
  clear hnum
  have KL := Lib.hid hsl
  clear hN hws hsl
  unfold pPtr at H ⊢
  go_enter Try.func51, Try.ntmps51
  go_wp2
  go_loopw [] (fun wr => ∃ k, BdAt s B p w wr k) (fun wr => s.size - posIn B wr)
  case atStart => exact ⟨0, Nat.zero_le _, HP.out, Fr.refl _ _⟩
  case round =>
    obtain ⟨k, hk, hp, hfr⟩ := hrel
    rw [HD.out] at hk
    obtain ⟨c0, c1, c2, f1, f2⟩ := hp.parts
    simp only at c1 c2
    have hz := hp.le
    simp only at hz
    by_cases hk2 : k < k0
    · have gk := G.out.1 k (by rw [HD.out]; exact hk2)
      have hq := dig_peek gk
      simp only at hq
      obtain ⟨c, hc⟩ : ∃ c, peekS s ⟨p.pos + k, p.er⟩ = c := ⟨_, rfl⟩
      have hclt := peekS_lt s ⟨p.pos + k, p.er⟩
      have hpk := H.out.1 ⟨p.pos + k, p.er⟩ wr hp
      rw [hc] at gk hclt hpk
      have hdi := fun W => H.out.2 c hclt W
      rw [gk] at hdi
      have d1 : decide (((p.pos + k : Nat) : Int) < (p.pos : Int) + 2) = true := by simp; omega
      have K := Lib.hid (And.intro hpk (And.intro hdi (And.intro hq hc)))
      have HPP := Lib.hid hp
      clear hpk hdi hq hc gk hp
      go_wp2_with fail
      refine (K.out.1).mono ?_
      rintro e w1 ⟨rfl, h1, hf1⟩
      go_wp2_with fail
      refine (K.out.2.1 _).mono ?_
      rintro e w2 ⟨rfl, hb2⟩
      have h2 := h1.below hb2
      have hf2 := hf1.below hb2
      obtain ⟨e0, e1, e2, g1, g2'⟩ := h2.parts
      simp only at e1 e2
      go_wp2
      go_roundw
      case rel => exact ⟨k + 1, by rw [HD.out]; omega, h2.setPos (p.pos + (k + 1)) _ (by push_cast; omega) (by omega), (hfr.trans hf2).setCell 1 _⟩
      case measure =>
        rw [posIn_eq HPP.out, posIn_eq (h2.setPos (p.pos + (k + 1)) _ (by push_cast; omega) (by omega))]
        simp only
        omega
    · obtain rfl : k = k0 := by omega
      clear hk2 hk
      by_cases hk3 : k < 2
      · have gk := G.out.2 (by rw [HD.out]; exact hk3)
        rw [HD.out] at gk
        obtain ⟨c, hc⟩ : ∃ c, peekS s ⟨p.pos + k, p.er⟩ = c := ⟨_, rfl⟩
        have hclt := peekS_lt s ⟨p.pos + k, p.er⟩
        have hpk := H.out.1 ⟨p.pos + k, p.er⟩ wr hp
        rw [hc] at gk hclt hpk
        have hdi := fun W => H.out.2 c hclt W
        rw [gk] at hdi
        have d1 : decide (((p.pos + k : Nat) : Int) < (p.pos : Int) + 2) = true := by simp; omega
        have K := Lib.hid (And.intro hpk (And.intro hdi hc))
        clear hpk hdi hc gk hp
        go_wp2_with fail
        refine (K.out.1).mono ?_
        rintro e w1 ⟨rfl, h1, hf1⟩
        go_wp2_with fail
        refine (K.out.2.1 _).mono ?_
        rintro e w2 ⟨rfl, hb2⟩
        have h2 := h1.below hb2
        have hf2 := hfr.trans (hf1.below hb2)
        clear hfr d1 K h1 hb2 hf1
        obtain ⟨e0, e1, e2, g1, g2'⟩ := h2.parts
        simp only at e1 e2
        have hsl := KL.out
        go_wp2
        go_region_with (go_at_call 62; refine (KN.out _).mono ?_; rintro e w3 ⟨rfl, hb3⟩)
        all_goals clear hsl
        all_goals
          have h3 := (PAt.drew h2).below hb3
          have hf3 := (hf2.drew).below hb3
          obtain ⟨q0, q1, q2, q3, q4⟩ := h3.parts
          simp only at q1 q2
          have hdc : decide ((v : Int) > 40) = false := by simp; omega
          go_wp2
          go_ret
          exact ⟨rfl, h3, hf3⟩
      · obtain ⟨w2, rfl⟩ : ∃ w2, w2 = wr := ⟨_, rfl⟩
        have h2 := hp
        have hf2 := hfr
        obtain rfl : k = 2 := by omega
        have d1 : decide (((p.pos + 2 : Nat) : Int) < (p.pos : Int) + 2) = false := by simp
        have hsl : ∀ W, (Instr.slice 9 (.string s) (some (.int .i64 (p.pos : Int))) (some (.int .i64 ((p.pos : Int) + 2))) none).run Try.prog W = .ok (.string N) W := KL.out
        clear hfr hp hk3
        go_wp2
        go_region_with (go_at_call 62; refine (KN.out _).mono ?_; rintro e w3 ⟨rfl, hb3⟩)
        all_goals clear hsl d1
        all_goals
          have h3 := (PAt.drew h2).below hb3
          have hf3 := (hf2.drew).below hb3
          obtain ⟨q0, q1, q2, q3, q4⟩ := h3.parts
          simp only at q1 q2
          have hdc : decide ((v : Int) > 40) = false := by simp; omega
          go_wp2
          go_ret
          exact ⟨rfl, h3, hf3⟩
set_option maxRecDepth 100000 in
set_option maxHeartbeats 4000000 in
theorem bound_big (s : ByteArray) (B : Nat) (p : PS) (w : World) (h : PAt s B p w) (d : Nat) (hdd : digitsS s p = d) (v : Nat) (hnum : numV (s.extract p.pos (p.pos + d)).data.toList = (v : Int) ∧ numB (s.extract p.pos (p.pos + d)).data.toList = true) (hv : 40 < v) :
    Calls Try.prog 51 #[pPtr B] w fun e w' => e = .returned (.int .i64 (v : Int)) ∧ PAt s B (failS ⟨p.pos + d, p.er⟩ (p.pos + d) 2) w' ∧ Fr B w w' := by
  have hle := h.le
  have hsz := h.sz
  obtain ⟨g2, gd, gn⟩ := digits_ways s p hle
  have gf := digits_fit s p hle
  obtain ⟨c0, c1, c2, f1, f2⟩ := h.parts
  have hpk := fun q W hW => peek_to s B q W hW
  have hdi := fun c hc W => digit_any c hc W
  have hws := fun W => number_any (s.extract p.pos (p.pos + d)).data.toList W
  rw [mk_list, hnum.1, hnum.2] at hws
  have G := Lib.hid (And.intro gd gn)
  have H := Lib.hid (And.intro hpk hdi)
  have HP := Lib.hid h
  clear gd gn hpk hdi h
  obtain ⟨k0, hk0⟩ : ∃ d, digitsS s p = d := ⟨_, rfl⟩
  obtain rfl : k0 = d := by rw [← hk0, hdd]
  clear hdd
  have HD := Lib.hid hk0
  rw [hk0] at g2 gf
  clear hk0
  obtain ⟨N, hN⟩ : ∃ D, s.extract p.pos (p.pos + k0) = D := ⟨_, rfl⟩
  rw [hN] at hws
  have hsl := fun W => slice_two s p.pos k0 gf W
  rw [hN] at hsl
  have KN := Lib.hid hws
  clear hnum
  have HF := Lib.hid (fun W (hW : PAt s B ⟨p.pos + k0, p.er⟩ W) => fail_any s B ⟨p.pos + k0, p.er⟩ (p.pos + k0) 2 W hW gf)
  have KL := Lib.hid hsl
  clear hN hws hsl
  unfold pPtr at H ⊢
  go_enter Try.func51, Try.ntmps51
  go_wp2
  go_loopw [] (fun wr => ∃ k, BdAt s B p w wr k) (fun wr => s.size - posIn B wr)
  case atStart => exact ⟨0, Nat.zero_le _, HP.out, Fr.refl _ _⟩
  case round =>
    obtain ⟨k, hk, hp, hfr⟩ := hrel
    rw [HD.out] at hk
    obtain ⟨c0, c1, c2, f1, f2⟩ := hp.parts
    simp only at c1 c2
    have hz := hp.le
    simp only at hz
    by_cases hk2 : k < k0
    · have gk := G.out.1 k (by rw [HD.out]; exact hk2)
      have hq := dig_peek gk
      simp only at hq
      obtain ⟨c, hc⟩ : ∃ c, peekS s ⟨p.pos + k, p.er⟩ = c := ⟨_, rfl⟩
      have hclt := peekS_lt s ⟨p.pos + k, p.er⟩
      have hpk := H.out.1 ⟨p.pos + k, p.er⟩ wr hp
      rw [hc] at gk hclt hpk
      have hdi := fun W => H.out.2 c hclt W
      rw [gk] at hdi
      have d1 : decide (((p.pos + k : Nat) : Int) < (p.pos : Int) + 2) = true := by simp; omega
      have K := Lib.hid (And.intro hpk (And.intro hdi (And.intro hq hc)))
      have HPP := Lib.hid hp
      clear hpk hdi hq hc gk hp
      go_wp2_with fail
      refine (K.out.1).mono ?_
      rintro e w1 ⟨rfl, h1, hf1⟩
      go_wp2_with fail
      refine (K.out.2.1 _).mono ?_
      rintro e w2 ⟨rfl, hb2⟩
      have h2 := h1.below hb2
      have hf2 := hf1.below hb2
      obtain ⟨e0, e1, e2, g1, g2'⟩ := h2.parts
      simp only at e1 e2
      go_wp2
      go_roundw
      case rel => exact ⟨k + 1, by rw [HD.out]; omega, h2.setPos (p.pos + (k + 1)) _ (by push_cast; omega) (by omega), (hfr.trans hf2).setCell 1 _⟩
      case measure =>
        rw [posIn_eq HPP.out, posIn_eq (h2.setPos (p.pos + (k + 1)) _ (by push_cast; omega) (by omega))]
        simp only
        omega
    · obtain rfl : k = k0 := by omega
      clear hk2 hk
      by_cases hk3 : k < 2
      · have gk := G.out.2 (by rw [HD.out]; exact hk3)
        rw [HD.out] at gk
        obtain ⟨c, hc⟩ : ∃ c, peekS s ⟨p.pos + k, p.er⟩ = c := ⟨_, rfl⟩
        have hclt := peekS_lt s ⟨p.pos + k, p.er⟩
        have hpk := H.out.1 ⟨p.pos + k, p.er⟩ wr hp
        rw [hc] at gk hclt hpk
        have hdi := fun W => H.out.2 c hclt W
        rw [gk] at hdi
        have d1 : decide (((p.pos + k : Nat) : Int) < (p.pos : Int) + 2) = true := by simp; omega
        have K := Lib.hid (And.intro hpk (And.intro hdi hc))
        clear hpk hdi hc gk hp
        go_wp2_with fail
        refine (K.out.1).mono ?_
        rintro e w1 ⟨rfl, h1, hf1⟩
        go_wp2_with fail
        refine (K.out.2.1 _).mono ?_
        rintro e w2 ⟨rfl, hb2⟩
        have h2 := h1.below hb2
        have hf2 := hfr.trans (hf1.below hb2)
        clear hfr d1 K h1 hb2 hf1
        obtain ⟨e0, e1, e2, g1, g2'⟩ := h2.parts
        simp only at e1 e2
        have hsl := KL.out
        go_wp2
        go_region_with (go_at_call 62; refine (KN.out _).mono ?_; rintro e w3 ⟨rfl, hb3⟩)
        all_goals clear hsl
        all_goals
          have h3 := (PAt.drew h2).below hb3
          have hf3 := (hf2.drew).below hb3
          obtain ⟨q0, q1, q2, q3, q4⟩ := h3.parts
          simp only at q1 q2
          have hdc : decide ((v : Int) > 40) = true := by simp; omega
          go_wp2_with fail
          refine (HF.out _ h3).mono ?_
          rintro e w4 ⟨rfl, h4, hf4⟩
          go_wp2
          go_ret
          exact ⟨rfl, h4, hf3.trans hf4⟩
      · obtain ⟨w2, rfl⟩ : ∃ w2, w2 = wr := ⟨_, rfl⟩
        have h2 := hp
        have hf2 := hfr
        obtain rfl : k = 2 := by omega
        have d1 : decide (((p.pos + 2 : Nat) : Int) < (p.pos : Int) + 2) = false := by simp
        have hsl : ∀ W, (Instr.slice 9 (.string s) (some (.int .i64 (p.pos : Int))) (some (.int .i64 ((p.pos : Int) + 2))) none).run Try.prog W = .ok (.string N) W := KL.out
        clear hfr hp hk3
        go_wp2
        go_region_with (go_at_call 62; refine (KN.out _).mono ?_; rintro e w3 ⟨rfl, hb3⟩)
        all_goals clear hsl d1
        all_goals
          have h3 := (PAt.drew h2).below hb3
          have hf3 := (hf2.drew).below hb3
          obtain ⟨q0, q1, q2, q3, q4⟩ := h3.parts
          simp only at q1 q2
          have hdc : decide ((v : Int) > 40) = true := by simp; omega
          go_wp2_with fail
          refine (HF.out _ h3).mono ?_
          rintro e w4 ⟨rfl, h4, hf4⟩
          go_wp2
          go_ret
          exact ⟨rfl, h4, hf3.trans hf4⟩
end Go.Proofs.Ytfmoidhpafpgnaa

namespace Go.Proofs.Ytfmoidhpafpgnaa
open Go.RowKit

theorem bound_any (s : ByteArray) (B : Nat) (p : PS) (w : World) (h : PAt s B p w) :
    Calls Try.prog 51 #[pPtr B] w fun e w' => e = .returned (.int .i64 (boundS s p).1) ∧ PAt s B (boundS s p).2 w' ∧ Fr B w w' := by
  have hda := digits_all s p h.le
  have h2 := (digits_ways s p h.le).1
  by_cases h0 : digitsS s p = 0
  · have e : boundS s p = (0, failS p p.pos 1) := by unfold boundS; rw [if_pos h0]
    rw [e]
    have := bound_zero s B p w h 0 h0 (by
      rw [h0] at hda
      rw [List.length_eq_zero_iff.1 hda.2]; exact num_none)
    exact this
  · have e : boundS s p = ((valD (s.extract p.pos (p.pos + digitsS s p)).data.toList : Int), if valD (s.extract p.pos (p.pos + digitsS s p)).data.toList > 40 then failS ⟨p.pos + digitsS s p, p.er⟩ (p.pos + digitsS s p) 2 else ⟨p.pos + digitsS s p, p.er⟩) := by unfold boundS; rw [if_neg h0]
    rw [e]
    have hn := num_digs _ hda.1 (by omega) (by omega)
    by_cases hv : valD (s.extract p.pos (p.pos + digitsS s p)).data.toList > 40
    · simp only [if_pos hv]
      exact bound_big s B p w h _ rfl _ hn hv
    · simp only [if_neg hv]
      exact bound_ok s B p w h _ rfl _ hn (by omega)
theorem bound_adv (s : ByteArray) (p : PS) (h : p.pos ≤ s.size) : Adv s p (boundS s p).2 := by
  have hf := digits_fit s p h
  have hdw := (digits_ways s p h).2.1
  unfold boundS
  by_cases h0 : digitsS s p = 0
  · rw [if_pos h0]; exact (fail_advS _ _ (by omega) h h).adv
  · rw [if_neg h0]
    have he := (dig_peek (hdw 0 (by omega))).1
    simp only at he
    have h1 : Adv s p ⟨p.pos + digitsS s p, p.er⟩ := ⟨hf, fun _ => ⟨he, by simp⟩⟩
    simp only
    split
    · exact h1.trans (fail_advS _ _ (by omega) hf hf).adv
    · exact h1
theorem bound_in (s : ByteArray) (p : PS) (h : p.pos ≤ s.size) : 0 ≤ (boundS s p).1 ∧ (boundS s p).1 < 100 := by
  have hda := digits_all s p h
  have h2 := (digits_ways s p h).1
  unfold boundS
  by_cases h0 : digitsS s p = 0
  · rw [if_pos h0]; exact ⟨by simp, by simp⟩
  · rw [if_neg h0]
    have := valD_bd _ 2 hda.1 (by omega)
    simp only
    omega
theorem expect_adv (s : ByteArray) (p : PS) (c : Nat) (hc : c ≠ 0) (h : p.pos ≤ s.size) : Adv s p (expectS s p c) := (expect_advS c hc h).adv

set_option maxRecDepth 100000 in
set_option maxHeartbeats 4000000 in
theorem bounds_ok (s : ByteArray) : BdOk s := by
  intro p0 B w he0 hc0 h
  obtain ⟨p, hp⟩ : ∃ p, p0.next = p := ⟨_, rfl⟩
  rw [hp] at h ⊢
  clear he0 hc0 hp p0
  have hle := h.le
  have a1 := bound_adv s p hle
  have i1 := bound_in s p hle
  have c1 := bound_any s B p w h
  unfold boundsS
  obtain ⟨⟨v1, p1⟩, hb1⟩ : ∃ b, boundS s p = b := ⟨_, rfl⟩
  rw [hb1] at a1 i1 c1 ⊢
  simp only at a1 i1 c1 ⊢
  have ht1 := take_all s B p1 (peekS s p1) rfl
  have hex := fun q W (hW : PAt s B q W) => expect_any s B q 125 (by omega) W hW
  by_cases hcm : peekS s p1 = 44
  · rw [if_pos hcm]
    have ap : AdvS s p1 p1.next := next_adv (by omega)
    have hpk := fun W hW => peek_to s B p1.next W hW
    have hdi := fun W => digit_any (peekS s p1.next) (peekS_lt _ _) W
    by_cases hdg : digB (peekS s p1.next) = true
    · rw [if_pos hdg]
      rw [hdg] at hdi
      have a2 := bound_adv s p1.next ap.le
      have i2 := bound_in s p1.next ap.le
      have c2 := fun W hW => bound_any s B p1.next W hW
      obtain ⟨⟨v2, p2⟩, hb2⟩ : ∃ b, boundS s p1.next = b := ⟨_, rfl⟩
      rw [hb2] at a2 i2 c2 ⊢
      simp only at a2 i2 c2 ⊢
      have hfl := fun W (hW : PAt s B p2 W) => fail_any s B p2 p2.pos 2 W hW hW.le
      have H := Lib.hid (And.intro c1 (And.intro ht1 (And.intro hpk (And.intro hdi (And.intro c2 (And.intro hfl hex))))))
      have HC := Lib.hid hcm
      by_cases hlt : v2 < v1
      · rw [if_pos hlt]
        refine ⟨((a1.trans ap.adv).trans a2).trans ((fail_advS _ _ (by omega) a2.le a2.le).adv.trans (expect_adv _ _ _ (by omega) (fail_advS (s := s) (p := p2) p2.pos 2 (by omega) a2.le a2.le).le)), small64 (by (try simp only); omega), small64 (by (try simp only); omega), ?_⟩
        have d1 : decide (v2 < v1) = true := by simp; omega
        clear c1 ht1 hpk hdi c2 hfl hex hcm hb1 hb2 hdg a1 a2 ap hlt
        unfold pPtr at H ⊢
        go_enter Try.func43, Try.ntmps43
        go_wp2_with fail
        refine (H.out.1).mono ?_
        rintro e w1 ⟨rfl, h1, hf1⟩
        go_wp2_with fail
        refine (H.out.2.1.2 44 _ h1 HC.out (by omega)).mono ?_
        rintro e w2 ⟨rfl, h2, hf2⟩
        go_wp2_with fail
        refine (H.out.2.2.1 _ h2).mono ?_
        rintro e w3 ⟨rfl, h3, hf3⟩
        go_wp2_with fail
        refine (H.out.2.2.2.1 _).mono ?_
        rintro e w4 ⟨rfl, hb4⟩
        have h4 := h3.below hb4
        have hf4 := ((hf1.trans hf2).trans hf3).below hb4
        go_wp2_with fail
        refine (H.out.2.2.2.2.1 _ h4).mono ?_
        rintro e w5 ⟨rfl, h5, hf5⟩
        obtain ⟨q0, q1, q2, q3, q4⟩ := h5.parts
        go_wp2_with fail
        refine (H.out.2.2.2.2.2.1 _ h5).mono ?_
        rintro e w6 ⟨rfl, h6, hf6⟩
        go_wp2_with fail
        refine (H.out.2.2.2.2.2.2 _ _ h6).mono ?_
        rintro e w7 ⟨rfl, h7, hf7⟩
        go_wp2
        go_ret2
        exact ⟨rfl, h7, ((hf4.trans hf5).trans hf6).trans hf7⟩
      · rw [if_neg hlt]
        refine ⟨((a1.trans ap.adv).trans a2).trans (expect_adv _ _ _ (by omega) a2.le), small64 (by (try simp only); omega), small64 (by (try simp only); omega), ?_⟩
        have d1 : decide (v2 < v1) = false := by simp; omega
        clear c1 ht1 hpk hdi c2 hfl hex hcm hb1 hb2 hdg a1 a2 ap hlt
        unfold pPtr at H ⊢
        go_enter Try.func43, Try.ntmps43
        go_wp2_with fail
        refine (H.out.1).mono ?_
        rintro e w1 ⟨rfl, h1, hf1⟩
        go_wp2_with fail
        refine (H.out.2.1.2 44 _ h1 HC.out (by omega)).mono ?_
        rintro e w2 ⟨rfl, h2, hf2⟩
        go_wp2_with fail
        refine (H.out.2.2.1 _ h2).mono ?_
        rintro e w3 ⟨rfl, h3, hf3⟩
        go_wp2_with fail
        refine (H.out.2.2.2.1 _).mono ?_
        rintro e w4 ⟨rfl, hb4⟩
        have h4 := h3.below hb4
        have hf4 := ((hf1.trans hf2).trans hf3).below hb4
        go_wp2_with fail
        refine (H.out.2.2.2.2.1 _ h4).mono ?_
        rintro e w5 ⟨rfl, h5, hf5⟩
        go_wp2_with fail
        refine (H.out.2.2.2.2.2.2 _ _ h5).mono ?_
        rintro e w7 ⟨rfl, h7, hf7⟩
        go_wp2
        go_ret2
        exact ⟨rfl, h7, (hf4.trans hf5).trans hf7⟩
    · rw [if_neg hdg]
      have hdg : digB (peekS s p1.next) = false := by simpa using hdg
      rw [hdg] at hdi
      refine ⟨(a1.trans ap.adv).trans (expect_adv _ _ _ (by omega) ap.le), small64 (by (try simp only); omega), small64 (by (try simp only); omega), ?_⟩
      have H := Lib.hid (And.intro c1 (And.intro ht1 (And.intro hpk (And.intro hdi hex))))
      have HC := Lib.hid hcm
      clear c1 ht1 hpk hdi hex hcm hb1 hdg a1 ap
      unfold pPtr at H ⊢
      go_enter Try.func43, Try.ntmps43
      go_wp2_with fail
      refine (H.out.1).mono ?_
      rintro e w1 ⟨rfl, h1, hf1⟩
      go_wp2_with fail
      refine (H.out.2.1.2 44 _ h1 HC.out (by omega)).mono ?_
      rintro e w2 ⟨rfl, h2, hf2⟩
      go_wp2_with fail
      refine (H.out.2.2.1 _ h2).mono ?_
      rintro e w3 ⟨rfl, h3, hf3⟩
      go_wp2_with fail
      refine (H.out.2.2.2.1 _).mono ?_
      rintro e w4 ⟨rfl, hb4⟩
      have h4 := h3.below hb4
      have hf4 := ((hf1.trans hf2).trans hf3).below hb4
      go_wp2_with fail
      refine (H.out.2.2.2.2 _ _ h4).mono ?_
      rintro e w5 ⟨rfl, h5, hf5⟩
      go_wp2
      go_ret2
      exact ⟨rfl, h5, hf4.trans hf5⟩
  · rw [if_neg hcm]
    refine ⟨a1.trans (expect_adv _ _ _ (by omega) a1.le), small64 (by (try simp only); omega), small64 (by (try simp only); omega), ?_⟩
    have H := Lib.hid (And.intro c1 (And.intro ht1 hex))
    have HC := Lib.hid hcm
    clear c1 ht1 hex hcm hb1 a1
    unfold pPtr at H ⊢
    go_enter Try.func43, Try.ntmps43
    go_wp2_with fail
    refine (H.out.1).mono ?_
    rintro e w1 ⟨rfl, h1, hf1⟩
    go_wp2_with fail
    refine (H.out.2.1.1 44 _ h1 HC.out).mono ?_
    rintro e w2 ⟨rfl, h2, hf2⟩
    go_wp2_with fail
    refine (H.out.2.2 _ _ h2).mono ?_
    rintro e w3 ⟨rfl, h3, hf3⟩
    go_wp2
    go_ret2
    exact ⟨rfl, h3, (hf1.trans hf2).trans hf3⟩
end Go.Proofs.Ytfmoidhpafpgnaa
