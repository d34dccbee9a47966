/- The contracts of the cursor's smallest methods: peek, take, expect, digits, number; the cursor's block alone is written. -/
import Derived.Test.YtofomlbhbbhdjaaDoorTsSpec
import Derived.WalkKit
import Derived.ProofKit
import Derived.Below
import Derived.Laws.AppendOwn
import Derived.Lib.Builder
import Derived.Lib.Hide
import Derived.Deep.Draws
import Derived.LoopTactic
import Derived.Outline
import Derived.Laws.IdiomStrings
import Derived.BigQuiet
import Derived.Deep.QuietTactic
import Derived.Deep.RegionWith
namespace Go.Proofs.YtofomlbhbbhdjaaDoor
open Go.RowKit

/-- The blocks that P names may be written, and new blocks made. -/
structure FrP (P : Nat → Prop) (w w' : World) : Prop where
  os : w'.os = w.os
  tape : w'.tape = w.tape
  output : w'.output = w.output
  size : w.heap.size ≤ w'.heap.size
  block : ∀ k, k < w.heap.size → ¬ P k → w'.heap[k]? = w.heap[k]?
theorem FrP.refl (P : Nat → Prop) (w : World) : FrP P w w := ⟨rfl, rfl, rfl, Nat.le_refl _, fun _ _ _ => rfl⟩
theorem FrP.trans {P : Nat → Prop} {a b c : World} (h : FrP P a b) (k : FrP P b c) : FrP P a c :=
  ⟨k.os.trans h.os, k.tape.trans h.tape, k.output.trans h.output, Nat.le_trans h.size k.size, fun i hi hn => (k.block i (Nat.lt_of_lt_of_le hi h.size) hn).trans (h.block i hi hn)⟩
theorem FrP.drew {P : Nat → Prop} {a w : World} (h : FrP P a w) : FrP P a w.drew := ⟨h.os, h.tape, h.output, h.size, h.block⟩
theorem FrP.drewN {P : Nat → Prop} {a w : World} (h : FrP P a w) (n : Nat) : FrP P a (w.drewN n) := ⟨h.os, h.tape, h.output, h.size, h.block⟩
theorem FrP.ofBelow {P : Nat → Prop} {w w' : World} (k : Below w.heap.size w w') : FrP P w w' := ⟨k.os, k.tape, k.output, k.size, fun i hi _ => k.block i hi⟩
theorem FrP.below {P : Nat → Prop} {a w w' : World} (h : FrP P a w) (k : Below w.heap.size w w') : FrP P a w' := h.trans (.ofBelow k)
theorem FrP.alloc {P : Nat → Prop} {a w : World} (h : FrP P a w) (o : Obj) : FrP P a (w.alloc o) := h.below ((Below.refl _ _).alloc (Nat.le_refl _) _)
theorem FrP.setCell {P : Nat → Prop} {a w : World} (h : FrP P a w) (B k : Nat) (u : Value) (hB : P B) : FrP P a (w.setCell ⟨B, k, none⟩ u) :=
  h.trans ⟨rfl, rfl, rfl, by simp [World.setCell], fun i _ hne => Below.heap_setCell w ⟨B, k, none⟩ u i (by rintro rfl; exact hne hB)⟩
/-- What is written there was named, or is new. -/
theorem FrP.wide {P Q : Nat → Prop} {a b c : World} (h : FrP P a b) (k : FrP Q b c) (hq : ∀ i, Q i → P i ∨ a.heap.size ≤ i) : FrP P a c :=
  ⟨k.os.trans h.os, k.tape.trans h.tape, k.output.trans h.output, Nat.le_trans h.size k.size, fun i hi hn => (k.block i (Nat.lt_of_lt_of_le hi h.size) (fun x => by rcases hq i x with y | y; exact hn y; omega)).trans (h.block i hi hn)⟩
theorem FrP.toBelow {P : Nat → Prop} {w w' : World} {B : Nat} (h : FrP P w w') (hB : B ≤ w.heap.size) (hP : ∀ i, P i → B ≤ i) : Below B w w' :=
  ⟨h.os, h.tape, h.output, h.size, fun k hk => h.block k (by omega) (fun x => by have := hP k x; omega)⟩
abbrev Fr (B : Nat) : World → World → Prop := FrP (fun k => k = B)

/-- The cursor as it lies in block B. -/
structure CAt (s : ByteArray) (B : Nat) (p : CS) (w : World) : Prop where
  hp : w.heap[B]? = some (.cells #[.string s, .int .i64 (p.pos : Int), .bool p.bad] 62 (0, 0))
  le : p.pos ≤ s.size
  sz : s.size ≤ 20000
def cPtr (B : Nat) : Value := .pointer (some ⟨B, 0, none⟩)
theorem CAt.parts {s : ByteArray} {B : Nat} {p : CS} {w : World} (h : CAt s B p w) :
    w.cell? ⟨B, 0, none⟩ = some (.string s) ∧ w.cell? ⟨B, 1, none⟩ = some (.int .i64 (p.pos : Int)) ∧ w.cell? ⟨B, 2, none⟩ = some (.bool p.bad) ∧
    w.frozen? ⟨B, 0, none⟩ = false ∧ w.frozen? ⟨B, 1, none⟩ = false ∧ w.frozen? ⟨B, 2, none⟩ = false :=
  ⟨by rw [Lib.cell_of_heap h.hp]; rfl, by rw [Lib.cell_of_heap h.hp]; rfl, by rw [Lib.cell_of_heap h.hp]; rfl, Lib.frozen_of_heap h.hp 0, Lib.frozen_of_heap h.hp 1, Lib.frozen_of_heap h.hp 2⟩
theorem CAt.lt {s : ByteArray} {B : Nat} {p : CS} {w : World} (h : CAt s B p w) : B < w.heap.size := (Array.getElem?_eq_some_iff.1 h.hp).1
theorem CAt.drew {s : ByteArray} {B : Nat} {p : CS} {w : World} (h : CAt s B p w) : CAt s B p w.drew := ⟨h.hp, h.le, h.sz⟩
theorem CAt.drewN {s : ByteArray} {B : Nat} {p : CS} {w : World} (h : CAt s B p w) (n : Nat) : CAt s B p (w.drewN n) := ⟨h.hp, h.le, h.sz⟩
theorem CAt.below {s : ByteArray} {B : Nat} {p : CS} {w w' : World} (h : CAt s B p w) (k : Below w.heap.size w w') : CAt s B p w' := ⟨(k.block B h.lt).trans h.hp, h.le, h.sz⟩
theorem CAt.alloc {s : ByteArray} {B : Nat} {p : CS} {w : World} (h : CAt s B p w) (o : Obj) : CAt s B p (w.alloc o) := ⟨(Below.heap_alloc w o B h.lt).trans h.hp, h.le, h.sz⟩
theorem CAt.frp {s : ByteArray} {B : Nat} {p : CS} {w w' : World} {P : Nat → Prop} (h : CAt s B p w) (k : FrP P w w') (hn : ¬ P B) : CAt s B p w' := ⟨(k.block B h.lt hn).trans h.hp, h.le, h.sz⟩
theorem CAt.setPos {s : ByteArray} {B : Nat} {p : CS} {w : World} (h : CAt s B p w) (k : Nat) (z : Int) (hz : z = (k : Int)) (hk : k ≤ s.size) : CAt s B ⟨k, p.bad⟩ (w.setCell ⟨B, 1, none⟩ (.int .i64 z)) := by
  subst hz
  have h0 := h.hp
  refine ⟨?_, hk, h.sz⟩
  simp only [World.setCell, Array.getElem?_modify, if_true, h0, Option.map_some]
  rfl
theorem CAt.setBad {s : ByteArray} {B : Nat} {p : CS} {w : World} (h : CAt s B p w) (e : Bool) : CAt s B ⟨p.pos, e⟩ (w.setCell ⟨B, 2, none⟩ (.bool e)) := by
  have h0 := h.hp
  refine ⟨?_, h.le, h.sz⟩
  simp only [World.setCell, Array.getElem?_modify, if_true, h0, Option.map_some]
  rfl
theorem CAt.new {s : ByteArray} (hs : s.size ≤ 20000) (w : World) : CAt s w.heap.size ⟨0, false⟩ (w.alloc (.cells #[.string s, .int .i64 0, .bool false] 62)) :=
  ⟨heap_alloc_new _ _, Nat.zero_le _, hs⟩

set_option maxRecDepth 100000 in
set_option maxHeartbeats 1000000 in
theorem peek_any (s : ByteArray) (B : Nat) (p : CS) (w : World) (h : CAt s B p w) :
    Calls Tryd.prog 93 #[cPtr B] w fun e w' => e = .returned (.int .u8 (byN s p.pos : Nat)) ∧ ∃ n, w' = w.drewN n := by
  obtain ⟨c0, c1, c2, -, -, -⟩ := h.parts
  have hp := h.le
  have hs := h.sz
  obtain ⟨k, er⟩ := p
  simp only at hp c1 c2
  unfold cPtr
  by_cases hk : k < s.size
  · have e1 : ((k : Int) == (s.size : Int)) = false := by rw [beq_eq_false_iff_ne]; omega
    have hv : byN s k = s[k].toNat := byN_in _ _ hk
    rw [hv]
    clear hv h
    go_enter Tryd.func93, Tryd.ntmps93
    go_wp2
    go_quiet (fail)
    go_wp2
    go_quiet (fail)
    go_wp2
    go_ret
    exact ⟨rfl, _, World.drewN_drewN _ _ _⟩
  · obtain rfl : k = s.size := by omega
    have hv : byN s s.size = 0 := byN_out _ _ hk
    rw [hv]
    clear hv h
    go_enter Tryd.func93, Tryd.ntmps93
    go_wp2
    go_quiet (fail)
    go_wp2
    go_ret
    exact ⟨rfl, _, rfl⟩
/-- The same, as the callers take it. -/
theorem peek_to (s : ByteArray) (B : Nat) (p : CS) (w : World) (h : CAt s B p w) :
    Calls Tryd.prog 93 #[cPtr B] w fun e w' => e = .returned (.int .u8 (byN s p.pos : Nat)) ∧ CAt s B p w' ∧ Fr B w w' :=
  (peek_any s B p w h).mono fun _ _ ⟨he, n, hn⟩ => ⟨he, by rw [hn]; exact h.drewN n, by rw [hn]; exact (FrP.refl _ w).drewN n⟩

set_option maxRecDepth 100000 in
set_option maxHeartbeats 1000000 in
theorem take_yes (s : ByteArray) (B : Nat) (p : CS) (c : Nat) (w : World) (h : CAt s B p w) (hc : byN s p.pos = c) (hc0 : c ≠ 0) :
    Calls Tryd.prog 75 #[cPtr B, .int .u8 (c : Int)] w fun e w' => e = .returned (.bool true) ∧ CAt s B p.next w' ∧ Fr B w w' := by
  have hpk := peek_to s B p w h
  have hlt : p.pos < s.size := byN_pos (by omega)
  rw [hc] at hpk
  have hs := h.sz
  clear hc h
  have HPK := Lib.hid hpk
  clear hpk
  unfold cPtr at HPK ⊢
  go_enter Tryd.func75, Tryd.ntmps75
  go_wp2_with fail
  refine (HPK.out).mono ?_
  rintro e w1 ⟨rfl, h1, hf1⟩
  obtain ⟨c0, c1, c2, f0, f1, f2⟩ := h1.parts
  go_wp2
  go_ret
  exact ⟨rfl, h1.setPos (p.pos + 1) _ (by push_cast; rfl) hlt, hf1.setCell B 1 _ rfl⟩
set_option maxRecDepth 100000 in
set_option maxHeartbeats 1000000 in
theorem take_no (s : ByteArray) (B : Nat) (p : CS) (c : Nat) (w : World) (h : CAt s B p w) (hc : byN s p.pos ≠ c) :
    Calls Tryd.prog 75 #[cPtr B, .int .u8 (c : Int)] w fun e w' => e = .returned (.bool false) ∧ CAt s B p w' ∧ Fr B w w' := by
  have hpk := peek_to s B p w h
  have e1 : ((byN s p.pos : Int) == (c : Int)) = false := by rw [beq_eq_false_iff_ne]; omega
  have e2 : ((byN s p.pos : Int) != (c : Int)) = true := by rw [bne_iff_ne]; omega
  clear hc h
  have HPK := Lib.hid hpk
  clear hpk
  unfold cPtr at HPK ⊢
  go_enter Tryd.func75, Tryd.ntmps75
  go_wp2_with fail
  refine (HPK.out).mono ?_
  rintro e w1 ⟨rfl, h1, hf1⟩
  go_wp2
  go_ret
  exact ⟨rfl, h1, hf1⟩
def tkB (s : ByteArray) (p : CS) (c : Nat) : Bool := decide (byN s p.pos = c)
theorem take_any (s : ByteArray) (B : Nat) (p : CS) (c : Nat) (hc0 : c ≠ 0) (w : World) (h : CAt s B p w) :
    Calls Tryd.prog 75 #[cPtr B, .int .u8 (c : Int)] w fun e w' => e = .returned (.bool (tkB s p c)) ∧ CAt s B (takeC s p c) w' ∧ Fr B w w' := by
  unfold tkB takeC
  by_cases hc : byN s p.pos = c
  · rw [if_pos hc, decide_eq_true hc]; exact take_yes s B p c w h hc hc0
  · rw [if_neg hc, decide_eq_false hc]; exact take_no s B p c w h hc

set_option maxRecDepth 100000 in
set_option maxHeartbeats 1000000 in
theorem expect_any (s : ByteArray) (B : Nat) (p : CS) (c : Nat) (hc0 : c ≠ 0) (w : World) (h : CAt s B p w) :
    Calls Tryd.prog 74 #[cPtr B, .int .u8 (c : Int)] w fun e w' => e = .returned (.tuple #[]) ∧ CAt s B (expectC s p c) w' ∧ Fr B w w' := by
  unfold expectC
  by_cases hc : byN s p.pos = c
  · rw [if_pos hc]
    have HT := Lib.hid (take_yes s B p c w h hc hc0)
    clear hc h
    unfold cPtr at HT ⊢
    go_enter Tryd.func74, Tryd.ntmps74
    go_wp2_with fail
    refine (HT.out).mono ?_
    rintro e w1 ⟨rfl, h1, hf1⟩
    go_wp2
    go_end0
    exact ⟨rfl, h1, hf1⟩
  · rw [if_neg hc]
    have HT := Lib.hid (take_no s B p c w h hc)
    clear hc h
    unfold cPtr at HT ⊢
    go_enter Tryd.func74, Tryd.ntmps74
    go_wp2_with fail
    refine (HT.out).mono ?_
    rintro e w1 ⟨rfl, h1, hf1⟩
    obtain ⟨c0, c1, c2, f0, f1, f2⟩ := h1.parts
    go_wp2
    go_end0
    exact ⟨rfl, h1.setBad true, hf1.setCell B 2 _ rfl⟩

theorem mk_list (x : ByteArray) : ByteArray.mk x.data.toList.toArray = x := by cases x; simp
theorem slice_two (s : ByteArray) (a k : Nat) (h2 : a + k ≤ s.size) (W : World) :
    (Instr.slice 9 (.string s) (some (.int .i64 (a : Int))) (some (.int .i64 ((a : Int) + (k : Int)))) none).run Tryd.prog W = .ok (.string (s.extract a (a + k))) W := by
  have e2 : ((a : Int) + (k : Int)).toNat = a + k := by omega
  have u := run_underlying Tryd.underlying9
  simp [go_sem, Instr.slice, u, e2]
  intro h
  exact absurd (h (by omega)) (by omega)
def posIn (B : Nat) (w : World) : Nat := match w.cell? ⟨B, 1, none⟩ with | some v => (intOf v).toNat | none => 0
theorem posIn_eq {s : ByteArray} {B : Nat} {p : CS} {w : World} (h : CAt s B p w) : posIn B w = p.pos := by
  unfold posIn; rw [h.parts.2.1]; simp [intOf]
/-- The state of the loop of digits. -/
structure DgAt (s : ByteArray) (B : Nat) (p : CS) (m : Nat) (w0 wr : World) (k : Nat) : Prop where
  hk : k ≤ m
  hr : dRun s m p.pos = k + dRun s (m - k) (p.pos + k)
  hp : CAt s B ⟨p.pos + k, p.bad⟩ wr
  fr : Fr B w0 wr
theorem dig_less {p : CS} {r a : Nat} (h : r < a) : (⟨p.pos + r, true⟩ : CS) = ⟨p.pos + r, p.bad || decide (r < a)⟩ := by simp [h]
theorem dig_more {p : CS} {r a : Nat} (h : ¬ r < a) : (⟨p.pos + r, p.bad⟩ : CS) = ⟨p.pos + r, p.bad || decide (r < a)⟩ := by simp [h]

set_option maxRecDepth 100000 in
set_option maxHeartbeats 4000000 in
theorem digits_any (s : ByteArray) (B : Nat) (p : CS) (a m : Nat) (ha : a ≤ 20) (hm : m ≤ 20) (w : World) (h : CAt s B p w) :
    Calls Tryd.prog 80 #[cPtr B, .int .i64 (a : Int), .int .i64 (m : Int)] w fun e w' => e = .returned (.string (s.extract p.pos (p.pos + dRun s m p.pos))) ∧ CAt s B (digitsC s p a m) w' ∧ Fr B w w' := by
  have hle := h.le
  have hsz := h.sz
  obtain ⟨c0, c1, c2, f0, f1, f2⟩ := h.parts
  have hpk := fun q W hW => peek_to s B q W hW
  have hdi := fun c hc W => digit_any c hc W
  have H := Lib.hid (And.intro hpk hdi)
  have HP := Lib.hid h
  clear hpk hdi h
  unfold digitsC
  obtain ⟨r, hr⟩ : ∃ r, dRun s m p.pos = r := ⟨_, rfl⟩
  have hin := dRun_in s m p.pos hle
  have HD := Lib.hid hr
  rw [hr] at hin ⊢
  have hsl := fun W => slice_two s p.pos r hin W
  obtain ⟨E, hE⟩ : ∃ E, s.extract p.pos (p.pos + r) = E := ⟨_, rfl⟩
  rw [hE] at hsl ⊢
  have KL := Lib.hid hsl
  clear hr hE hsl
  unfold cPtr at H ⊢
  go_enter Tryd.func80, Tryd.ntmps80
  go_wp2
  go_loopw [] (fun wr => ∃ k, DgAt s B p m w wr k) (fun wr => s.size - posIn B wr)
  case atStart => exact ⟨0, Nat.zero_le _, by simp, HP.out, FrP.refl _ _⟩
  case round =>
    obtain ⟨k, hk, hrk, hp, hfr⟩ := hrel
    rw [HD.out] at hrk
    have HR := Lib.hid hrk
    clear hrk
    obtain ⟨c0, c1, c2, f0, f1, f2⟩ := hp.parts
    simp only at c1 c2
    have hz := hp.le
    simp only at hz
    have hclt := byN_lt s (p.pos + k)
    have hpk := H.out.1 ⟨p.pos + k, p.bad⟩ wr hp
    simp only at hpk
    have hdi := fun W => H.out.2 _ hclt W
    by_cases hk2 : k < m
    · have d1 : decide (((p.pos + k : Nat) : Int) - (p.pos : Int) < (m : Int)) = true := by rw [decide_eq_true_iff]; push_cast; omega
      cases hdg : digB (byN s (p.pos + k)) with
      | true =>
        have hq := byN_dig hdg
        have hst := dRun_step HR.out hk2 hdg
        rw [hdg] at hdi
        obtain ⟨c, hc⟩ : ∃ c, byN s (p.pos + k) = c := ⟨_, rfl⟩
        rw [hc] at hclt hpk hdi
        have K := Lib.hid (And.intro hpk (And.intro hdi hst))
        have HPP := Lib.hid hp
        clear hpk hdi hst hc hdg hp
        go_wp2_with fail
        refine (K.out.1).mono ?_
        rintro e w1 ⟨rfl, h1, hf1⟩
        go_wp2_with fail
        refine (K.out.2.1 _).mono ?_
        rintro e w2 ⟨rfl, hb2⟩
        have h2 := h1.below hb2
        have hf2 := hf1.below hb2
        obtain ⟨e0, e1, e2, g0, g1, g2⟩ := h2.parts
        simp only at e1 e2
        go_wp2
        go_roundw
        case rel => exact ⟨k + 1, by omega, by rw [HD.out]; exact K.out.2.2, h2.setPos (p.pos + (k + 1)) _ (by push_cast; omega) (by omega), (hfr.trans hf2).setCell B 1 _ rfl⟩
        case measure =>
          rw [posIn_eq HPP.out, posIn_eq (h2.setPos (p.pos + (k + 1)) _ (by push_cast; omega) (by omega))]
          simp only
          omega
      | false =>
        obtain rfl : r = k := dRun_end HR.out (.inr hdg)
        rw [hdg] at hdi
        obtain ⟨c, hc⟩ : ∃ c, byN s (p.pos + r) = c := ⟨_, rfl⟩
        rw [hc] at hclt hpk hdi
        have K := Lib.hid (And.intro hpk hdi)
        clear hpk hdi hc hdg hp
        go_wp2_with fail
        refine (K.out.1).mono ?_
        rintro e w1 ⟨rfl, h1, hf1⟩
        go_wp2_with fail
        refine (K.out.2 _).mono ?_
        rintro e w2 ⟨rfl, hb2⟩
        have h2 := h1.below hb2
        have hf2 := hfr.trans (hf1.below hb2)
        obtain ⟨e0, e1, e2, g0, g1, g2⟩ := h2.parts
        simp only at e1 e2
        clear hfr h1 hf1 hb2 d1
        by_cases hra : r < a
        · have d2 : decide (((p.pos + r : Nat) : Int) - (p.pos : Int) < (a : Int)) = true := by rw [decide_eq_true_iff]; push_cast; omega
          have h3 := h2.setBad true
          have hf3 := hf2.setCell B 2 (.bool true) rfl
          obtain ⟨q0, q1, q2, q3, q4, q5⟩ := h3.parts
          simp only at q1 q2
          have HH := Lib.hid (And.intro h3 hf3)
          have hsl := KL.out
          clear h3 hf3 h2 hf2
          go_wp2
          go_quiet (fail)
          go_wp2
          go_ret
          exact ⟨rfl, by rw [← dig_less hra]; exact HH.out.1.drewN _, HH.out.2.drewN _⟩
        · have d2 : decide (((p.pos + r : Nat) : Int) - (p.pos : Int) < (a : Int)) = false := by rw [decide_eq_false_iff_not]; push_cast; omega
          have HH := Lib.hid (And.intro h2 hf2)
          have hsl := KL.out
          clear h2 hf2
          go_wp2
          go_quiet (fail)
          go_wp2
          go_ret
          exact ⟨rfl, by rw [← dig_more hra]; exact HH.out.1.drewN _, HH.out.2.drewN _⟩
    · obtain rfl : k = m := by omega
      obtain rfl : r = k := dRun_end HR.out (.inl rfl)
      have d1 : decide (((p.pos + r : Nat) : Int) - (p.pos : Int) < (r : Int)) = false := by rw [decide_eq_false_iff_not]; push_cast; omega
      clear hpk hdi hclt
      by_cases hra : r < a
      · have d2 : decide (((p.pos + r : Nat) : Int) - (p.pos : Int) < (a : Int)) = true := by rw [decide_eq_true_iff]; push_cast; omega
        have h3 := hp.setBad true
        have hf3 := hfr.setCell B 2 (.bool true) rfl
        obtain ⟨q0, q1, q2, q3, q4, q5⟩ := h3.parts
        simp only at q1 q2
        have HH := Lib.hid (And.intro h3 hf3)
        have hsl := KL.out
        clear h3 hf3 hp hfr
        go_wp2
        go_quiet (fail)
        go_wp2
        go_ret
        exact ⟨rfl, by rw [← dig_less hra]; exact HH.out.1.drewN _, HH.out.2.drewN _⟩
      · have d2 : decide (((p.pos + r : Nat) : Int) - (p.pos : Int) < (a : Int)) = false := by rw [decide_eq_false_iff_not]; push_cast; omega
        have HH := Lib.hid (And.intro hp hfr)
        have hsl := KL.out
        clear hp hfr
        go_wp2
        go_quiet (fail)
        go_wp2
        go_ret
        exact ⟨rfl, by rw [← dig_more hra]; exact HH.out.1.drewN _, HH.out.2.drewN _⟩

set_option maxRecDepth 100000 in
set_option maxHeartbeats 4000000 in
theorem cnumber_any (s : ByteArray) (B : Nat) (p : CS) (a m : Nat) (ha : a ≤ 18) (hm : m ≤ 18) (w : World) (h : CAt s B p w) :
    Calls Tryd.prog 73 #[cPtr B, .int .i64 (a : Int), .int .i64 (m : Int)] w fun e w' => e = .returned (.int .i64 (numC s p.pos m : Int)) ∧ CAt s B (digitsC s p a m) w' ∧ Fr B w w' := by
  have hn := numC_eq (s := s) (k := p.pos) (b := m) h.le hm
  have hd := digits_any s B p a m (by omega) (by omega) w h
  unfold subL at hn
  obtain ⟨E, hE⟩ : ∃ E, s.extract p.pos (p.pos + dRun s m p.pos) = E := ⟨_, rfl⟩
  rw [hE] at hn hd
  have hnn := fun W => number_any E.data.toList W
  rw [mk_list, hn] at hnn
  obtain ⟨b, hb⟩ : ∃ b, numB E.data.toList = b := ⟨_, rfl⟩
  rw [hb] at hnn
  have H := Lib.hid (And.intro hd hnn)
  clear hn hd hnn hE hb h
  unfold cPtr at H ⊢
  go_enter Tryd.func73, Tryd.ntmps73
  go_wp2_with fail
  refine (H.out.1).mono ?_
  rintro e w1 ⟨rfl, h1, hf1⟩
  go_wp2_with fail
  refine (H.out.2 _).mono ?_
  rintro e w2 ⟨rfl, hb2⟩
  go_wp2
  go_ret
  exact ⟨rfl, h1.below hb2, hf1.below hb2⟩
end Go.Proofs.YtofomlbhbbhdjaaDoor
