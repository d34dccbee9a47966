/- The contracts of the parser's smallest methods: peek, take, expect, fail; the parser's block alone is written. -/
import Derived.Test.YtfmoidhpafpgnaaPatNode
import Derived.Test.YtfmoidhpafpgnaaCutC
import Derived.LoopTactic
namespace Go.Proofs.Ytfmoidhpafpgnaa
open Go.RowKit

/-- The parser as it lies in block B. -/
structure PAt (s : ByteArray) (B : Nat) (p : PS) (w : World) : Prop where
  hp : w.heap[B]? = some (.cells #[.string s, .int .i64 (p.pos : Int), .int .i64 p.er] 56 (0, 0))
  le : p.pos ≤ s.size
  sz : s.size ≤ 400
def pPtr (B : Nat) : Value := .pointer (some ⟨B, 0, none⟩)
theorem PAt.parts {s : ByteArray} {B : Nat} {p : PS} {w : World} (h : PAt s B p w) :
    w.cell? ⟨B, 0, none⟩ = some (.string s) ∧ w.cell? ⟨B, 1, none⟩ = some (.int .i64 (p.pos : Int)) ∧ w.cell? ⟨B, 2, none⟩ = some (.int .i64 p.er) ∧
    w.frozen? ⟨B, 1, none⟩ = false ∧ w.frozen? ⟨B, 2, none⟩ = false :=
  ⟨by rw [Lib.cell_of_heap h.hp]; rfl, by rw [Lib.cell_of_heap h.hp]; rfl, by rw [Lib.cell_of_heap h.hp]; rfl, Lib.frozen_of_heap h.hp 1, Lib.frozen_of_heap h.hp 2⟩
theorem PAt.lt {s : ByteArray} {B : Nat} {p : PS} {w : World} (h : PAt s B p w) : B < w.heap.size := (Array.getElem?_eq_some_iff.1 h.hp).1
theorem PAt.drewN {s : ByteArray} {B : Nat} {p : PS} {w : World} (h : PAt s B p w) (n : Nat) : PAt s B p (w.drewN n) := ⟨h.hp, h.le, h.sz⟩
theorem PAt.below {s : ByteArray} {B : Nat} {p : PS} {w w' : World} (h : PAt s B p w) (k : Below w.heap.size w w') : PAt s B p w' := ⟨(k.block B h.lt).trans h.hp, h.le, h.sz⟩
theorem PAt.alloc {s : ByteArray} {B : Nat} {p : PS} {w : World} (h : PAt s B p w) (o : Obj) : PAt s B p (w.alloc o) := ⟨(Below.heap_alloc w o B h.lt).trans h.hp, h.le, h.sz⟩
theorem PAt.setPos {s : ByteArray} {B : Nat} {p : PS} {w : World} (h : PAt s B p w) (k : Nat) (z : Int) (hz : z = (k : Int)) (hk : k ≤ s.size) : PAt s B ⟨k, p.er⟩ (w.setCell ⟨B, 1, none⟩ (.int .i64 z)) := by
  subst hz
  have h0 := h.hp
  refine ⟨?_, hk, h.sz⟩
  simp only [World.setCell, Array.getElem?_modify, if_true, h0, Option.map_some]
  rfl
theorem PAt.setErr {s : ByteArray} {B : Nat} {p : PS} {w : World} (h : PAt s B p w) (e : Int) : PAt s B ⟨p.pos, e⟩ (w.setCell ⟨B, 2, none⟩ (.int .i64 e)) := by
  have h0 := h.hp
  refine ⟨?_, h.le, h.sz⟩
  simp only [World.setCell, Array.getElem?_modify, if_true, h0, Option.map_some]
  rfl

set_option maxRecDepth 100000 in
set_option maxHeartbeats 1000000 in
theorem peek_any (s : ByteArray) (B : Nat) (p : PS) (w : World) (h : PAt s B p w) :
    Calls Try.prog 35 #[pPtr B] w fun e w' => e = .returned (.int .u8 (peekS s p : Nat)) ∧ ∃ n, w' = w.drewN n := by
  obtain ⟨c0, c1, c2, -, -⟩ := h.parts
  have hp := h.le
  have hs := h.sz
  obtain ⟨k, er⟩ := p
  simp only at hp c1 c2
  unfold pPtr
  by_cases he : er = 0
  · subst he
    by_cases hk : k < s.size
    · have e1 : ((k : Int) == (s.size : Int)) = false := by rw [beq_eq_false_iff_ne]; omega
      have hv : peekS s ⟨k, 0⟩ = s[k].toNat := by rw [peekS_ok rfl, byteN_in _ _ hk]
      rw [hv]
      clear hv h
      go_enter Try.func35, Try.ntmps35
      go_wp2
      go_quiet (fail)
      go_wp2
      go_quiet (fail)
      go_wp2
      go_ret
      exact ⟨rfl, _, World.drewN_drewN _ _ _⟩
    · obtain rfl : k = s.size := by omega
      have hv : peekS s ⟨s.size, 0⟩ = 0 := by rw [peekS_ok rfl, byteN_out _ _ hk]
      rw [hv]
      clear hv h
      go_enter Try.func35, Try.ntmps35
      go_wp2
      go_quiet (fail)
      go_wp2
      go_ret
      exact ⟨rfl, _, rfl⟩
  · have e1 : (er == 0) = false := by rw [beq_eq_false_iff_ne]; exact he
    have e2 : (er != 0) = true := by rw [bne_iff_ne]; exact he
    have hv : peekS s ⟨k, er⟩ = 0 := by simp [peekS, he]
    rw [hv]
    clear hv h
    go_enter Try.func35, Try.ntmps35
    go_wp2
    go_quiet (fail)
    go_wp2
    go_ret
    exact ⟨rfl, _, rfl⟩

/-- The same, as the callers take it. -/
theorem peek_to (s : ByteArray) (B : Nat) (p : PS) (w : World) (h : PAt s B p w) :
    Calls Try.prog 35 #[pPtr B] w fun e w' => e = .returned (.int .u8 (peekS s p : Nat)) ∧ PAt s B p w' ∧ Fr B w w' :=
  (peek_any s B p w h).mono fun _ _ ⟨he, n, hn⟩ => ⟨he, by rw [hn]; exact h.drewN n, by rw [hn]; exact (Fr.refl B w).drewN n⟩

set_option maxRecDepth 100000 in
set_option maxHeartbeats 1000000 in
theorem take_yes (s : ByteArray) (B : Nat) (p : PS) (c : Nat) (w : World) (h : PAt s B p w) (hc : peekS s p = c) (hc0 : c ≠ 0) :
    Calls Try.prog 28 #[pPtr B, .int .u8 (c : Int)] w fun e w' => e = .returned (.bool true) ∧ PAt s B p.next w' ∧ Fr B w w' := by
  have hpk := peek_to s B p w h
  have hlt := fun h0 => (peekS_in (s := s) (p := p) h0).2
  rw [hc] at hpk hlt
  have hlt := hlt hc0
  have hs := h.sz
  clear hc h
  have HPK := Lib.hid hpk
  clear hpk
  unfold pPtr at HPK ⊢
  go_enter Try.func28, Try.ntmps28
  go_wp2_with fail
  refine (HPK.out).mono ?_
  rintro e w1 ⟨rfl, h1, hf1⟩
  obtain ⟨c0, c1, c2, f1, f2⟩ := h1.parts
  go_wp2
  go_ret
  exact ⟨rfl, h1.setPos (p.pos + 1) _ (by push_cast; rfl) hlt, hf1.setCell 1 _⟩

set_option maxRecDepth 100000 in
set_option maxHeartbeats 1000000 in
theorem take_no (s : ByteArray) (B : Nat) (p : PS) (c : Nat) (w : World) (h : PAt s B p w) (hc : peekS s p ≠ c) :
    Calls Try.prog 28 #[pPtr B, .int .u8 (c : Int)] w fun e w' => e = .returned (.bool false) ∧ PAt s B p w' ∧ Fr B w w' := by
  have hpk := peek_to s B p w h
  have e1 : ((peekS s p : Int) == (c : Int)) = false := by rw [beq_eq_false_iff_ne]; omega
  have e2 : ((peekS s p : Int) != (c : Int)) = true := by rw [bne_iff_ne]; omega
  clear hc h
  have HPK := Lib.hid hpk
  clear hpk
  unfold pPtr at HPK ⊢
  go_enter Try.func28, Try.ntmps28
  go_wp2_with fail
  refine (HPK.out).mono ?_
  rintro e w1 ⟨rfl, h1, hf1⟩
  go_wp2
  go_ret
  exact ⟨rfl, h1, hf1⟩

set_option maxRecDepth 100000 in
set_option maxHeartbeats 1000000 in
theorem fail_any (s : ByteArray) (B : Nat) (p : PS) (a : Nat) (er : Int) (w : World) (h : PAt s B p w) (ha : a ≤ s.size) :
    Calls Try.prog 23 #[pPtr B, .int .i64 (a : Int), .int .i64 er] w fun e w' => e = .returned (.tuple #[]) ∧ PAt s B (failS p a er) w' ∧ Fr B w w' := by
  obtain ⟨c0, c1, c2, f1, f2⟩ := h.parts
  have HP := Lib.hid h
  clear h
  unfold pPtr failS
  by_cases he : p.er = 0
  · rw [if_pos he]
    rw [he] at c2
    have HE := Lib.hid he
    clear he
    go_enter Try.func23, Try.ntmps23
    go_wp2
    go_end0
    exact ⟨rfl, (HP.out.setPos a _ rfl ha).setErr er, ((Fr.refl B w).setCell 1 _).setCell 2 _⟩
  · rw [if_neg he]
    have e1 : (p.er == 0) = false := by rw [beq_eq_false_iff_ne]; exact he
    go_enter Try.func23, Try.ntmps23
    go_wp2
    go_end0
    exact ⟨rfl, HP.out, Fr.refl B w⟩

set_option maxRecDepth 100000 in
set_option maxHeartbeats 1000000 in
theorem expect_any (s : ByteArray) (B : Nat) (p : PS) (c : Nat) (hc0 : c ≠ 0) (w : World) (h : PAt s B p w) :
    Calls Try.prog 53 #[pPtr B, .int .u8 (c : Int)] w fun e w' => e = .returned (.tuple #[]) ∧ PAt s B (expectS s p c) w' ∧ Fr B w w' := by
  unfold expectS
  by_cases hc : peekS s p = c
  · rw [if_pos hc]
    have HT := Lib.hid (take_yes s B p c w h hc hc0)
    clear hc h
    unfold pPtr at HT ⊢
    go_enter Try.func53, Try.ntmps53
    go_wp2_with fail
    refine (HT.out).mono ?_
    rintro e w1 ⟨rfl, h1, hf1⟩
    go_wp2
    go_end0
    exact ⟨rfl, h1, hf1⟩
  · rw [if_neg hc]
    have HT := Lib.hid (take_no s B p c w h hc)
    have HF := Lib.hid (fun W hW => fail_any s B p p.pos 1 W hW hW.le)
    clear hc h
    unfold pPtr at HT HF ⊢
    go_enter Try.func53, Try.ntmps53
    go_wp2_with fail
    refine (HT.out).mono ?_
    rintro e w1 ⟨rfl, h1, hf1⟩
    obtain ⟨c0, c1, c2, f1, f2⟩ := h1.parts
    go_wp2_with fail
    refine (HF.out _ h1).mono ?_
    rintro e w2 ⟨rfl, h2, hf2⟩
    go_wp2
    go_end0
    exact ⟨rfl, h2, hf1.trans hf2⟩
end Go.Proofs.Ytfmoidhpafpgnaa
