/- The contracts of logtidemake's New, Left, Next and Pick. -/
import Derived.Test.YtdjkemodlbbmaaaDoorGfr
import Derived.Test.YtdjkemodlbbmaaaDoorArgs
namespace Go.Proofs.YtdjkemodlbbmaaaDoor
open Go.RowKit

/-- Choices in block C. -/
def MkAt (C : Nat) (w : World) : Prop :=
  ∃ (a : Option Addr) (n c k : Nat), w.heap[C]? = some (.cells #[.slice a n c, .int .i64 (k : Int)] 50 (0, 0)) ∧ k ≤ n ∧ n ≤ 1000 ∧
    ∀ i, i < n → ∃ (b o x : Nat), a = some ⟨b, o, none⟩ ∧ b < C ∧ x < 256 ∧ w.cell? ⟨b, o + i, none⟩ = some (.int .u8 (x : Int))
theorem MkAt.lt {C : Nat} {w : World} (h : MkAt C w) : C < w.heap.size := by
  obtain ⟨a, n, c, k, h, -⟩ := h; exact (Array.getElem?_eq_some_iff.1 h).1
theorem MkAt.grown {C : Nat} {w w' : World} {row : Option Nat} (h : MkAt C w) (hg : w.grownBy w' row) (hr : ∀ b, row = some b → C < b) : MkAt C w' := by
  have hlt := h.lt
  obtain ⟨a, n, c, k, h, h1, h2, h3⟩ := h
  refine ⟨a, n, c, k, (hg.block C hlt fun e => by have := hr C e.symm; omega).trans h, h1, h2, fun i hi => ?_⟩
  obtain ⟨b, o, x, ha, hb, hx, hc⟩ := h3 i hi
  exact ⟨b, o, x, ha, hb, hx, hg.cell (a := ⟨b, o + i, none⟩) hc fun e => by have := hr b e.symm; omega⟩
theorem MkAt.below {C : Nat} {w w' : World} (h : MkAt C w) (hb : Below w.heap.size w w') : MkAt C w' :=
  h.grown (row := none) ⟨hb.os, hb.tape, hb.output, hb.size, fun i hi _ => hb.block i hi⟩ fun _ e => by cases e
theorem MkAt.alloc {C : Nat} {w : World} (h : MkAt C w) (o : Obj) : MkAt C (w.alloc o) := h.below ((Below.refl _ _).alloc (Nat.le_refl _) o)
theorem MkAt.drewN {C : Nat} {w : World} (h : MkAt C w) (n : Nat) : MkAt C (w.drewN n) := h
theorem MkAt.drew {C : Nat} {w : World} (h : MkAt C w) : MkAt C w.drew := h

set_option maxRecDepth 100000 in
set_option maxHeartbeats 2000000 in
theorem new_any (sv : Value) (l : List UInt8) (most : Nat) (w : World) (h : ArgB w w.heap.size sv l) (hm : most ≤ 1000) :
    Calls Tryd.prog 8 #[sv, .int .i64 (most : Int)] w fun e w' => e = .returned (.pointer (some ⟨w.heap.size, 0, none⟩)) ∧ MkAt w.heap.size w' ∧ Below w.heap.size w w' := by
  rcases h with ⟨rfl, rfl⟩ | ⟨ad, cap, rfl, hlc, hc, hb⟩
  · have d1 : decide ((most : Int) < 0) = false := by simp
    have hn := heap_alloc_new w (.cells #[.slice none 0 0, .int .i64 0] 50)
    have H := Lib.hid hn
    clear hn
    go_enter Tryd.func8, Tryd.ntmps8
    go_wp2
    go_ret
    exact ⟨rfl, ⟨none, 0, 0, 0, H.out, Nat.le_refl _, by omega, fun i hi => by omega⟩, (Below.refl _ _).alloc (Nat.le_refl _) _⟩
  · have hcell : ∀ i, i < l.length → ∃ (b o x : Nat), (some ad : Option Addr) = some ⟨b, o, none⟩ ∧ b < w.heap.size ∧ x < 256 ∧ w.cell? ⟨b, o + i, none⟩ = some (.int .u8 (x : Int)) := fun i hi => by
      obtain ⟨bk, off, rfl, hbk⟩ := hb (by omega)
      have := hc i (.int .u8 (l[i].toNat : Int)) (by simp [Lib.byteCells, hi])
      refine ⟨bk, off, l[i].toNat, rfl, hbk, UInt8.toNat_lt _, ?_⟩
      rw [← this]
      unfold Addr.add
      split
      · rename_i hz; rw [hz]; rfl
      · rfl
    have H := Lib.hid hcell
    clear hcell hc hb
    by_cases hlen : most < l.length
    · have d1 : decide ((most : Int) < (l.length : Int)) = true := by simp; omega
      have d2 : decide (most < l.length) = true := by simp; omega
      obtain ⟨n, hn⟩ : ∃ n, l.length = n := ⟨_, rfl⟩
      rw [hn] at H hlen hlc d1 d2 ⊢
      have hN := heap_alloc_new w (.cells #[.slice (some ad) most cap, .int .i64 0] 50)
      have HN := Lib.hid hN
      clear hN hn
      go_enter Tryd.func8, Tryd.ntmps8
      go_wp2
      go_ret
      refine ⟨rfl, ⟨_, _, _, 0, HN.out, by omega, by omega, fun i hi => ?_⟩, (Below.refl _ _).alloc (Nat.le_refl _) _⟩
      obtain ⟨b, o, x, ha, hb, hx, hc⟩ := H.out i (by omega)
      exact ⟨b, o, x, ha, by omega, hx, gkeeps_alloc 0 w _ b _ _ (Nat.zero_le _) hc⟩
    · have d1 : decide ((most : Int) < (l.length : Int)) = false := by simp; omega
      have d2 : decide (most < l.length) = false := by simp; omega
      obtain ⟨n, hn⟩ : ∃ n, l.length = n := ⟨_, rfl⟩
      rw [hn] at H hlen hlc d1 d2 ⊢
      have hN := heap_alloc_new w (.cells #[.slice (some ad) n cap, .int .i64 0] 50)
      have HN := Lib.hid hN
      clear hN hn
      go_enter Tryd.func8, Tryd.ntmps8
      go_wp2
      go_ret
      refine ⟨rfl, ⟨_, _, _, 0, HN.out, by omega, by omega, fun i hi => ?_⟩, (Below.refl _ _).alloc (Nat.le_refl _) _⟩
      obtain ⟨b, o, x, ha, hb, hx, hc⟩ := H.out i (by omega)
      exact ⟨b, o, x, ha, by omega, hx, gkeeps_alloc 0 w _ b _ _ (Nat.zero_le _) hc⟩

abbrev mkPtr (C : Nat) : Value := .pointer (some ⟨C, 0, none⟩)
set_option maxRecDepth 100000 in
set_option maxHeartbeats 2000000 in
theorem left_any (C : Nat) (a : Option Addr) (n c k : Nat) (w : World) (h : w.heap[C]? = some (.cells #[.slice a n c, .int .i64 (k : Int)] 50 (0, 0))) (_hk : k ≤ n) (_hn : n ≤ 1000) :
    Calls Tryd.prog 22 #[.pointer (some ⟨C, 0, none⟩)] w fun e w' => e = .returned (.bool (decide (k < n))) ∧ ∃ m, w' = w.drewN m := by
  have c0 : w.cell? ⟨C, 0, none⟩ = some (.slice a n c) := by rw [Lib.cell_of_heap h]; rfl
  have c1 : w.cell? ⟨C, 1, none⟩ = some (.int .i64 (k : Int)) := by rw [Lib.cell_of_heap h]; rfl
  clear h
  obtain ⟨r, hr⟩ : ∃ r, decide (k < n) = r := ⟨_, rfl⟩
  have d1 : decide ((k : Int) < (n : Int)) = r := by rw [← hr]; simp
  rw [hr]
  go_enter Tryd.func22, Tryd.ntmps22
  go_wp2
  go_quiet (fail)
  go_wp2
  go_ret
  exact ⟨rfl, _, rfl⟩

theorem mk_set {C : Nat} {a : Option Addr} {n c k : Nat} {w : World} (h : w.heap[C]? = some (.cells #[.slice a n c, .int .i64 (k : Int)] 50 (0, 0))) (z : Int) :
    (w.setCell ⟨C, 1, none⟩ (.int .i64 z)).heap[C]? = some (.cells #[.slice a n c, .int .i64 z] 50 (0, 0)) := by
  simp [World.setCell, Array.getElem?_modify, h]

/-- What a choice that is left reads and writes. -/
theorem mk_step {C : Nat} {a : Option Addr} {n c k : Nat} {w : World} (hb : w.heap[C]? = some (.cells #[.slice a n c, .int .i64 (k : Int)] 50 (0, 0))) (hn : n ≤ 1000)
    (hc : ∀ i, i < n → ∃ (b o x : Nat), a = some ⟨b, o, none⟩ ∧ b < C ∧ x < 256 ∧ w.cell? ⟨b, o + i, none⟩ = some (.int .u8 (x : Int))) (hlt : k < n) :
    ∃ (g o x : Nat), a = some ⟨g, o, none⟩ ∧ x < 256 ∧ w.cell? ⟨C, 1, none⟩ = some (.int .i64 (k : Int)) ∧ w.frozen? ⟨C, 1, none⟩ = false ∧
      (w.setCell ⟨C, 1, none⟩ (.int .i64 ((k : Int) + 1))).cell? ⟨C, 0, none⟩ = some (.slice a n c) ∧ (w.setCell ⟨C, 1, none⟩ (.int .i64 ((k : Int) + 1))).cell? ⟨C, 1, none⟩ = some (.int .i64 ((k : Int) + 1)) ∧
      (w.setCell ⟨C, 1, none⟩ (.int .i64 ((k : Int) + 1))).cell? ⟨g, o + k, none⟩ = some (.int .u8 (x : Int)) ∧ MkAt C (w.setCell ⟨C, 1, none⟩ (.int .i64 ((k : Int) + 1))) ∧ GFr C w (w.setCell ⟨C, 1, none⟩ (.int .i64 ((k : Int) + 1))) := by
  obtain ⟨g, o, x, rfl, hg, hx, hcx⟩ := hc k hlt
  have hs := mk_set hb ((k : Int) + 1)
  refine ⟨g, o, x, rfl, hx, by rw [Lib.cell_of_heap hb]; rfl, Lib.frozen_of_heap hb 1, by rw [Lib.cell_of_heap hs]; rfl, by rw [Lib.cell_of_heap hs]; rfl, ?_, ⟨_, n, c, k + 1, by push_cast; exact hs, by omega, hn, fun i hi => ?_⟩, (GFr.refl C w).setCell 1 _⟩
  · rw [← hcx]
    exact World.cell?_of_block (w := w) (Below.heap_setCell w _ _ g (by simp only [ne_eq]; omega))
  · obtain ⟨b', o', x', ha', hb', hx', hc'⟩ := hc i hi
    refine ⟨b', o', x', ha', hb', hx', ?_⟩
    rw [← hc']
    exact World.cell?_of_block (w := w) (Below.heap_setCell w _ _ b' (by simp only [ne_eq]; omega))

set_option maxRecDepth 100000 in
set_option maxHeartbeats 2000000 in
theorem next_any (C : Nat) (m : Int) (w : World) (h : MkAt C w) (hm1 : 1 ≤ m) (hm2 : m ≤ 1000000) :
    Calls Tryd.prog 9 #[.pointer (some ⟨C, 0, none⟩), .int .i64 m] w fun e w' => (∃ z : Int, e = .returned (.int .i64 z) ∧ 0 ≤ z ∧ z < m) ∧ MkAt C w' ∧ GFr C w w' := by
  have h0 := h
  obtain ⟨a, n, c, k, hb, hk, hn, hc⟩ := h
  have hl := left_any C a n c k w hb hk hn
  have d0 : decide (m < 1) = false := by simp; omega
  by_cases hlt : k < n
  · rw [decide_eq_true hlt] at hl
    have hst : ∀ m1, _ := fun m1 => mk_step (w := w.drewN m1) (hb : (w.drewN m1).heap[C]? = _) hn hc hlt
    have H := Lib.hid (And.intro hl hst)
    clear hl hst hb hc h0
    go_enter Tryd.func9, Tryd.ntmps9
    go_wp2_with fail
    refine (H.out.1).mono ?_
    rintro e w1 ⟨rfl, m1, hw1⟩
    obtain ⟨g, o, x, rfl, hx, c1, f1, s0, s1, s2, hmk, hfr⟩ := H.out.2 m1
    rw [← hw1] at c1 f1 s0 s1 s2 hmk hfr
    have K := Lib.hid (And.intro hmk (And.intro hfr hw1))
    clear hmk hfr hw1
    go_wp2
    go_quiet (fail)
    go_wp2
    go_ret
    have hfr2 : GFr C w w1 := by rw [K.out.2.2]; exact (GFr.refl _ _).drewN _
    refine ⟨⟨_, rfl, ?_, ?_⟩, K.out.1.drewN _, (hfr2.trans K.out.2.1).drewN _⟩
    · exact Int.emod_nonneg _ (by omega)
    · exact Int.emod_lt_of_pos _ (by omega)
  · rw [decide_eq_false hlt] at hl
    have H := Lib.hid (And.intro hl h0)
    clear hl h0 hc hb
    go_enter Tryd.func9, Tryd.ntmps9
    go_wp2_with fail
    refine (H.out.1).mono ?_
    rintro e w1 ⟨rfl, m1, rfl⟩
    go_wp2
    go_ret
    exact ⟨⟨0, rfl, by omega, by omega⟩, H.out.2.drewN _, (GFr.refl _ _).drewN _⟩
set_option maxRecDepth 100000 in
set_option maxHeartbeats 4000000 in
theorem pick_any (C b c : Nat) (L : List ByteArray) (w : World) (h : MkAt C w) (hb : C < b) (hc : ∀ i (hi : i < L.length), w.cell? ⟨b, i, none⟩ = some (.string L[i])) (h0 : 0 < L.length) (h1 : L.length ≤ 1000) :
    Calls Tryd.prog 10 #[.pointer (some ⟨C, 0, none⟩), .slice (some ⟨b, 0, none⟩) L.length c] w fun e w' => (∃ s : ByteArray, e = .returned (.string s) ∧ s ∈ L) ∧ MkAt C w' ∧ GFr C w w' := by
  have hn := next_any C L.length w h (by omega) (by omega)
  have H := Lib.hid (And.intro hn hc)
  clear hn hc h
  go_enter Tryd.func10, Tryd.ntmps10
  go_wp2_with fail
  refine (H.out.1).mono ?_
  rintro e w1 ⟨⟨z, rfl, hz0, hz1⟩, hm1, hf1⟩
  obtain ⟨i, rfl⟩ : ∃ i : Nat, z = (i : Int) := ⟨z.toNat, by omega⟩
  have hi : i < L.length := by omega
  have hcl : w1.cell? ⟨b, i, none⟩ = some (.string L[i]) := by
    have := H.out.2 i hi
    exact hf1.keeps (lo := b) hb b i _ (Nat.le_refl _) this
  have hmem : L[i] ∈ L := List.getElem_mem hi
  obtain ⟨x, hx⟩ : ∃ x, L[i] = x := ⟨_, rfl⟩
  rw [hx] at hcl hmem
  have K := Lib.hid (And.intro hm1 (And.intro hf1 hmem))
  clear hm1 hf1 hmem hx
  go_wp2
  go_ret
  exact ⟨⟨x, rfl, K.out.2.2⟩, K.out.1, K.out.2.1⟩

end Go.Proofs.YtdjkemodlbbmaaaDoor
