/- Blocks that may be written, and blocks known whole. -/
import Derived.Test.YtfkgicakiapmaaaFsA
import Derived.Deep.RegionHeld3
import Derived.Deep.DeepCutAuto
namespace Go.Proofs.Ytfkgicakiapmaaa
open Go.RowKit

/-- Blocks of which P holds may be written, and new ones made. -/
structure ChP (P : Nat → Prop) (w w' : World) : Prop where
  os : w'.os = w.os
  tape : w'.tape = w.tape
  output : w'.output = w.output
  size : w.heap.size ≤ w'.heap.size
  block : ∀ i, i < w.heap.size → ¬ P i → w'.heap[i]? = w.heap[i]?
theorem ChP.refl (P : Nat → Prop) (w : World) : ChP P w w := ⟨rfl, rfl, rfl, Nat.le_refl _, fun _ _ _ => rfl⟩
theorem ChP.trans {P Q : Nat → Prop} {a b c : World} (h : ChP P a b) (k : ChP Q b c) (hq : ∀ i, i < a.heap.size → Q i → P i) : ChP P a c :=
  ⟨k.os.trans h.os, k.tape.trans h.tape, k.output.trans h.output, Nat.le_trans h.size k.size, fun i hi hn => (k.block i (Nat.lt_of_lt_of_le hi h.size) (fun q => hn (hq i hi q))).trans (h.block i hi hn)⟩
theorem ChP.below {P : Nat → Prop} {a b c : World} (h : ChP P a b) (k : Below b.heap.size b c) : ChP P a c :=
  ⟨k.os.trans h.os, k.tape.trans h.tape, k.output.trans h.output, Nat.le_trans h.size k.size, fun i hi hn => (k.block i (Nat.lt_of_lt_of_le hi h.size)).trans (h.block i hi hn)⟩
theorem ChP.ofBelow {P : Nat → Prop} {a b : World} (k : Below a.heap.size a b) : ChP P a b := ⟨k.os, k.tape, k.output, k.size, fun i hi _ => k.block i hi⟩
theorem ChP.mono {P Q : Nat → Prop} {a b : World} (h : ChP P a b) (hq : ∀ i, i < a.heap.size → P i → Q i) : ChP Q a b := ⟨h.os, h.tape, h.output, h.size, fun i hi hn => h.block i hi (fun p => hn (hq i hi p))⟩
theorem ChP.toBelow {P : Nat → Prop} {a b : World} {B : Nat} (h : ChP P a b) (hB : B ≤ a.heap.size) (hp : ∀ i, P i → B ≤ i) : Below B a b :=
  ⟨h.os, h.tape, h.output, h.size, fun k hk => h.block k (by omega) (fun p => by have := hp k p; omega)⟩
theorem ChP.grown {w w' : World} {row : Option Nat} (h : w.grownBy w' row) : ChP (fun i => row = some i) w w' := ⟨h.os, h.tape, h.output, h.size, fun i hi hn => h.block i hi (fun e => hn e.symm)⟩
theorem ChP.set {P : Nat → Prop} {a w : World} (h : ChP P a w) (b k : Nat) (u : Value) (hb : P b) : ChP P a (w.setCell ⟨b, k, none⟩ u) :=
  ⟨h.os, h.tape, h.output, by simpa [World.setCell] using h.size, fun i hi hn => (Below.heap_setCell w ⟨b, k, none⟩ u i (by rintro rfl; exact hn hb)).trans (h.block i hi hn)⟩
theorem ChP.drew {P : Nat → Prop} {a w : World} (h : ChP P a w) : ChP P a w.drew := ⟨h.os, h.tape, h.output, h.size, h.block⟩
theorem ChP.drewN {P : Nat → Prop} {a w : World} (h : ChP P a w) (n : Nat) : ChP P a (w.drewN n) := ⟨h.os, h.tape, h.output, h.size, h.block⟩
theorem heap_setCell_blk {W : World} {b i : Nat} {cur : Array Value} {t : TypeId} {fz : Nat × Nat} (v : Value) (h : W.heap[b]? = some (.cells cur t fz)) : (W.setCell ⟨b, i, none⟩ v).heap[b]? = some (.cells (cur.setIfInBounds i v) t fz) := by
  obtain ⟨hlt, hk⟩ := Array.getElem?_eq_some_iff.1 h
  show (W.heap.modify b _)[b]? = _
  rw [Array.getElem?_eq_getElem (by rw [Array.size_modify]; exact hlt), Array.getElem_modify_self, hk]
  rfl

/-- A block known whole. -/
def BkAt (b : Nat) (T : TypeId) (cs : Array Value) (w : World) : Prop := w.heap[b]? = some (.cells cs T (0, 0))
theorem BkAt.lt {b : Nat} {T : TypeId} {cs : Array Value} {w : World} (h : BkAt b T cs w) : b < w.heap.size := (Array.getElem?_eq_some_iff.1 h).1
theorem BkAt.cell {b : Nat} {T : TypeId} {cs : Array Value} {w : World} (h : BkAt b T cs w) (j : Nat) : w.cell? ⟨b, j, none⟩ = cs[j]? := Lib.cell_of_heap h j
theorem BkAt.free {b : Nat} {T : TypeId} {cs : Array Value} {w : World} (h : BkAt b T cs w) (j : Nat) : w.frozen? ⟨b, j, none⟩ = false := Lib.frozen_of_heap h j
theorem BkAt.below {b : Nat} {T : TypeId} {cs : Array Value} {w w' : World} (h : BkAt b T cs w) (k : Below w.heap.size w w') : BkAt b T cs w' := (k.block b h.lt).trans h
theorem BkAt.ch {b : Nat} {T : TypeId} {cs : Array Value} {w w' : World} {P : Nat → Prop} (h : BkAt b T cs w) (k : ChP P w w') (hn : ¬ P b) : BkAt b T cs w' := (k.block b h.lt hn).trans h
theorem BkAt.new (T : TypeId) (cs : Array Value) (w : World) : BkAt w.heap.size T cs (w.alloc (.cells cs T)) := heap_alloc_new _ _
theorem BkAt.set {b : Nat} {T : TypeId} {cs : Array Value} {w : World} (h : BkAt b T cs w) (i : Nat) (v : Value) : BkAt b T (cs.setIfInBounds i v) (w.setCell ⟨b, i, none⟩ v) := heap_setCell_blk v h
theorem BkAt.other {b c : Nat} {T : TypeId} {cs : Array Value} {w : World} (h : BkAt b T cs w) (i : Nat) (v : Value) (hn : b ≠ c) : BkAt b T cs (w.setCell ⟨c, i, none⟩ v) := (Below.heap_setCell w ⟨c, i, none⟩ v b hn).trans h
theorem row_ch {base : Nat} {e : TypeId} {size : Nat} {v : Value} {n : Nat} {xs : List Value} {w w' : World} {P : Nat → Prop} (h : w.ownsRow base e size v n xs) (k : ChP P w w') (hn : ∀ g, v.ownBlock = some g → ¬ P g) : w'.ownsRow base e size v n xs := by
  refine ⟨h.1, ?_⟩
  rcases h.2 with q | ⟨g, cap, cur, q1, q2, q3, q4, q5, q6⟩
  · exact .inl q
  · refine .inr ⟨g, cap, cur, q1, q2, ?_, q4, q5, q6⟩
    rw [k.block g (Array.getElem?_eq_some_iff.1 q3).1 (hn g (by rw [q1]; rfl))]
    exact q3
/-- A row's block has the type of its elements. -/
theorem row_type {base : Nat} {e : TypeId} {size : Nat} {v : Value} {n : Nat} {xs : List Value} {w : World} (h : w.ownsRow base e size v n xs) {g : Nat} (hg : v.ownBlock = some g) : ∃ cur fz, w.heap[g]? = some (.cells cur e fz) ∧ base ≤ g := by
  rcases h.2 with ⟨q, -⟩ | ⟨g', cap, cur, q1, q2, q3, -⟩
  · rw [q] at hg; cases hg
  · rw [q1] at hg
    cases hg
    exact ⟨cur, _, q3, q2⟩
theorem row_ne {base : Nat} {e T : TypeId} {size : Nat} {v : Value} {n : Nat} {xs : List Value} {w : World} {cs : Array Value} {d : Nat} (h : w.ownsRow base e size v n xs) (hb : BkAt d T cs w) (hT : T ≠ e) {g : Nat} (hg : v.ownBlock = some g) : g ≠ d := by
  rintro rfl
  obtain ⟨cur, fz, h1, -⟩ := row_type h hg
  unfold BkAt at hb
  rw [h1] at hb
  injection hb with h2
  injection h2 with h3 h4
  exact hT h4.symm
end Go.Proofs.Ytfkgicakiapmaaa
