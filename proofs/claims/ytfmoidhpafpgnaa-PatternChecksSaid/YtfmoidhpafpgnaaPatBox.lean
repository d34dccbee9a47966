/- A node in a block of its own: six cells. -/
import Derived.Test.YtfmoidhpafpgnaaPatVis
import Derived.Test.YtfmoidhpafpgnaaPatParen
namespace Go.Proofs.Ytfmoidhpafpgnaa
open Go.RowKit

def NBox (w : World) (X : Nat) (v0 v1 v2 v3 v4 v5 : Value) : Prop := w.heap[X]? = some (.cells #[v0, v1, v2, v3, v4, v5] 25 (0, 0))
theorem NBox.cells {w : World} {X : Nat} {v0 v1 v2 v3 v4 v5 : Value} (h : NBox w X v0 v1 v2 v3 v4 v5) :
    w.cell? ⟨X, 0, none⟩ = some v0 ∧ w.cell? ⟨X, 1, none⟩ = some v1 ∧ w.cell? ⟨X, 2, none⟩ = some v2 ∧ w.cell? ⟨X, 3, none⟩ = some v3 ∧ w.cell? ⟨X, 4, none⟩ = some v4 ∧ w.cell? ⟨X, 5, none⟩ = some v5 := by
  unfold NBox at h
  refine ⟨?_, ?_, ?_, ?_, ?_, ?_⟩ <;> (rw [Lib.cell_of_heap h]; rfl)
theorem NBox.new (w : World) (v0 v1 v2 v3 v4 v5 : Value) : NBox (w.alloc (.cells #[v0, v1, v2, v3, v4, v5] 25)) w.heap.size v0 v1 v2 v3 v4 v5 := heap_alloc_new _ _
theorem NBox.alloc {w : World} {X : Nat} {v0 v1 v2 v3 v4 v5 : Value} (h : NBox w X v0 v1 v2 v3 v4 v5) (o : Obj) : NBox (w.alloc o) X v0 v1 v2 v3 v4 v5 :=
  (Lib.alloc_old w o X (Array.getElem?_eq_some_iff.1 h).1).trans h
/-- The node's value, opened. -/
theorem NodeIn.open {lo : Nat} {w : World} {t : Nd} {v : Value} (h : NodeIn lo w t v) : ∃ rv kv, v = .agg #[.int .i64 t.op, rv, .string t.nm, kv, .int .i64 t.mn, .int .i64 t.mx] := by
  cases t
  unfold NodeIn at h
  obtain ⟨rv, ka, kc, hv, -⟩ := h
  exact ⟨_, _, hv⟩
/-- One kid of a node's list, read off the world w0. -/
theorem kid_cells {lo : Nat} {w0 : World} {l : List Nd} {g o j : Nat} (h : KidsIn lo w0 l g o) (hj : j < l.length) : ∃ op ra rn rc nm ka kn kc mn mx, NodeIn lo w0 l[j] (.agg #[.int .i64 op, .slice ra rn rc, .string nm, .slice ka kn kc, .int .i64 mn, .int .i64 mx]) ∧
    w0.cell? ⟨g, o + j * 6, none⟩ = some (.int .i64 op) ∧ w0.cell? ⟨g, o + j * 6 + 1, none⟩ = some (.slice ra rn rc) ∧ w0.cell? ⟨g, o + j * 6 + 2, none⟩ = some (.string nm) ∧ w0.cell? ⟨g, o + j * 6 + 3, none⟩ = some (.slice ka kn kc) ∧ w0.cell? ⟨g, o + j * 6 + 4, none⟩ = some (.int .i64 mn) ∧ w0.cell? ⟨g, o + j * 6 + 5, none⟩ = some (.int .i64 mx) := by
  obtain ⟨ra, rc, ka, kc, hn, c0, c1, c2, c3, c4, c5⟩ := kids_at l g o h j hj
  exact ⟨_, _, _, _, _, _, _, _, _, _, hn, c0, c1, c2, c3, c4, c5⟩
theorem NBox.drew {w : World} {X : Nat} {v0 v1 v2 v3 v4 v5 : Value} (h : NBox w X v0 v1 v2 v3 v4 v5) : NBox w.drew X v0 v1 v2 v3 v4 v5 := h
theorem NBox.below {w w' : World} {X : Nat} {v0 v1 v2 v3 v4 v5 : Value} (h : NBox w X v0 v1 v2 v3 v4 v5) (hb : Below w.heap.size w w') : NBox w' X v0 v1 v2 v3 v4 v5 :=
  (hb.block X (Array.getElem?_eq_some_iff.1 h).1).trans h
theorem NBox.drewN {w : World} {X : Nat} {v0 v1 v2 v3 v4 v5 : Value} (h : NBox w X v0 v1 v2 v3 v4 v5) (k : Nat) : NBox (w.drewN k) X v0 v1 v2 v3 v4 v5 := h
theorem below_drewN {n : Nat} {a w : World} (h : Below n a w) (k : Nat) : Below n a (w.drewN k) := ⟨h.os, h.tape, h.output, h.size, h.block⟩
end Go.Proofs.Ytfmoidhpafpgnaa
