/- The contract of the parser's parenthesis, where choice keeps its own. -/
import Derived.Test.YtfkgicakiapmaaaPatVb
import Derived.Deep.Heap
namespace Go.Proofs.Ytfkgicakiapmaaa
open Go.RowKit

theorem keeps_alloc (lo : Nat) (w : World) (o : Obj) : Keeps lo w (w.alloc o) := keeps_grown_none (World.grownBy_alloc w o none)
theorem one_kid (lo : Nat) (w : World) (k : Nd) (op : Int) (rv : Value) (nm : ByteArray) (kv : Value) (mn mx : Int) (t : TypeId) (h : NodeIn lo w k (.agg (ndVals op rv nm kv mn mx))) :
    KidsIn lo (w.alloc (.cells #[.int .i64 op, rv, .string nm, kv, .int .i64 mn, .int .i64 mx] t)) [k] w.heap.size 0 := by
  unfold KidsIn
  refine ⟨⟨op, rv, nm, kv, mn, mx, NodeIn.keeps (keeps_alloc lo w _) k _ h, ?_, ?_, ?_, ?_, ?_, ?_⟩, by unfold KidsIn; trivial⟩
  all_goals (rw [Lib.cell_of_heap (heap_alloc_new _ _)]; rfl)
theorem small64 {n : Int} (h : -9223372036854775808 ≤ n ∧ n ≤ 9223372036854775807) : i64In n := h

/-- A node as a struct of six. -/
theorem NodeIn.shape {lo : Nat} {w : World} {t : Nd} {v : Value} (h : NodeIn lo w t v) : ∃ ra rc ka kc, v = .agg #[.int .i64 t.op, .slice ra t.rs.length rc, .string t.nm, .slice ka t.kids.length kc, .int .i64 t.mn, .int .i64 t.mx] := by
  obtain ⟨op, rs, nm, kids, mn, mx⟩ := t
  unfold NodeIn at h
  obtain ⟨rv, ka, kc, hv, -, -, -, -, -, ⟨ra, rc, hr, -⟩, -⟩ := h
  exact ⟨ra, rc, ka, kc, by rw [hv, hr]; rfl⟩

theorem Fr.setNew {B : Nat} {a w : World} (h : Fr B a w) {p : Addr} (hp : a.heap.size ≤ p.block) (u : Value) : Fr B a (w.setCell p u) :=
  ⟨h.os, h.tape, h.output, by have := h.size; simpa [World.setCell] using this, fun i hi hn => (Below.heap_setCell w p u i (by omega)).trans (h.block i hi hn)⟩
theorem keeps_setCell {lo : Nat} {a w : World} (h : Keeps lo a w) {p : Addr} (hp : p.block < lo) (u : Value) : Keeps lo a (w.setCell p u) := fun b o v hl hc => by
  have := h b o v hl hc
  rw [← this]
  exact World.cell?_of_block (w := w) (Below.heap_setCell w p u b (by omega))
/-- A block of six cells. -/
def SixAt (w : World) (b : Nat) (v0 v1 v2 v3 v4 v5 : Value) : Prop := ∃ t, w.heap[b]? = some (.cells #[v0, v1, v2, v3, v4, v5] t (0, 0))
theorem SixAt.cells {w : World} {b : Nat} {v0 v1 v2 v3 v4 v5 : Value} (h : SixAt w b v0 v1 v2 v3 v4 v5) :
    w.cell? ⟨b, 0, none⟩ = some v0 ∧ w.cell? ⟨b, 1, none⟩ = some v1 ∧ w.cell? ⟨b, 2, none⟩ = some v2 ∧ w.cell? ⟨b, 3, none⟩ = some v3 ∧ w.cell? ⟨b, 4, none⟩ = some v4 ∧ w.cell? ⟨b, 5, none⟩ = some v5 := by
  obtain ⟨t, h⟩ := h
  refine ⟨?_, ?_, ?_, ?_, ?_, ?_⟩ <;> (rw [Lib.cell_of_heap h]; rfl)
theorem SixAt.free {w : World} {b : Nat} {v0 v1 v2 v3 v4 v5 : Value} (h : SixAt w b v0 v1 v2 v3 v4 v5) :
    w.frozen? ⟨b, 0, none⟩ = false ∧ w.frozen? ⟨b, 1, none⟩ = false ∧ w.frozen? ⟨b, 2, none⟩ = false ∧ w.frozen? ⟨b, 3, none⟩ = false ∧ w.frozen? ⟨b, 4, none⟩ = false ∧ w.frozen? ⟨b, 5, none⟩ = false := by
  obtain ⟨t, h⟩ := h
  exact ⟨Lib.frozen_of_heap h 0, Lib.frozen_of_heap h 1, Lib.frozen_of_heap h 2, Lib.frozen_of_heap h 3, Lib.frozen_of_heap h 4, Lib.frozen_of_heap h 5⟩
theorem SixAt.lt {w : World} {b : Nat} {v0 v1 v2 v3 v4 v5 : Value} (h : SixAt w b v0 v1 v2 v3 v4 v5) : b < w.heap.size := by
  obtain ⟨t, h⟩ := h
  exact (Array.getElem?_eq_some_iff.1 h).1
theorem SixAt.new (w : World) (v0 v1 v2 v3 v4 v5 : Value) (t : TypeId) : SixAt (w.alloc (.cells #[v0, v1, v2, v3, v4, v5] t)) w.heap.size v0 v1 v2 v3 v4 v5 := ⟨t, heap_alloc_new _ _⟩
theorem SixAt.fr {w w' : World} {b B : Nat} {v0 v1 v2 v3 v4 v5 : Value} (h : SixAt w b v0 v1 v2 v3 v4 v5) (k : Fr B w w') (hb : b ≠ B) : SixAt w' b v0 v1 v2 v3 v4 v5 := by
  have hlt := h.lt
  obtain ⟨t, h⟩ := h
  exact ⟨t, (World.grownBy.block k b hlt (by simpa using hb)).trans h⟩
/-- A struct of six stored. -/
def put6 (w : World) (R : Nat) (v0 v1 v2 v3 v4 v5 : Value) : World :=
  (((((w.setCell ⟨R, 0, none⟩ v0).setCell ⟨R, 1, none⟩ v1).setCell ⟨R, 2, none⟩ v2).setCell ⟨R, 3, none⟩ v3).setCell ⟨R, 4, none⟩ v4).setCell ⟨R, 5, none⟩ v5
theorem put6_fr {B R : Nat} {a w : World} (h : Fr B a w) (hp : a.heap.size ≤ R) (v0 v1 v2 v3 v4 v5 : Value) : Fr B a (put6 w R v0 v1 v2 v3 v4 v5) :=
  (((((h.setNew hp _).setNew hp _).setNew hp _).setNew hp _).setNew hp _).setNew hp _
theorem put6_keeps {lo R : Nat} {a w : World} (h : Keeps lo a w) (hp : R < lo) (v0 v1 v2 v3 v4 v5 : Value) : Keeps lo a (put6 w R v0 v1 v2 v3 v4 v5) :=
  keeps_setCell (keeps_setCell (keeps_setCell (keeps_setCell (keeps_setCell (keeps_setCell h hp _) hp _) hp _) hp _) hp _) hp _
theorem cap_node (lo : Nat) (w : World) (k : Nd) (nm : ByteArray) (op : Int) (rv : Value) (nn : ByteArray) (kv : Value) (mn mx : Int) (t : TypeId) (h : NodeIn lo w k (.agg (ndVals op rv nn kv mn mx))) (hlo : lo ≤ w.heap.size) (hn : nm.size ≤ maxLen) :
    NodeIn lo (w.alloc (.cells #[.int .i64 op, rv, .string nn, kv, .int .i64 mn, .int .i64 mx] t)) (ndCap nm k) (.agg #[.int .i64 5, .slice none 0 0, .string nm, .slice (some ⟨w.heap.size, 0, none⟩) 1 1, .int .i64 0, .int .i64 0]) := by
  unfold ndCap NodeIn
  exact ⟨.slice none 0 0, some ⟨w.heap.size, 0, none⟩, 1, rfl, small64 (by omega), small64 (by omega), small64 (by omega), hn, by simp [maxLen], no_ranges _ _, .inr ⟨w.heap.size, 0, rfl, hlo, one_kid lo w k op rv nn kv mn mx t h⟩⟩

end Go.Proofs.Ytfkgicakiapmaaa
