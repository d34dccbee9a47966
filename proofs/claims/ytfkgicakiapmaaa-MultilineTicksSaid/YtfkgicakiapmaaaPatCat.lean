/- The contract of the parser's concat, where choice, brackets and bounds keep theirs. -/
import Derived.Test.YtfkgicakiapmaaaPatOwn
namespace Go.Proofs.Ytfkgicakiapmaaa
open Go.RowKit

def lenOf : Value → Nat | .slice _ n _ => n | _ => 0
def mPS (s : ByteArray) (p : PS) : Nat := if p.er = 0 then s.size - p.pos + 1 else 0
theorem mPS_lt {s : ByteArray} {p q : PS} (h : AdvS s p q) (he : p.er = 0) : mPS s q < mPS s p := by
  unfold mPS
  rw [if_pos he]
  by_cases hq : q.er = 0
  · rw [if_pos hq]; have := (h.er hq).2; have := h.le; omega
  · rw [if_neg hq]; omega
theorem kids_node (lo : Nat) (w : World) (op : Int) (ho : 0 ≤ op ∧ op ≤ 7) (l : List Nd) (hl : l.length ≤ maxLen) (b c : Nat) (hlo : lo ≤ b) (h : KidsIn lo w l b 0) :
    NodeIn lo w (ndKids op l) (.agg #[.int .i64 op, .slice none 0 0, .string ⟨#[]⟩, .slice (some ⟨b, 0, none⟩) l.length c, .int .i64 0, .int .i64 0]) := by
  unfold ndKids NodeIn
  exact ⟨_, some ⟨b, 0, none⟩, c, rfl, small64 (by omega), small64 (by omega), small64 (by omega), by simp [noName, maxLen, ByteArray.size], hl, no_ranges _ _, .inr ⟨b, 0, rfl, hlo, h⟩⟩
/-- The first of a slice of nodes, as it is read. -/
theorem OwnNodes.first {lo : Nat} {w : World} {v : Value} {t : Nd} {r : List Nd} (h : OwnNodes lo w v (t :: r)) :
    ∃ g c ra rc ka kc, v = .slice (some ⟨g, 0, none⟩) (r.length + 1) c ∧ NodeIn lo w t (.agg #[.int .i64 t.op, .slice ra t.rs.length rc, .string t.nm, .slice ka t.kids.length kc, .int .i64 t.mn, .int .i64 t.mx]) ∧
      w.cell? ⟨g, 0, none⟩ = some (.int .i64 t.op) ∧ w.cell? ⟨g, 1, none⟩ = some (.slice ra t.rs.length rc) ∧ w.cell? ⟨g, 2, none⟩ = some (.string t.nm) ∧ w.cell? ⟨g, 3, none⟩ = some (.slice ka t.kids.length kc) ∧ w.cell? ⟨g, 4, none⟩ = some (.int .i64 t.mn) ∧ w.cell? ⟨g, 5, none⟩ = some (.int .i64 t.mx) := by
  rcases h.kids with h0 | ⟨g, c, hv, -, hk⟩
  · cases h0
  · unfold KidsIn at hk
    obtain ⟨⟨op, rv, nm, kv, mn, mx, hn, c0, c1, c2, c3, c4, c5⟩, -⟩ := hk
    obtain ⟨ra, rc, ka, kc, hs⟩ := hn.shape
    unfold ndVals at hs
    simp only [Value.agg.injEq, Array.mk.injEq, List.cons.injEq, and_true] at hs
    obtain ⟨e0, rfl, e2, rfl, e4, e5⟩ := hs
    unfold ndVals at hn
    rw [e0, e2, e4, e5] at hn
    rw [e0] at c0
    rw [e2] at c2
    rw [e4] at c4
    rw [e5] at c5
    exact ⟨g, c, ra, rc, ka, kc, hv, hn, c0, c1, c2, c3, c4, c5⟩
theorem infoNode : (Try.prog.info? 27).map (fun i => (i.zero, i.size, i.bytes)) = some (some (.agg #[.int .i64 0, .slice none 0 0, .string ⟨#[]⟩, .slice none 0 0, .int .i64 0, .int .i64 0]), 6, 88) := by kernel_rfl

theorem Fr.own {B : Nat} {a w w' : World} {row : Option Nat} (h : Fr B a w) (k : w.grownBy w' row) (hr : ∀ b, row = some b → a.heap.size ≤ b) : Fr B a w' :=
  ⟨k.os.trans h.os, k.tape.trans h.tape, k.output.trans h.output, Nat.le_trans h.size k.size, fun i hi hn => (k.block i (Nat.lt_of_lt_of_le hi h.size) (fun e => by have := hr i e.symm; omega)).trans (h.block i hi hn)⟩
theorem OwnNodes.alloc {lo : Nat} {w : World} {v : Value} {l : List Nd} (h : OwnNodes lo w v l) (o : Obj) : OwnNodes lo (w.alloc o) v l := h.grown (World.grownBy_alloc w o none) (fun _ hb => by cases hb)
theorem OwnNodes.lt {lo : Nat} {w : World} {v : Value} {l : List Nd} (h : OwnNodes lo w v l) : ∀ g, v.ownBlock = some g → lo ≤ g ∧ g < w.heap.size := by
  obtain ⟨A, ho, -⟩ := h
  exact fun g hg => ho.lt g hg
theorem new_cells (w : World) (l : List Value) (t : TypeId) : ∀ j u, l[j]? = some u → (w.alloc (.cells l.toArray t)).cell? ((⟨w.heap.size, 0, none⟩ : Addr).add j) = some u := fun j u hj => by
  have e : (⟨w.heap.size, 0, none⟩ : Addr).add j = ⟨w.heap.size, j, none⟩ := by unfold Addr.add; split <;> simp_all
  rw [e, Lib.cell_of_heap (heap_alloc_new _ _)]
  simpa using hj

end Go.Proofs.Ytfkgicakiapmaaa
