/- Package matcher: the row of the states that were tried. -/
import Derived.Test.YtfkgicakiapmaaaMtVa
import Derived.Test.YtfkgicakiapmaaaZeros
namespace Go.Proofs.Ytfkgicakiapmaaa
open Go.RowKit

theorem row_setc {b : Nat} {e : TypeId} {g n cap : Nat} {xs : List Value} {w : World} (h : w.ownsRow b e 1 (.slice (some ⟨g, 0, none⟩) n cap) n xs) (i : Nat) (u : Value) : (w.setCell ⟨g, i, none⟩ u).ownsRow b e 1 (.slice (some ⟨g, 0, none⟩) n cap) n (xs.set i u) := by
  obtain ⟨h1, h2⟩ := h
  rcases h2 with ⟨q, -⟩ | ⟨g', cap', cur, q1, q2, q3, q4, q5, q6, q7⟩
  · cases q
  · cases q1
    refine ⟨by rw [List.length_set]; exact h1, .inr ⟨g, cap, _, rfl, q2, heap_setCell_blk u q3, q4, q5, by rw [Array.size_setIfInBounds]; exact q6, ?_⟩⟩
    rw [Array.toList_setIfInBounds, List.take_set, q7]
theorem row_someM {base : Nat} {e : TypeId} {size : Nat} {v : Value} {n : Nat} {xs : List Value} {w : World} (h : w.ownsRow base e size v n xs) (h0 : 0 < n) : ∃ g cap, v = .slice (some ⟨g, 0, none⟩) n cap ∧ base ≤ g ∧ g < w.heap.size ∧ n ≤ cap ∧ cap ≤ maxLen := by
  rcases row_form h with ⟨-, h2⟩ | q
  · omega
  · exact q
/-- The words of the tried states. -/
def trW (m : Nat) (f : Nat → Nat) : List Value := (List.range m).map fun k => .int .u64 (f k : Int)
theorem trW_len (m : Nat) (f : Nat → Nat) : (trW m f).length = m := by simp [trW]
theorem trW_get (m : Nat) (f : Nat → Nat) (k : Nat) (h : k < m) : (trW m f)[k]? = some (.int .u64 (f k : Int)) := by simp [trW, h]
theorem trW_set (m : Nat) (f : Nat → Nat) (k x : Nat) : (trW m f).set k (.int .u64 (x : Int)) = trW m fun j => if j = k then x else f j := by
  apply List.ext_getElem
  · simp [trW]
  · intro j h1 h2
    rw [List.getElem_set]
    by_cases e : k = j
    · simp [trW, e]
    · simp [trW, e, Ne.symm e]
theorem trW_app (m k : Nat) (f : Nat → Nat) (hf : ∀ j, m ≤ j → f j = 0) : trW m f ++ (Builtin.zeroCells (Value.int .u64 0).cells k).toList = trW (m + k) f := by
  apply List.ext_getElem
  · simp [trW, Builtin.zeroCells, Value.cells]
  · intro j h1 h2
    have h3 : j < m + k := by simpa [trW] using h2
    rw [List.getElem_append]
    split
    · simp [trW]
    · rename_i h4
      have h5 : m ≤ j := by simpa [trW] using h4
      simp [trW, Builtin.zeroCells, Value.cells, hf j h5, Nat.mod_one]
def TrAt (base : Nat) (tv : Value) (f : Nat → Nat) (w : World) : Prop := ∃ m, w.ownsRow base 90 1 tv m (trW m f) ∧ (∀ j, m ≤ j → f j = 0) ∧ (∀ j, f j < 18446744073709551616) ∧ m ≤ 1000000
def hasT (f : Nat → Nat) (num : Nat) : Bool := (f (num / 64)).testBit (num % 64)
def putT (f : Nat → Nat) (num : Nat) : Nat → Nat := fun j => if j = num / 64 then f j ||| 2 ^ (num % 64) else f j
theorem ChP.setNew {P : Nat → Prop} {a w : World} (h : ChP P a w) (b k : Nat) (u : Value) (hb : P b ∨ a.heap.size ≤ b) : ChP P a (w.setCell ⟨b, k, none⟩ u) :=
  ⟨h.os, h.tape, h.output, by simpa [World.setCell] using h.size, fun i hi hn => (Below.heap_setCell w ⟨b, k, none⟩ u i (by rintro rfl; rcases hb with q | q; exact hn q; omega)).trans (h.block i hi hn)⟩
theorem infoU64 : (Try.prog.info? 90).map (fun i => (i.zero, i.size, i.bytes)) = some (some (.int .u64 0), 1, 8) := by kernel_rfl
theorem wpList_zeros {w : World} {ops : Array Oper} {rest : List Oper} {o : Oper} {a : Act} {Q : Exit → Act → World → Prop} (hgd : o.guard = none) (s x : Operand)
    (ho : o.op = .call { callee := .builtin .append, args := #[s, x], argTypes := #[118, 3] })
    {base n : Nat} {v : Value} {f : Nat → Nat} (hs : a.eval s = v) (hown : w.ownsRow base 90 1 v n (trW n f)) (hf : ∀ j, n ≤ j → f j = 0) (k : Nat) (hx : a.eval x = .int .i64 (k : Int)) (h0 : 0 < k) (hl : n + k ≤ 1000000) (hb : base ≤ w.heap.size)
    (h : ∀ v' w', w'.ownsRow base 90 1 v' (n + k) (trW (n + k) f) → w.grownBy w' v.ownBlock → (v'.ownBlock = v.ownBlock ∨ v'.ownBlock = some w.heap.size) → wpList Try.prog ops Q rest (a.put o.dst v') w') : wpList Try.prog ops Q (o :: rest) a w := by
  obtain ⟨i, hi, hz, hs1, hs2⟩ := info_parts infoU64
  obtain ⟨v', w', hr, h1, h2, h3⟩ := run_append_zeros_own (P := Try.prog) w base 118 3 o.type 90 i (.int .u64 0) .i64 1 8 Try.underlying118 Try.underlying3 hi hz hs1 hs2 rfl (by decide) v n (trW n f) hown k h0
    (fun u hu => by
      simp only [Builtin.zeroCells, Value.cells] at hu
      simp at hu
      obtain ⟨_, -, rfl⟩ := hu
      rw [Nat.mod_one]; rfl) (by simp only [maxLen]; omega) (by omega) hb
  rw [trW_app n k f hf] at h1
  exact Lib.wpList_append_run w hgd s x 118 3 ho v (.int .i64 (k : Int)) hs hx v' w' hr (h v' w' h1 h2 h3)
end Go.Proofs.Ytfkgicakiapmaaa
