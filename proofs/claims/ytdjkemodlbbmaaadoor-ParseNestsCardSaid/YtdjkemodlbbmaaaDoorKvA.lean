/- Fields as they lie in memory, and what slices read as fields. -/
import Derived.Test.YtdjkemodlbbmaaaDoorProg
import Derived.WalkKit
import Derived.ProofKit
import Derived.Below
import Derived.Laws.OwnMore
import Derived.OwnWalk
import Derived.Lib.Hide
namespace Go.Proofs.YtdjkemodlbbmaaaDoor
open Go.RowKit

abbrev FldV := ByteArray × ByteArray
def encL : List FldV → List Value
  | [] => []
  | p :: r => .string p.1 :: .string p.2 :: encL r
theorem encL_len : ∀ L : List FldV, (encL L).length = L.length * 2
  | [] => rfl
  | p :: r => by simp only [encL, List.length_cons, encL_len r]; omega
theorem encL_app : ∀ A B : List FldV, encL (A ++ B) = encL A ++ encL B
  | [], B => rfl
  | p :: r, B => by simp only [List.cons_append, encL, encL_app r B]
theorem encL_get : ∀ {L : List FldV} {i : Nat} (h : i < L.length), (encL L)[i * 2]? = some (.string L[i].1) ∧ (encL L)[i * 2 + 1]? = some (.string L[i].2)
  | [], i, h => by simp at h
  | p :: r, 0, _ => ⟨rfl, rfl⟩
  | p :: r, i + 1, h => by
    have ih := encL_get (L := r) (i := i) (by simpa using h)
    rw [show (i + 1) * 2 = i * 2 + 1 + 1 by omega]
    simpa [encL] using ih
theorem encL_one : ∀ (L : List FldV), ∀ u ∈ encL L, u.oneCell' = true
  | [], u, h => by simp [encL] at h
  | p :: r, u, h => by
    simp only [encL, List.mem_cons] at h
    rcases h with rfl | rfl | h
    · rfl
    · rfl
    · exact encL_one r u h
/-- A slice that shows these fields, in memory that there is. -/
def FsI (w : World) (v : Value) (L : List FldV) : Prop :=
  (L = [] ∧ ∃ a c, v = .slice a 0 c) ∨ ∃ g o c, v = .slice (some ⟨g, o, none⟩) L.length c ∧ g < w.heap.size ∧ L.length ≤ c ∧ c ≤ maxLen ∧ ∀ i (h : i < L.length), w.cell? ⟨g, o + i * 2, none⟩ = some (.string L[i].1) ∧ w.cell? ⟨g, o + i * 2 + 1, none⟩ = some (.string L[i].2)
/-- A row of the call's own. -/
def FsR (base : Nat) (w : World) (v : Value) (L : List FldV) : Prop := w.ownsRow base 31 2 v L.length (encL L)
theorem FsI.below {w w' : World} {v : Value} {L : List FldV} (h : FsI w v L) (k : Below w.heap.size w w') : FsI w' v L := by
  rcases h with h | ⟨g, o, c, hv, hg, h1, h2, h3⟩
  · exact .inl h
  · exact .inr ⟨g, o, c, hv, Nat.lt_of_lt_of_le hg k.size, h1, h2, fun i hi => ⟨(k.cell (p := ⟨g, _, none⟩) hg).trans (h3 i hi).1, (k.cell (p := ⟨g, _, none⟩) hg).trans (h3 i hi).2⟩⟩
theorem rowf_below {base : Nat} {e : TypeId} {size : Nat} {v : Value} {n : Nat} {xs : List Value} {w w' : World} (h : w.ownsRow base e size v n xs) (k : Below w.heap.size w w') : w'.ownsRow base e size v n xs := by
  refine h.kept (row := none) ⟨k.os, k.tape, k.output, k.size, fun i hi _ => k.block i hi⟩ ?_
  cases hv : v.ownBlock with
  | none => exact .inl rfl
  | some g => exact .inr (by simp)
theorem FsR.below {base : Nat} {w w' : World} {v : Value} {L : List FldV} (h : FsR base w v L) (k : Below w.heap.size w w') : FsR base w' v L := rowf_below h k
theorem rowf_form {base : Nat} {e : TypeId} {size : Nat} {v : Value} {n : Nat} {xs : List Value} {w : World} (h : w.ownsRow base e size v n xs) :
    (v = .slice none 0 0 ∧ n = 0) ∨ ∃ g cap, v = .slice (some ⟨g, 0, none⟩) n cap ∧ base ≤ g ∧ g < w.heap.size ∧ n ≤ cap ∧ cap ≤ maxLen := by
  rcases h.2 with q | ⟨g, cap, cur, q1, q2, q3, q4, q5, q6⟩
  · exact .inl q
  · exact .inr ⟨g, cap, q1, q2, (Array.getElem?_eq_some_iff.1 q3).1, q4, q5⟩
theorem FsR.cells {base g cap : Nat} {w : World} {L : List FldV} (h : FsR base w (.slice (some ⟨g, 0, none⟩) L.length cap) L) {i : Nat} (hi : i < L.length) : w.cell? ⟨g, i * 2, none⟩ = some (.string L[i].1) ∧ w.cell? ⟨g, i * 2 + 1, none⟩ = some (.string L[i].2) := by
  have e := encL_get hi
  exact ⟨(World.ownsRow.cellAt h (i * 2) (by omega)).trans e.1, (World.ownsRow.cellAt h (i * 2 + 1) (by omega)).trans e.2⟩
theorem FsR.shows {base : Nat} {w : World} {v : Value} {L : List FldV} (h : FsR base w v L) : FsI w v L := by
  rcases rowf_form h with ⟨rfl, h0⟩ | ⟨g, cap, rfl, -, hg, h1, h2⟩
  · exact .inl ⟨List.eq_nil_of_length_eq_zero h0, _, _, rfl⟩
  · refine .inr ⟨g, 0, cap, rfl, hg, h1, h2, fun i hi => ?_⟩
    rw [Nat.zero_add]
    exact FsR.cells h hi
theorem FsR.nil (base : Nat) (w : World) : FsR base w (.slice none 0 0) [] := World.ownsRow_nil _ _ _ _
theorem bel_new (w : World) (o : Obj) : Below w.heap.size w (w.alloc o) := (Below.refl _ _).alloc (Nat.le_refl _) o
theorem bel_trans {a b c : World} (h : Below a.heap.size a b) (k : Below b.heap.size b c) : Below a.heap.size a c := h.trans (k.mono h.size)
end Go.Proofs.YtdjkemodlbbmaaaDoor
