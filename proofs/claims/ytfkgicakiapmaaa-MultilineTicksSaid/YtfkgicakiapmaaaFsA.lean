/- How a directory lies in memory: rows of names, of files, of inodes. -/
import Derived.Test.YtfkgicakiapmaaaGfr
import Derived.Laws.OwnMore
import Derived.OwnWalk
import Derived.Below
namespace Go.Proofs.Ytfkgicakiapmaaa
open Go.RowKit

/-- A file as its five values; the bytes as the slice that holds them. -/
structure FileV where
  ino : Int
  dv : Value
  cp : Bool
  wh : Bool
  lf : Int
abbrev NameV := ByteArray × Int
def encN : List NameV → List Value
  | [] => []
  | p :: r => .string p.1 :: .int .i64 p.2 :: encN r
def FileV.cs (x : FileV) : List Value := [.int .i64 x.ino, x.dv, .bool x.cp, .bool x.wh, .int .i64 x.lf]
def encF : List FileV → List Value
  | [] => []
  | x :: r => .int .i64 x.ino :: x.dv :: .bool x.cp :: .bool x.wh :: .int .i64 x.lf :: encF r
def encI (l : List Int) : List Value := l.map (Value.int .i64)
theorem encN_len : ∀ L : List NameV, (encN L).length = L.length * 2
  | [] => rfl
  | p :: r => by simp only [encN, List.length_cons, encN_len r]; omega
theorem encF_len : ∀ L : List FileV, (encF L).length = L.length * 5
  | [] => rfl
  | p :: r => by simp only [encF, List.length_cons, encF_len r]; omega
theorem encI_len (L : List Int) : (encI L).length = L.length * 1 := by simp [encI]
theorem encN_app : ∀ A B : List NameV, encN (A ++ B) = encN A ++ encN B
  | [], B => rfl
  | p :: r, B => by simp only [List.cons_append, encN, encN_app r B]
theorem encF_app : ∀ A B : List FileV, encF (A ++ B) = encF A ++ encF B
  | [], B => rfl
  | p :: r, B => by simp only [List.cons_append, encF, encF_app r B]
theorem encN_get : ∀ {L : List NameV} {i : Nat} (h : i < L.length), (encN L)[i * 2]? = some (.string L[i].1) ∧ (encN L)[i * 2 + 1]? = some (.int .i64 L[i].2)
  | [], i, h => by simp at h
  | p :: r, 0, _ => ⟨rfl, rfl⟩
  | p :: r, i + 1, h => by
    have ih := encN_get (L := r) (i := i) (by simpa using h)
    rw [show (i + 1) * 2 = i * 2 + 1 + 1 by omega]
    simpa [encN] using ih
theorem encF_get : ∀ {L : List FileV} {i : Nat} (h : i < L.length), (encF L)[i * 5]? = some (.int .i64 L[i].ino) ∧ (encF L)[i * 5 + 1]? = some L[i].dv ∧ (encF L)[i * 5 + 2]? = some (.bool L[i].cp) ∧ (encF L)[i * 5 + 3]? = some (.bool L[i].wh) ∧ (encF L)[i * 5 + 4]? = some (.int .i64 L[i].lf)
  | [], i, h => by simp at h
  | p :: r, 0, _ => ⟨rfl, rfl, rfl, rfl, rfl⟩
  | p :: r, i + 1, h => by
    have ih := encF_get (L := r) (i := i) (by simpa using h)
    rw [show (i + 1) * 5 = i * 5 + 1 + 1 + 1 + 1 + 1 by omega]
    simpa [encF] using ih
theorem encI_get {L : List Int} {i : Nat} (h : i < L.length) : (encI L)[i]? = some (.int .i64 L[i]) := by simp [encI, h]
theorem encN_one : ∀ (L : List NameV), ∀ u ∈ encN L, u.oneCell' = true
  | [], u, h => by simp [encN] at h
  | p :: r, u, h => by
    simp only [encN, List.mem_cons] at h
    rcases h with rfl | rfl | h
    · rfl
    · rfl
    · exact encN_one r u h
/-- The bytes' slices are slices. -/
def Slices (L : List FileV) : Prop := ∀ x ∈ L, x.dv.oneCell' = true
theorem encF_one : ∀ (L : List FileV), Slices L → ∀ u ∈ encF L, u.oneCell' = true
  | [], _, u, h => by simp [encF] at h
  | p :: r, hs, u, h => by
    simp only [encF, List.mem_cons] at h
    rcases h with rfl | rfl | rfl | rfl | rfl | h
    · rfl
    · exact hs p (by simp)
    · rfl
    · rfl
    · rfl
    · exact encF_one r (fun x hx => hs x (by simp [hx])) u h
def InR (base : Nat) (w : World) (v : Value) (L : List Int) : Prop := w.ownsRow base 3 1 v L.length (encI L)
theorem row_below {base : Nat} {e : TypeId} {size : Nat} {v : Value} {n : Nat} {xs : List Value} {w w' : World} (h : w.ownsRow base e size v n xs) (k : Below w.heap.size w w') : w'.ownsRow base e size v n xs := by
  refine h.kept (row := none) ⟨k.os, k.tape, k.output, k.size, fun i hi _ => k.block i hi⟩ ?_
  cases hv : v.ownBlock with
  | none => exact .inl rfl
  | some g => exact .inr (by simp)
theorem row_grown {base : Nat} {e : TypeId} {size : Nat} {v : Value} {n : Nat} {xs : List Value} {w w' : World} {B : Nat} (h : w.ownsRow base e size v n xs) (k : GFr B w w') (hB : B < base) : w'.ownsRow base e size v n xs := by
  refine h.kept k ?_
  cases hv : v.ownBlock with
  | none => exact .inl rfl
  | some g => exact .inr (fun q => by have := (h.lt g hv).1; have := Option.some.inj q; omega)
theorem row_base {base b2 : Nat} {e : TypeId} {size : Nat} {v : Value} {n : Nat} {xs : List Value} {w : World} (h : w.ownsRow base e size v n xs) (k : b2 ≤ base) : w.ownsRow b2 e size v n xs := by
  refine ⟨h.1, ?_⟩
  rcases h.2 with q | ⟨g, cap, cur, q1, q2, q3⟩
  · exact .inl q
  · exact .inr ⟨g, cap, cur, q1, by omega, q3⟩
/-- The forms of a row: nil, or the head of a block. -/
theorem row_form {base : Nat} {e : TypeId} {size : Nat} {v : Value} {n : Nat} {xs : List Value} {w : World} (h : w.ownsRow base e size v n xs) :
    (v = .slice none 0 0 ∧ n = 0) ∨ ∃ g cap, v = .slice (some ⟨g, 0, none⟩) n cap ∧ base ≤ g ∧ g < w.heap.size ∧ n ≤ cap ∧ cap ≤ maxLen := by
  rcases h.2 with q | ⟨g, cap, cur, q1, q2, q3, q4, q5, q6⟩
  · exact .inl q
  · exact .inr ⟨g, cap, q1, q2, (Array.getElem?_eq_some_iff.1 q3).1, q4, q5⟩
theorem InR.cells {base g cap : Nat} {w : World} {L : List Int} (h : InR base w (.slice (some ⟨g, 0, none⟩) L.length cap) L) {i : Nat} (hi : i < L.length) : w.cell? ⟨g, i, none⟩ = some (.int .i64 L[i]) :=
  (World.ownsRow.cellAt h i (by omega)).trans (encI_get hi)
theorem row_slice {base : Nat} {e : TypeId} {size : Nat} {v : Value} {n : Nat} {xs : List Value} {w : World} (h : w.ownsRow base e size v n xs) : ∃ a m c, v = .slice a m c := by
  rcases row_form h with ⟨rfl, -⟩ | ⟨b, cap, rfl, -⟩
  · exact ⟨_, _, _, rfl⟩
  · exact ⟨_, _, _, rfl⟩
theorem bl_trans' {a b c : World} (h : Below a.heap.size a b) (k : Below b.heap.size b c) : Below a.heap.size a c := h.trans (k.mono h.size)
theorem below_new (w : World) (o : Obj) : Below w.heap.size w (w.alloc o) := (Below.refl _ _).alloc (Nat.le_refl _) o
end Go.Proofs.Ytfkgicakiapmaaa
