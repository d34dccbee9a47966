/- Bytes that are read alone, anywhere. -/
import Derived.Test.YtbpboghjgbgjfaaFsV
import Derived.Test.YtbpboghjgbgjfaaFsA
namespace Go.Proofs.Ytbpboghjgbgjfaa
open Go.RowKit

/-- Bytes that are read alone, anywhere. -/
def BySl (w : World) (v : Value) (l : List UInt8) : Prop := ∃ (a : Option Addr) (c : Nat), v = .slice a l.length c ∧ l.length ≤ c ∧ ∀ i (h : i < l.length), ∃ (g o : Nat), a = some ⟨g, o, none⟩ ∧ g < w.heap.size ∧ w.cell? ⟨g, o + i, none⟩ = some (.int .u8 (l[i].toNat : Int))
theorem BySl.below {w w' : World} {v : Value} {l : List UInt8} (h : BySl w v l) (k : Below w.heap.size w w') : BySl w' v l := by
  obtain ⟨a, c, rfl, h0, h⟩ := h
  refine ⟨a, c, rfl, h0, fun i hi => ?_⟩
  obtain ⟨g, o, h1, h2, h3⟩ := h i hi
  exact ⟨g, o, h1, Nat.lt_of_lt_of_le h2 k.size, (k.cell (p := ⟨g, o + i, none⟩) h2).trans h3⟩
theorem byS_arg {w : World} {v : Value} {l : List UInt8} (h : ArgB w w.heap.size v l) : BySl w v l := by
  rcases h with ⟨rfl, rfl⟩ | ⟨ad, cap, rfl, hlc, hc, hb⟩
  · exact ⟨none, 0, rfl, Nat.le_refl _, fun i h => by cases h⟩
  · refine ⟨some ad, cap, rfl, hlc, fun i hi => ?_⟩
    obtain ⟨bk, off, rfl, hbk⟩ := hb (by omega)
    refine ⟨bk, off, rfl, hbk, ?_⟩
    have := hc i (.int .u8 (l[i].toNat : Int)) (by simp [Lib.byteCells, hi])
    rw [← this]
    unfold Addr.add
    split
    · rename_i hz; rw [hz]; rfl
    · rfl
theorem byS_buf {w : World} {v : Value} {B : Nat} {l : List UInt8} (h : BufAt B w v (l.map fun b => Value.int .u8 (b.toNat : Int))) : BySl w v l := by
  obtain ⟨g, cap, h1, h2, h3, h4, h5, h6, -⟩ := h
  rw [List.length_map] at h1 h4
  exact ⟨_, cap, h1, h4, fun i hi => ⟨g, 0, rfl, h3, by rw [Nat.zero_add]; exact h6 i _ (by simp [hi])⟩⟩
/-- Bytes as cells. -/
def byV (l : List UInt8) : List Value := l.map fun b => Value.int .u8 (b.toNat : Int)
theorem byV_len (l : List UInt8) : (byV l).length = l.length := List.length_map ..
theorem byV_app (l m : List UInt8) : byV l ++ byV m = byV (l ++ m) := (List.map_append ..).symm
theorem byS_bufV {w : World} {v : Value} {B : Nat} {l : List UInt8} (h : BufAt B w v (byV l)) : BySl w v l := byS_buf h
theorem byS_nil (w : World) : BySl w (.slice none 0 0) [] := ⟨none, 0, rfl, Nat.le_refl _, fun i h => by cases h⟩
theorem BySl.slice {w : World} {v : Value} {l : List UInt8} (h : BySl w v l) : ∃ a c, v = .slice a l.length c ∧ l.length ≤ c := by
  obtain ⟨a, c, h1, h2, -⟩ := h; exact ⟨a, c, h1, h2⟩
/-- The first of some bytes. -/
theorem BySl.take {w : World} {a : Option Addr} {n c : Nat} {l : List UInt8} (h : BySl w (.slice a n c) l) (k : Nat) (hk : k ≤ l.length) (c2 : Nat) (hc : k ≤ c2) : BySl w (.slice a k c2) (l.take k) := by
  obtain ⟨a2, c3, h1, h2, h3⟩ := h
  cases h1
  have hl : (l.take k).length = k := by rw [List.length_take]; omega
  refine ⟨a, c2, by rw [hl], by omega, fun i hi => ?_⟩
  rw [hl] at hi
  obtain ⟨g, o, h4, h5, h6⟩ := h3 i (by omega)
  exact ⟨g, o, h4, h5, by rw [h6, List.getElem_take]⟩
end Go.Proofs.Ytbpboghjgbgjfaa
