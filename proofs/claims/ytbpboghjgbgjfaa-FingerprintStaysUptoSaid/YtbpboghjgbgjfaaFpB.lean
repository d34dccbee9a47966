/- Consistent, at any contents: by a map from numbers to contents. -/
import Derived.Test.YtbpboghjgbgjfaaFpA
import Derived.Test.YtbpboghjgbgjfaaShelf
import Derived.Lib.Bytes
import Derived.Shelf.Bytes.SlSmallAll
import Derived.Maps.Own
import Derived.Maps.Views
import Derived.Maps.OwnOps
namespace Go.Proofs.Ytbpboghjgbgjfaa
open Go.RowKit Go.Maps Go.ChangeMaps

abbrev HV := Value
/-- An element of a map, as it stands. -/
def heldR (v : Value) : Option (DataW HV × List MemPlace) := some (.held v, [])
theorem law3 : Keyed Try.prog 3 := int_keyed Try.underlying3
theorem zeroB (w : World) : (zeroValue 22).run Try.prog w = .ok (.slice none 0 0) w := by kernel_rfl
def nums (l : List UInt8) : List Int := l.map fun b => (b.toNat : Int)
theorem nums_back (l : List UInt8) : Lib.bytesOf (nums l) = l := by
  unfold Lib.bytesOf nums
  rw [List.map_map]
  have e : ((fun n : Int => UInt8.ofNat n.toNat) ∘ fun b : UInt8 => (b.toNat : Int)) = id := by
    funext b; simp
  rw [e, List.map_id]
theorem bytesIn {w : World} {a : Option Addr} {n c : Nat} {l : List UInt8} (h : BySl w (.slice a n c) l) : Lib.BytesIn w a n (nums l) := fun hn => by
  obtain ⟨a2, c2, h1, h2, h3⟩ := h
  cases h1
  obtain ⟨g, o, h4, h5, h6⟩ := h3 0 hn
  refine ⟨g, o, h4, fun i hi => ?_⟩
  obtain ⟨g2, o2, h7, h8, h9⟩ := h3 i hi
  rw [h4] at h7
  cases h7
  rw [h9]
  simp [nums, hi]
def updM (m : Int → List UInt8) (h : Int) (l : List UInt8) : Int → List UInt8 := fun x => if x = h then l else m x
/-- What Consistent answers: the longest contents so far, number by number. -/
def consM (k : Nat) : List (List UInt8) → (Int → List UInt8) → Bool
  | [], _ => true
  | l :: r, m => if l.length < k then consM k r m else
      if l.length < (m (numK l k)).length then (if l.isPrefixOf (m (numK l k)) then consM k r (updM m (numK l k) (m (numK l k))) else false)
      else (if (m (numK l k)).isPrefixOf l then consM k r (updM m (numK l k) l) else false)
/-- The map in memory. -/
structure MapAt (B n : Nat) (m : Int → List UInt8) (w : World) (D : DataW HV) : Prop where
  own : w.ownsMap Try.prog 3 heldR B n D
  isM : IsMap D
  at' : ∀ h : Int, ∃ v, D.atKey (.int .i64 h) (.held (.slice none 0 0)) = .held v ∧ BySl w v (m h)
theorem MapAt.below {B n : Nat} {m : Int → List UInt8} {w w' : World} {D : DataW HV} (h : MapAt B n m w D) (k : Below w.heap.size w w') : MapAt B n m w' D :=
  ⟨h.own.kept (row := none) ⟨k.os, k.tape, k.output, k.size, fun i hi _ => k.block i hi⟩ (by simp), h.isM, fun x => by obtain ⟨v, h1, h2⟩ := h.at' x; exact ⟨v, h1, h2.below k⟩⟩
theorem mapAt_new (w : World) : MapAt w.heap.size 0 (fun _ => []) (w.alloc (.map #[] 0)) (.map []) :=
  ⟨World.ownsMap_made _ _ _ _, isMap_empty, fun _ => ⟨_, rfl, byS_nil _⟩⟩
theorem cell_map {B : Nat} {w w' : World} (hg : w.grownBy w' (some B)) (hb : ∃ es ck, w.heap[B]? = some (.map es ck)) {g o : Nat} {u : Value} (h : w.cell? ⟨g, o, none⟩ = some u) : w'.cell? ⟨g, o, none⟩ = some u := by
  have hne : g ≠ B := fun e => by
    subst e
    obtain ⟨es, ck, hb⟩ := hb
    simp [World.cell?, hb] at h
  have hlt : g < w.heap.size := by
    rcases Nat.lt_or_ge g w.heap.size with h' | h'
    · exact h'
    · simp [World.cell?, Array.getElem?_eq_none h'] at h
  rw [World.cell?_of_block (a := ⟨g, o, none⟩) (World.grownBy.block hg g hlt (by simpa using hne))]
  exact h
theorem BySl.mapped {B : Nat} {w w' : World} {v : Value} {l : List UInt8} (h : BySl w v l) (hg : w.grownBy w' (some B)) (hb : ∃ es ck, w.heap[B]? = some (.map es ck)) : BySl w' v l := by
  obtain ⟨a, c, rfl, h0, h⟩ := h
  refine ⟨a, c, rfl, h0, fun i hi => ?_⟩
  obtain ⟨g, o, h1, h2, h3⟩ := h i hi
  exact ⟨g, o, h1, Nat.lt_of_lt_of_le h2 (World.grownBy.size hg), cell_map hg hb h3⟩
theorem MapAt.put {B n : Nat} {m : Int → List UInt8} {w w' : World} {D : DataW HV} {h : Int} {v : Value} {l : List UInt8} (hm : MapAt B n m w D) (hown : w'.ownsMap Try.prog 3 heldR B (n + 1) (D.put (.int .i64 h) (.held v))) (hg : w.grownBy w' (some B)) (hv : BySl w v l) : MapAt B (n + 1) (updM m h l) w' (D.put (.int .i64 h) (.held v)) := by
  have hb : ∃ es ck, w.heap[B]? = some (.map es ck) := by obtain ⟨es, ck, hb, -⟩ := hm.own; exact ⟨es, ck, hb⟩
  refine ⟨hown, hm.isM.put _ _, fun x => ?_⟩
  by_cases e : x = h
  · subst e
    refine ⟨v, atKey_put_same hm.isM (show WideAt.IsKeyLit (.int .i64 x) from trivial) _ _, ?_⟩
    unfold updM; rw [if_pos rfl]
    exact hv.mapped hg hb
  · obtain ⟨u, h1, h2⟩ := hm.at' x
    refine ⟨u, ?_, ?_⟩
    · rw [atKey_put_other (fun q => e (by injection q))]; exact h1
    · unfold updM; rw [if_neg e]
      exact h2.mapped hg hb
/-- The contents, in a row of slices. -/
def FilesAt (w : World) (g : Nat) (ls : List (List UInt8)) : Prop := ∀ i (h : i < ls.length), ∃ v, w.cell? ⟨g, i, none⟩ = some v ∧ BySl w v ls[i] ∧ g < w.heap.size
theorem FilesAt.below {w w' : World} {g : Nat} {ls : List (List UInt8)} (h : FilesAt w g ls) (k : Below w.heap.size w w') : FilesAt w' g ls := fun i hi => by
  obtain ⟨v, h1, h2, h3⟩ := h i hi
  exact ⟨v, (k.cell (p := ⟨g, i, none⟩) h3).trans h1, h2.below k, Nat.lt_of_lt_of_le h3 k.size⟩
theorem FilesAt.mapped {B : Nat} {w w' : World} {g : Nat} {ls : List (List UInt8)} (h : FilesAt w g ls) (hg : w.grownBy w' (some B)) (hb : ∃ es ck, w.heap[B]? = some (.map es ck)) : FilesAt w' g ls := fun i hi => by
  obtain ⟨v, h1, h2, h3⟩ := h i hi
  exact ⟨v, cell_map hg hb h1, h2.mapped hg hb, Nat.lt_of_lt_of_le h3 (World.grownBy.size hg)⟩
/-- What the loop keeps. -/
structure ConI (w : World) (g B : Nat) (ls : List (List UInt8)) (i : Nat) (m : Int → List UInt8) (D : DataW HV) (wr : World) : Prop where
  f : FilesAt wr g ls
  m : MapAt B i m wr D
  b : Below w.heap.size w wr
theorem ConI.skip {w wr : World} {g B i : Nat} {ls : List (List UInt8)} {m : Int → List UInt8} {D : DataW HV} (h : ConI w g B ls i m D wr) : ConI w g B ls (i + 1) m D wr := ⟨h.f, ⟨h.m.own.mono (Nat.le_succ _), h.m.isM, h.m.at'⟩, h.b⟩
theorem ConI.put {w wr w' : World} {g B i : Nat} {ls : List (List UInt8)} {m : Int → List UInt8} {D : DataW HV} {x : Int} {v : Value} {l : List UInt8} (h : ConI w g B ls i m D wr) (hB : w.heap.size ≤ B) (hown : w'.ownsMap Try.prog 3 heldR B (i + 1) (D.put (.int .i64 x) (.held v))) (hg : wr.grownBy w' (some B)) (hv : BySl wr v l) : ConI w g B ls (i + 1) (updM m x l) (D.put (.int .i64 x) (.held v)) w' := by
  have hb : ∃ es ck, wr.heap[B]? = some (.map es ck) := by obtain ⟨es, ck, hb, -⟩ := h.m.own; exact ⟨es, ck, hb⟩
  exact ⟨h.f.mapped hg hb, h.m.put hown hg hv, h.b.grown hg h.b.size (fun j hj => by cases hj; exact hB)⟩
theorem cons_drop (k : Nat) (ls : List (List UInt8)) (i : Nat) (h : i < ls.length) (m : Int → List UInt8) : consM k (ls.drop i) m = if (ls[i]).length < k then consM k (ls.drop (i + 1)) m else
      if (ls[i]).length < (m (numK ls[i] k)).length then (if (ls[i]).isPrefixOf (m (numK ls[i] k)) then consM k (ls.drop (i + 1)) (updM m (numK ls[i] k) (m (numK ls[i] k))) else false)
      else (if (m (numK ls[i] k)).isPrefixOf ls[i] then consM k (ls.drop (i + 1)) (updM m (numK ls[i] k) ls[i]) else false) := by
  rw [List.drop_eq_getElem_cons h]; rfl
end Go.Proofs.Ytbpboghjgbgjfaa
