/- Package multiline: lines and blocks in memory; what an iterator of blocks and its rounds keep. -/
import Derived.Test.YtfkgicakiapmaaaBk
import Derived.RangeFuncNested
import Derived.RangeFuncLeaves
import Derived.Test.YtfkgicakiapmaaaProg
namespace Go.Proofs.Ytfkgicakiapmaaa
open Go.RowKit

/-- A line: its offset, its length, its text. -/
structure LnV where
  off : Int
  len : Int
  txt : ByteArray
/-- A block, as it is said. -/
structure PBk where
  fr : Int
  en : Int
  rule : ByteArray
  ls : List LnV
/-- A block in memory: the slice of its lines besides. -/
structure BkV where
  sl : Value
  p : PBk
def lnC (x : LnV) : List Value := [.int .i64 x.off, .int .i64 x.len, .string x.txt]
def lnsC (l : List LnV) : List Value := (l.map lnC).flatten
def bkC (x : BkV) : List Value := [.int .i64 x.p.fr, .int .i64 x.p.en, x.sl, .string x.p.rule]
def bkE (x : BkV) : Array Value := #[.agg #[.int .i64 x.p.fr, .int .i64 x.p.en, x.sl, .string x.p.rule]]
def bksC (l : List BkV) : List Value := (l.map bkC).flatten
def LnsAt (v : Value) (l : List LnV) (w : World) : Prop := w.ownsRow 0 46 3 v l.length (lnsC l)
/-- The assembler in block d. -/
def AsAt (d : Nat) (v : Value) (s : Int) (w : World) : Prop := BkAt d 65 #[v, .int .i64 s] w
def ElB (x : BkV) (w : World) : Prop := LnsAt x.sl x.p.ls w

/-- What a round leaves: blocks of cells of every type but two, and from n on whatever holds no cells. -/
structure KpB (n : Nat) (W W' : World) : Prop where
  os : W'.os = W.os
  tape : W'.tape = W.tape
  output : W'.output = W.output
  size : W.heap.size ≤ W'.heap.size
  typed : ∀ (k : Nat) (cs : Array Value) (T : TypeId) (fz : Nat × Nat), W.heap[k]? = some (Obj.cells cs T fz) → T ≠ 44 → T ≠ 36 → W'.heap[k]? = some (Obj.cells cs T fz)
  others : ∀ (k : Nat) (o : Obj), n ≤ k → W.heap[k]? = some o → o.isCells = false → W'.heap[k]? = some o
/-- What an iterator leaves: what lay below n but the blocks of PI, and the blocks of blocks. -/
structure ItP (n : Nat) (PI : Nat → Prop) (A B : World) : Prop where
  os : B.os = A.os
  tape : B.tape = A.tape
  output : B.output = A.output
  size : A.heap.size ≤ B.heap.size
  low : ∀ k : Nat, k < n → ¬ PI k → B.heap[k]? = A.heap[k]?
  rows : ∀ (k : Nat) (cs : Array Value) (fz : Nat × Nat), A.heap[k]? = some (Obj.cells cs 44 fz) → B.heap[k]? = some (Obj.cells cs 44 fz)

theorem lt_of_some {α : Type} {a : Array α} {k : Nat} {x : α} (h : a[k]? = some x) : k < a.size := (Array.getElem?_eq_some_iff.1 h).1
theorem KpB.refl (n : Nat) (W : World) : KpB n W W := ⟨rfl, rfl, rfl, Nat.le_refl _, fun _ _ _ _ h _ _ => h, fun _ _ _ h _ => h⟩
theorem KpB.trans {n : Nat} {A B C : World} (h : KpB n A B) (k : KpB n B C) : KpB n A C :=
  ⟨k.os.trans h.os, k.tape.trans h.tape, k.output.trans h.output, Nat.le_trans h.size k.size, fun i cs T fz hi h1 h2 => k.typed i cs T fz (h.typed i cs T fz hi h1 h2) h1 h2, fun i o hn hi ho => k.others i o hn (h.others i o hn hi ho) ho⟩
theorem KpB.mono {n m : Nat} {A B : World} (h : KpB n A B) (hm : n ≤ m) : KpB m A B := ⟨h.os, h.tape, h.output, h.size, h.typed, fun k o hk => h.others k o (Nat.le_trans hm hk)⟩
theorem KpB.ofBelow (n : Nat) {A B : World} (h : Below A.heap.size A B) : KpB n A B :=
  ⟨h.os, h.tape, h.output, h.size, fun k _ _ _ hk _ _ => (h.block k (lt_of_some hk)).trans hk, fun k _ _ hk _ => (h.block k (lt_of_some hk)).trans hk⟩
theorem KpB.below {n : Nat} {A B C : World} (h : KpB n A B) (k : Below B.heap.size B C) : KpB n A C := h.trans (KpB.ofBelow n k)
theorem KpB.alloc (n : Nat) (W : World) (o : Obj) : KpB n W (W.alloc o) := KpB.ofBelow n (below_new W o)
theorem KpB.drew (n : Nat) (W : World) : KpB n W W.drew := ⟨rfl, rfl, rfl, Nat.le_refl _, fun _ _ _ _ h _ _ => h, fun _ _ _ h _ => h⟩
theorem KpB.bk {n b : Nat} {T : TypeId} {cs : Array Value} {A B : World} (h : KpB n A B) (k : BkAt b T cs A) (h1 : T ≠ 44) (h2 : T ≠ 36) : BkAt b T cs B := h.typed b cs T (0, 0) k h1 h2
theorem KpB.box {n b : Nat} {T : TypeId} {v : Value} {A B : World} (h : KpB n A B) (k : Boxed A b T v) (h1 : T ≠ 44) (h2 : T ≠ 36) : Boxed B b T v := h.typed b _ T (0, 0) k h1 h2
theorem KpB.row {n base : Nat} {e : TypeId} {size m : Nat} {v : Value} {xs : List Value} {A B : World} (h : KpB n A B) (k : A.ownsRow base e size v m xs) (h1 : e ≠ 44) (h2 : e ≠ 36) : B.ownsRow base e size v m xs := by
  refine ⟨k.1, ?_⟩
  rcases k.2 with q | ⟨g, cap, cur, q1, q2, q3, q4, q5, q6⟩
  · exact .inl q
  · exact .inr ⟨g, cap, cur, q1, q2, h.typed g _ _ _ q3 h1 h2, q4, q5, q6⟩
theorem KpB.lns {n : Nat} {v : Value} {l : List LnV} {A B : World} (h : KpB n A B) (k : LnsAt v l A) : LnsAt v l B := h.row k (by decide) (by decide)
theorem LnsAt.below {v : Value} {l : List LnV} {A B : World} (h : LnsAt v l A) (k : Below A.heap.size A B) : LnsAt v l B := row_below h k
theorem KpB.putObj {n : Nat} {W : World} {l : Nat} {o : Obj} (o' : Obj) (h : W.heap[l]? = some o) (ho : o.isCells = false) (hl : l < n) : KpB n W (W.putObj l o') :=
  ⟨rfl, rfl, rfl, by simp, fun k cs T fz hk _ _ => by
    rw [World.putObj_heap_other (by rintro rfl; rw [h] at hk; cases hk; cases ho)]
    exact hk, fun k o2 hk h2 _ => by rw [World.putObj_heap_other (by omega)]; exact h2⟩
theorem KpB.setB {n : Nat} {W : World} {b : Nat} {u v : Value} (h : Boxed W b 36 u) : KpB n W (W.setCell ⟨b, 0, none⟩ v) := by
  refine ⟨rfl, rfl, rfl, by simp [World.setCell], fun k cs T fz hk h1 h2 => ?_, fun k o hk h1 h2 => ?_⟩
  · exact (Below.heap_setCell W ⟨b, 0, none⟩ v k (by rintro rfl; have h : W.heap[k]? = _ := h; rw [h] at hk; cases hk; exact h2 rfl)).trans hk
  · exact (Below.heap_setCell W ⟨b, 0, none⟩ v k (by rintro rfl; have h : W.heap[k]? = _ := h; rw [h] at h1; cases h1; cases h2)).trans h1
theorem KpB.grown {n : Nat} {W W' : World} {base m : Nat} {v : Value} {xs : List Value} (hr : W.ownsRow base 44 4 v m xs) (hg : W.grownBy W' v.ownBlock) : KpB n W W' := by
  have hne : ∀ (k : Nat) (o : Obj), W.heap[k]? = some o → (∀ (cs : Array Value) (fz : Nat × Nat), o ≠ Obj.cells cs 44 fz) → W'.heap[k]? = some o := fun k o hk ho => by
    refine (hg.block k (lt_of_some hk) (fun e => ?_)).trans hk
    obtain ⟨cur, fz, h1, -⟩ := row_type hr (g := k) e.symm
    rw [h1] at hk
    cases hk
    exact ho _ _ rfl
  exact ⟨hg.os, hg.tape, hg.output, hg.size, fun k cs T fz hk h1 _ => hne k _ hk (fun cs' fz' e => by cases e; exact h1 rfl), fun k o _ hk ho => hne k _ hk (fun cs' fz' e => by subst e; cases ho)⟩

theorem ItP.refl (n : Nat) (PI : Nat → Prop) (A : World) : ItP n PI A A := ⟨rfl, rfl, rfl, Nat.le_refl _, fun _ _ _ => rfl, fun _ _ _ h => h⟩
theorem ItP.trans {n : Nat} {PI : Nat → Prop} {A B C : World} (h : ItP n PI A B) (k : ItP n PI B C) : ItP n PI A C :=
  ⟨k.os.trans h.os, k.tape.trans h.tape, k.output.trans h.output, Nat.le_trans h.size k.size, fun i hi hp => (k.low i hi hp).trans (h.low i hi hp), fun i cs fz hi => k.rows i cs fz (h.rows i cs fz hi)⟩
theorem ItP.ofBelow (n : Nat) (PI : Nat → Prop) {A B : World} (hn : n ≤ A.heap.size) (h : Below A.heap.size A B) : ItP n PI A B :=
  ⟨h.os, h.tape, h.output, h.size, fun k hk _ => h.block k (by omega), fun k _ _ hk => (h.block k (lt_of_some hk)).trans hk⟩
theorem ItP.below {n : Nat} {PI : Nat → Prop} {A B C : World} (h : ItP n PI A B) (hn : n ≤ A.heap.size) (k : Below B.heap.size B C) : ItP n PI A C :=
  h.trans (ItP.ofBelow n PI (Nat.le_trans hn h.size) k)
theorem ItP.setA {n : Nat} {PI : Nat → Prop} {W : World} {b j : Nat} {T : TypeId} {cs : Array Value} {v : Value} (h : BkAt b T cs W) (hT : T ≠ 44) (hb : PI b ∨ n ≤ b) : ItP n PI W (W.setCell ⟨b, j, none⟩ v) :=
  ⟨rfl, rfl, rfl, by simp [World.setCell], fun k hk hp => Below.heap_setCell W ⟨b, j, none⟩ v k (by rintro rfl; rcases hb with q | q; exact hp q; omega),
   fun k cs' fz hk => (Below.heap_setCell W ⟨b, j, none⟩ v k (by rintro rfl; have h : W.heap[k]? = _ := h; rw [h] at hk; cases hk; exact hT rfl)).trans hk⟩
theorem ItP.putObj {n : Nat} {PI : Nat → Prop} {W : World} {l : Nat} {o : Obj} (o' : Obj) (h : W.heap[l]? = some o) (ho : o.isCells = false) (hl : n ≤ l) : ItP n PI W (W.putObj l o') :=
  ⟨rfl, rfl, rfl, by simp, fun k hk _ => World.putObj_heap_other (by omega), fun k cs fz hk => by
    rw [World.putObj_heap_other (by rintro rfl; rw [h] at hk; cases hk; cases ho)]
    exact hk⟩
theorem ItP.mono {n m : Nat} {PI QI : Nat → Prop} {A B : World} (h : ItP n PI A B) (hm : m ≤ n) (hq : ∀ k, PI k → QI k ∨ m ≤ k) : ItP m QI A B :=
  ⟨h.os, h.tape, h.output, h.size, fun k hk hp => h.low k (by omega) (fun q => by rcases hq k q with r | r; exact hp r; omega), h.rows⟩
end Go.Proofs.Ytfkgicakiapmaaa
