/- A buffer of bytes of the call's own, converted from a string (its row bears the run-time's mark behind its last cell), and append onto it. -/
import Derived.Test.YtbpboghjgbgjfaaFsU
import Derived.Deep.AppendSrc
import Derived.Laws.IdiomStrings
import Derived.Lib.SmallJoins
namespace Go.Proofs.Ytbpboghjgbgjfaa
open Go.RowKit

def BufAt (B : Nat) (w : World) (v : Value) (L : List Value) : Prop :=
  ∃ g cap, v = .slice (some ⟨g, 0, none⟩) L.length cap ∧ B ≤ g ∧ g < w.heap.size ∧ L.length ≤ cap ∧ (∀ j, j < cap → (w.cell? ⟨g, j, none⟩).isSome = true ∧ w.frozen? ⟨g, j, none⟩ = false) ∧ (∀ (j : Nat) (u : Value), L[j]? = some u → w.cell? ⟨g, j, none⟩ = some u) ∧ ∃ cur fz, w.heap[g]? = some (.cells cur 5 fz)
/-- Blocks from B on may change, and new ones be made. -/
theorem BufAt.grown {B : Nat} {w w' : World} {v : Value} {L : List Value} {C : Nat} (h : BufAt B w v L) (hC : C < B) (k : GFr C w w') : BufAt B w' v L := by
  obtain ⟨g, cap, h1, h2, h3, h4, h5, h6, h7⟩ := h
  have hb : w'.heap[g]? = w.heap[g]? := World.grownBy.block k g h3 (by simp; omega)
  exact ⟨g, cap, h1, h2, Nat.lt_of_lt_of_le h3 k.size, h4, fun j hj => ⟨(World.cell?_of_block (a := ⟨g, j, none⟩) hb).symm ▸ (h5 j hj).1, (World.frozen?_of_block (a := ⟨g, j, none⟩) hb).trans (h5 j hj).2⟩, fun j u hu => (World.cell?_of_block (a := ⟨g, j, none⟩) hb).trans (h6 j u hu), by rw [hb]; exact h7⟩
theorem buf_new (w : World) (B cap : Nat) (L : List Value) (cur : Array Value) (hB : B ≤ w.heap.size) (hl : L.length ≤ cap) (hs : cur.size = cap) (hc : ∀ (j : Nat) (u : Value), L[j]? = some u → cur[j]? = some u) (fz : Nat × Nat) (hf : fz = (0, 0) ∨ cap ≤ fz.1) : BufAt B (w.alloc (.cells cur 5 fz)) (.slice (some ⟨w.heap.size, 0, none⟩) L.length cap) L := by
  have hb := heap_alloc_new w (.cells cur 5 fz)
  refine ⟨w.heap.size, cap, rfl, hB, by simp, hl, fun j hj => ⟨?_, ?_⟩, fun j u hu => ?_, _, _, hb⟩
  · rw [Lib.cell_of_heap hb]
    rw [Array.getElem?_eq_getElem (by omega)]; rfl
  · unfold World.frozen?
    simp only [hb]
    rcases hf with rfl | hf
    · simp
    · obtain ⟨lo, hi⟩ := fz
      simp only [Bool.and_eq_false_iff, decide_eq_false_iff_not]
      have h2 : cap ≤ lo := hf
      exact .inl (by omega)
  · rw [Lib.cell_of_heap hb]; exact hc j u hu
theorem blk_setCells (b : Nat) {T : TypeId} {fz : Nat × Nat} : ∀ (vs : List Value) (o : Nat) (w : World) {cur : Array Value}, w.heap[b]? = some (.cells cur T fz) → ∃ cur' fz', (w.setCells b o vs).heap[b]? = some (.cells cur' T fz')
  | [], _, _, _, h => ⟨_, _, h⟩
  | v :: r, o, w, _, h => blk_setCells b r (o + 1) (w.setCell ⟨b, o, none⟩ v) (Joins.block_setCell h v)
theorem tape_setCells (b : Nat) : ∀ (vs : List Value) (o : Nat) (w : World), (w.setCells b o vs).tape = w.tape
  | [], _, _ => rfl
  | v :: r, o, w => (tape_setCells b r (o + 1) (w.setCell ⟨b, o, none⟩ v)).trans rfl
theorem grown_setCells (w : World) (g o : Nat) (vs : List Value) : w.grownBy (w.setCells g o vs) (some g) := by
  have k := World.keptBut_setCells g (may := fun p => p.block = g) vs o w (fun _ _ => rfl)
  exact ⟨k.1, tape_setCells g vs o w, k.2.1, k.size, fun i hi hn => k.block hi (fun _ hp e => hn (by rw [← e, hp]))⟩
theorem infoB : (Try.prog.info? 5).map (fun i => (i.zero, i.size, i.bytes)) = some (some (.int .u8 0), 1, 1) := by kernel_rfl
theorem run_append_buf {B : Nat} {w : World} {v : Value} {L : List Value} (h : BufAt B w v L) (hB : B ≤ w.heap.size) (s : ByteArray) (hl : L.length + s.size ≤ 1000000) (ty : TypeId) :
    ∃ v' w', (Builtin.append_ #[22, 9] ty #[v, .string s]).run Try.prog w = .ok v' w' ∧ BufAt B w' v' (L ++ byteCells s) ∧ ∃ g, B ≤ g ∧ w.grownBy w' (some g) := by
  obtain ⟨i, hi, hz, hs1, hs2⟩ := info_parts infoB
  obtain ⟨g, cap, rfl, h2, h3, h4, h5, h6, cur7, fz7, h7⟩ := h
  have hS : Src Try.prog i.size 9 (.string s) s.size (byteCells s) w := by rw [hs1]; exact Src.ofString w Try.underlying9 s
  have hbl : (byteCells s).length = s.size := byteCells_length s
  by_cases hr : L.length + s.size ≤ cap
  · have hrun := run_append_room_src (P := Try.prog) w 22 9 ty 5 i Try.underlying22 hi g 0 L.length cap (.string s) s.size (byteCells s) hS hr
      (fun j hj => by rw [hs1]; simpa using (h5 (L.length + j) (by omega)).1) (fun j hj => by rw [hs1]; simpa using (h5 (L.length + j) (by omega)).2)
    rw [hs1] at hrun
    simp only [Nat.zero_add, Nat.mul_one] at hrun
    have hgr := grown_setCells w g L.length (byteCells s)
    refine ⟨_, _, hrun, ⟨g, cap, by rw [List.length_append, hbl], h2, Nat.lt_of_lt_of_le h3 (World.grownBy.size hgr), by rw [List.length_append, hbl]; exact hr, fun j hj => ⟨?_, ?_⟩, fun j u hu => ?_, blk_setCells g (byteCells s) L.length w h7⟩, g, h2, hgr⟩
    · by_cases hj2 : L.length ≤ j ∧ j < L.length + (byteCells s).length
      · have := World.cell?_setCells_in g (byteCells s) L.length w (fun j hj => (h5 (L.length + j) (by omega)).1) (j - L.length) (by omega)
        rw [show L.length + (j - L.length) = j by omega] at this
        rw [this]; rfl
      · rw [World.cell?_setCells_out g _ _ _ _ (fun _ _ => by show j < L.length ∨ L.length + (byteCells s).length ≤ j; omega)]
        exact (h5 j hj).1
    · rw [World.frozen?_setCells]; exact (h5 j hj).2
    · by_cases hj2 : j < L.length
      · rw [List.getElem?_append_left hj2] at hu
        rw [World.cell?_setCells_out g _ _ _ _ (fun _ _ => by show j < L.length ∨ L.length + (byteCells s).length ≤ j; omega)]
        exact h6 j u hu
      · rw [List.getElem?_append_right (by omega)] at hu
        have hlt := (List.getElem?_eq_some_iff.1 hu).1
        have := World.cell?_setCells_in g (byteCells s) L.length w (fun j hj => (h5 (L.length + j) (by omega)).1) (j - L.length) hlt
        rw [show L.length + (j - L.length) = j by omega] at this
        rw [this, ← hu, List.getElem?_eq_getElem hlt]
  · have hold : (Builtin.firstCells i.size L.length (.slice (some ⟨g, 0, none⟩) L.length cap)).run Try.prog w.drew = .ok L.toArray w.drew :=
      run_firstCells_some w.drew i.size L.length ⟨g, 0, none⟩ L.length cap L (by rw [hs1, Nat.mul_one]) (fun j u hu => by rw [Addr.add_lit, Nat.zero_add]; exact h6 j u hu)
    have hrun := run_append_grow_src (P := Try.prog) w 22 9 ty 5 i (.int .u8 0) Try.underlying22 hi hz (some ⟨g, 0, none⟩) L.length cap L hold (.string s) s.size (byteCells s) hS (by omega) (by omega) (growslice_fits (by omega) (by rw [hs2]; omega))
    have hge := grownCap_ge w (L.length + s.size) cap 5
    refine ⟨_, _, hrun, ?_, w.heap.size, hB, ⟨rfl, rfl, rfl, by simp, fun k hk _ => heap_alloc_old w.drew _ hk⟩⟩
    have hn := buf_new w.drew B (grownCap w (L.length + s.size) cap 5) (L ++ byteCells s) ((L ++ byteCells s).toArray ++ Builtin.zeroCells (Value.int .u8 0).cells (grownCap w (L.length + s.size) cap 5 - (L.length + s.size))) hB (by rw [List.length_append, hbl]; exact hge)
      (by simp only [Array.size_append, List.size_toArray, size_zeroCells, List.length_append, hbl]; simp [Value.cells]; omega)
      (fun j u hu => by
        have hlt := (List.getElem?_eq_some_iff.1 hu).1
        rw [Array.getElem?_append_left (by simpa using hlt)]
        simpa using hu) (0, 0) (.inl rfl)
    rw [List.length_append, hbl] at hn
    exact hn
/-- The operation, for the walk. -/
theorem wpList_append_buf {w : World} {ops : Array Oper} {rest : List Oper} {o : Oper} {a : Act} {Q : Exit → Act → World → Prop} (hgd : o.guard = none) (sl x : Operand)
    (ho : o.op = .call { callee := .builtin .append, args := #[sl, x], argTypes := #[22, 9] })
    {B : Nat} {v : Value} {L : List Value} (hs : a.eval sl = v) (h : BufAt B w v L) (hB : B ≤ w.heap.size) (s : ByteArray) (hx : a.eval x = .string s) (hl : L.length + s.size ≤ 1000000)
    (hk : ∀ v' w', BufAt B w' v' (L ++ byteCells s) → (∃ g, B ≤ g ∧ w.grownBy w' (some g)) → wpList Try.prog ops Q rest (a.put o.dst v') w') : wpList Try.prog ops Q (o :: rest) a w := by
  refine wpList_plain hgd fun K hK => ?_
  obtain ⟨v', w', hr, h2, h3⟩ := run_append_buf h hB s hl o.type
  unfold Oper.wp execOp
  simp only [ho, resolve, invoke, builtin, Sem.run_bind, Sem.run_pure, Result.andThen_ok, List.map_toArray, List.map_cons, List.map_nil, hs, hx, hr]
  exact hK _ _ (hk v' w' h2 h3)
end Go.Proofs.Ytbpboghjgbgjfaa
