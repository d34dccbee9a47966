/- append of bytes of any source onto a buffer of the call's own, or onto nil. -/
import Derived.Test.YtbpboghjgbgjfaaBys
namespace Go.Proofs.Ytbpboghjgbgjfaa
open Go.RowKit

theorem BySl.src {w : World} {v : Value} {l : List UInt8} (h : BySl w v l) : Src Try.prog 1 22 v l.length (byV l) w := by
  unfold byV
  obtain ⟨a, c, rfl, hlc, hx⟩ := h
  by_cases h0 : l.length = 0
  · obtain rfl := List.eq_nil_of_length_eq_zero h0
    cases a with
    | none => exact Src.ofNil w Try.underlying22 c
    | some ad => exact Src.ofSlice w Try.underlying22 ad 0 c [] rfl (fun j u hu => by cases hu) (fun u hu => by cases hu)
  · obtain ⟨g, o, rfl, -, -⟩ := hx 0 (by omega)
    refine Src.ofSlice w Try.underlying22 ⟨g, o, none⟩ l.length c _ (by simp) (fun j u hu => ?_) (fun u hu => ?_)
    · have hj : j < l.length := by
        have := (List.getElem?_eq_some_iff.1 hu).1
        simpa using this
      obtain ⟨g2, o2, e, -, hc⟩ := hx j hj
      cases e
      have hadd : (⟨g, o, none⟩ : Addr).add j = ⟨g, o + j, none⟩ := by
        unfold Addr.add
        split
        · rename_i hz; rw [hz]; rfl
        · rfl
      rw [hadd, hc, ← hu]
      simp [hj]
    · simp only [List.mem_map] at hu
      obtain ⟨b, -, rfl⟩ := hu
      rfl
theorem run_append_bufS {B : Nat} {w : World} {v : Value} {L : List Value} (h : BufAt B w v L) (hB : B ≤ w.heap.size) (x : Value) (n : Nat) (news : List Value) (hS : Src Try.prog 1 22 x n news w) (hl : L.length + n ≤ 100000000) (ty : TypeId) :
    ∃ v' w', (Builtin.append_ #[22, 22] ty #[v, x]).run Try.prog w = .ok v' w' ∧ BufAt B w' v' (L ++ news) ∧ ∃ g, B ≤ g ∧ w.grownBy w' (some g) := by
  obtain ⟨i, hi, hz, hs1, hs2⟩ := info_parts infoB
  obtain ⟨g, cap, rfl, h2, h3, h4, h5, h6, cur7, fz7, h7⟩ := h
  have hbl : news.length = n := by have := hS.newsLen; omega
  rw [← hs1] at hS
  by_cases hr : L.length + n ≤ cap
  · have hrun := run_append_room_src (P := Try.prog) w 22 22 ty 5 i Try.underlying22 hi g 0 L.length cap x n news hS hr
      (fun j hj => by rw [hs1]; simpa using (h5 (L.length + j) (by omega)).1) (fun j hj => by rw [hs1]; simpa using (h5 (L.length + j) (by omega)).2)
    rw [hs1] at hrun
    simp only [Nat.zero_add, Nat.mul_one] at hrun
    have hgr := grown_setCells w g L.length news
    refine ⟨_, _, hrun, ⟨g, cap, by rw [List.length_append, hbl], h2, Nat.lt_of_lt_of_le h3 (World.grownBy.size hgr), by rw [List.length_append, hbl]; exact hr, fun j hj => ⟨?_, ?_⟩, fun j u hu => ?_, blk_setCells g news L.length w h7⟩, g, h2, hgr⟩
    · by_cases hj2 : L.length ≤ j ∧ j < L.length + news.length
      · have := World.cell?_setCells_in g news L.length w (fun j hj => (h5 (L.length + j) (by omega)).1) (j - L.length) (by omega)
        rw [show L.length + (j - L.length) = j by omega] at this
        rw [this]; rfl
      · rw [World.cell?_setCells_out g _ _ _ _ (fun _ _ => by show j < L.length ∨ L.length + news.length ≤ j; omega)]
        exact (h5 j hj).1
    · rw [World.frozen?_setCells]; exact (h5 j hj).2
    · by_cases hj2 : j < L.length
      · rw [List.getElem?_append_left hj2] at hu
        rw [World.cell?_setCells_out g _ _ _ _ (fun _ _ => by show j < L.length ∨ L.length + news.length ≤ j; omega)]
        exact h6 j u hu
      · rw [List.getElem?_append_right (by omega)] at hu
        have hlt := (List.getElem?_eq_some_iff.1 hu).1
        have := World.cell?_setCells_in g news L.length w (fun j hj => (h5 (L.length + j) (by omega)).1) (j - L.length) hlt
        rw [show L.length + (j - L.length) = j by omega] at this
        rw [this, ← hu, List.getElem?_eq_getElem hlt]
  · have hold : (Builtin.firstCells i.size L.length (.slice (some ⟨g, 0, none⟩) L.length cap)).run Try.prog w.drew = .ok L.toArray w.drew :=
      run_firstCells_some w.drew i.size L.length ⟨g, 0, none⟩ L.length cap L (by rw [hs1, Nat.mul_one]) (fun j u hu => by rw [Addr.add_lit, Nat.zero_add]; exact h6 j u hu)
    have hrun := run_append_grow_src (P := Try.prog) w 22 22 ty 5 i (.int .u8 0) Try.underlying22 hi hz (some ⟨g, 0, none⟩) L.length cap L hold x n news hS (by omega) (by omega) (growslice_fits (by omega) (by rw [hs2]; omega))
    have hge := grownCap_ge w (L.length + n) cap 5
    refine ⟨_, _, hrun, ?_, w.heap.size, hB, ⟨rfl, rfl, rfl, by simp, fun k hk _ => heap_alloc_old w.drew _ hk⟩⟩
    have hn := buf_new w.drew B (grownCap w (L.length + n) cap 5) (L ++ news) ((L ++ news).toArray ++ Builtin.zeroCells (Value.int .u8 0).cells (grownCap w (L.length + n) cap 5 - (L.length + n))) hB (by rw [List.length_append, hbl]; exact hge)
      (by simp only [Array.size_append, List.size_toArray, size_zeroCells, List.length_append, hbl]; simp [Value.cells]; omega)
      (fun j u hu => by
        have hlt := (List.getElem?_eq_some_iff.1 hu).1
        rw [Array.getElem?_append_left (by simpa using hlt)]
        simpa using hu) (0, 0) (.inl rfl)
    rw [List.length_append, hbl] at hn
    exact hn
theorem run_append_nilS {w : World} (x : Value) (n : Nat) (news : List Value) (hS : Src Try.prog 1 22 x n news w) (h0 : 0 < n) (hl : n ≤ 100000000) (ty : TypeId) :
    ∃ v' w', (Builtin.append_ #[22, 22] ty #[.slice none 0 0, x]).run Try.prog w = .ok v' w' ∧ BufAt w.heap.size w' v' news ∧ Below w.heap.size w w' := by
  obtain ⟨i, hi, hz, hs1, hs2⟩ := info_parts infoB
  have hbl : news.length = n := by have := hS.newsLen; omega
  have hold := (Src.ofNil (P := Try.prog) (w := w) (size := i.size) Try.underlying22 0).cellsD
  rw [← hs1] at hS
  have hrun := run_append_grow_src (P := Try.prog) w 22 22 ty 5 i (.int .u8 0) Try.underlying22 hi hz none 0 0 [] hold x n news hS (by omega) (by omega) (growslice_fits (by omega) (by rw [hs2]; omega))
  rw [Nat.zero_add] at hrun
  have hge := grownCap_ge w n 0 5
  obtain ⟨C, hC⟩ : ∃ C, grownCap w n 0 5 = C := ⟨_, rfl⟩
  rw [hC] at hrun hge
  refine ⟨_, _, hrun, ?_, (Below.refl _ w).drew.alloc (Nat.le_refl _) _⟩
  have hn := buf_new w.drew w.heap.size C news (([] ++ news).toArray ++ Builtin.zeroCells (Value.int .u8 0).cells (C - n)) (Nat.le_refl _) (by omega)
    (by simp only [Array.size_append, List.size_toArray, size_zeroCells, List.length_append, hbl, List.length_nil]; simp [Value.cells]; omega)
    (fun j u hu => by
      have hlt := (List.getElem?_eq_some_iff.1 hu).1
      rw [Array.getElem?_append_left (by simpa using hlt)]
      simpa using hu) (0, 0) (.inl rfl)
  rw [hbl] at hn
  exact hn
theorem BufAt.below {B : Nat} {w w' : World} {v : Value} {L : List Value} (h : BufAt B w v L) (k : Below w.heap.size w w') : BufAt B w' v L := by
  obtain ⟨g, cap, h1, h2, h3, h4, h5, h6, h7⟩ := h
  have hb : w'.heap[g]? = w.heap[g]? := k.block g h3
  exact ⟨g, cap, h1, h2, Nat.lt_of_lt_of_le h3 k.size, h4, fun j hj => ⟨(World.cell?_of_block (a := ⟨g, j, none⟩) hb).symm ▸ (h5 j hj).1, (World.frozen?_of_block (a := ⟨g, j, none⟩) hb).trans (h5 j hj).2⟩, fun j u hu => (World.cell?_of_block (a := ⟨g, j, none⟩) hb).trans (h6 j u hu), by rw [hb]; exact h7⟩
theorem BufAt.slice {B : Nat} {w : World} {v : Value} {L : List Value} (h : BufAt B w v L) : ∃ g c, v = .slice (some ⟨g, 0, none⟩) L.length c ∧ L.length ≤ c := by
  obtain ⟨g, cap, h1, -, -, h4, -⟩ := h; exact ⟨g, cap, h1, h4⟩
/-- The operations, for the walk. -/
theorem wpList_append_bufS {w : World} {ops : Array Oper} {rest : List Oper} {o : Oper} {a : Act} {Q : Exit → Act → World → Prop} (hgd : o.guard = none) (sl x : Operand)
    (ho : o.op = .call { callee := .builtin .append, args := #[sl, x], argTypes := #[22, 22] })
    {B : Nat} {v : Value} {L : List Value} (hs : a.eval sl = v) (h : BufAt B w v L) (hB : B ≤ w.heap.size) (xv : Value) (hx : a.eval x = xv) (n : Nat) (news : List Value) (hS : Src Try.prog 1 22 xv n news w) (hl : L.length + n ≤ 100000000)
    (hk : ∀ v' w', BufAt B w' v' (L ++ news) → (∃ g, B ≤ g ∧ w.grownBy w' (some g)) → wpList Try.prog ops Q rest (a.put o.dst v') w') : wpList Try.prog ops Q (o :: rest) a w := by
  refine wpList_plain hgd fun K hK => ?_
  obtain ⟨v', w', hr, h2, h3⟩ := run_append_bufS h hB xv n news hS hl o.type
  unfold Oper.wp execOp
  simp only [ho, resolve, invoke, builtin, Sem.run_bind, Sem.run_pure, Result.andThen_ok, List.map_toArray, List.map_cons, List.map_nil, hs, hx, hr]
  exact hK _ _ (hk v' w' h2 h3)
theorem wpList_append_nilS {w : World} {ops : Array Oper} {rest : List Oper} {o : Oper} {a : Act} {Q : Exit → Act → World → Prop} (hgd : o.guard = none) (sl x : Operand)
    (ho : o.op = .call { callee := .builtin .append, args := #[sl, x], argTypes := #[22, 22] })
    (hs : a.eval sl = .slice none 0 0) (xv : Value) (hx : a.eval x = xv) (n : Nat) (news : List Value) (hS : Src Try.prog 1 22 xv n news w) (h0 : 0 < n) (hl : n ≤ 100000000)
    (hk : ∀ v' w', BufAt w.heap.size w' v' news → Below w.heap.size w w' → wpList Try.prog ops Q rest (a.put o.dst v') w') : wpList Try.prog ops Q (o :: rest) a w := by
  refine wpList_plain hgd fun K hK => ?_
  obtain ⟨v', w', hr, h2, h3⟩ := run_append_nilS xv n news hS h0 hl o.type
  unfold Oper.wp execOp
  simp only [ho, resolve, invoke, builtin, Sem.run_bind, Sem.run_pure, Result.andThen_ok, List.map_toArray, List.map_cons, List.map_nil, hs, hx, hr]
  exact hK _ _ (hk v' w' h2 h3)
end Go.Proofs.Ytbpboghjgbgjfaa
