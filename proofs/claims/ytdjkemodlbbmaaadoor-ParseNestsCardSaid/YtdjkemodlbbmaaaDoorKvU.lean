/- One of some strings; the five names of the statement about pairs. -/
import Derived.Test.YtdjkemodlbbmaaaDoorKvT
import Derived.Test.YtdjkemodlbbmaaaDoorKvS
import Derived.Test.YtdjkemodlbbmaaaDoorMkA
namespace Go.Proofs.YtdjkemodlbbmaaaDoor
open Go.RowKit

set_option maxRecDepth 100000 in
set_option maxHeartbeats 4000000 in
theorem pickM (C : Nat) (cs : Array Value) (T : TypeId) (w : World) (N : Nat) (h : MkAt C w) (hN : cs.toList.length = N) (h0 : 0 < N) (h1 : N ≤ 1000) (hs : ∀ v ∈ cs.toList, ∃ s : ByteArray, v = .string s) :
    Calls Tryd.prog 10 #[.pointer (some ⟨C, 0, none⟩), .slice (some ⟨w.heap.size, 0, none⟩) N N] (w.alloc (.cells cs T)) fun e w' => (∃ s : ByteArray, e = .returned (.string s) ∧ .string s ∈ cs.toList) ∧ MkAt C w' ∧ GFr C w w' := by
  have hlt := h.lt
  have hn := next_any C N _ (h.alloc (.cells cs T)) (by omega) (by omega)
  have hr : (w.alloc (.cells cs T)).heap[w.heap.size]? = some (.cells cs T (0, 0)) := heap_alloc_new _ _
  have hrs : w.heap.size < (w.alloc (.cells cs T)).heap.size := by simp
  have H := Lib.hid (And.intro hn (And.intro hr (And.intro hs (And.intro hN hrs))))
  clear hn hr hs hN hrs
  go_enter Tryd.func10, Tryd.ntmps10
  go_wp2_with fail
  refine (H.out.1).mono ?_
  rintro e w1 ⟨⟨z, rfl, hz0, hz1⟩, hm1, hf1⟩
  obtain ⟨i, rfl⟩ : ∃ i : Nat, z = (i : Int) := ⟨z.toNat, by omega⟩
  have hi : i < N := by omega
  have hiL : i < cs.toList.length := by rw [H.out.2.2.2.1]; exact hi
  obtain ⟨x, hx⟩ := H.out.2.2.1 cs.toList[i] (List.getElem_mem _)
  have hcl : w1.cell? ⟨w.heap.size, i, none⟩ = some (.string x) := by
    have hb := (World.grownBy.block hf1 w.heap.size H.out.2.2.2.2 (by simp; omega)).trans H.out.2.1
    rw [Lib.cell_of_heap hb, ← hx]
    simp at hiL
    simp [hiL]
  have K := Lib.hid (And.intro hm1 (And.intro (((GFr.refl C w).alloc _).trans hf1) (show .string x ∈ cs.toList by rw [← hx]; exact List.getElem_mem _)))
  clear hm1 hf1 hx
  go_wp2
  go_ret
  exact ⟨⟨x, rfl, K.out.2.2⟩, K.out.1, K.out.2.1⟩
def namesP : List ByteArray := [⟨#[122, 101, 116, 97]⟩, ⟨#[98]⟩, ⟨#[97, 46, 98]⟩, ⟨#[95]⟩, ⟨#[120, 49]⟩]
theorem namesP_len : namesP.length = 5 := rfl
theorem namesP_ok : ∀ x ∈ namesP, x.data.toList ≠ [] ∧ (∀ b ∈ x.data.toList, b ≠ 32 ∧ b ≠ 61) ∧ x.size ≤ 4 ∧ nameL x.data.toList = true := by
  intro x hx
  simp only [namesP, List.mem_cons, List.not_mem_nil, or_false] at hx
  rcases hx with rfl | rfl | rfl | rfl | rfl
  all_goals
    refine ⟨by simp, ?_, by decide, by decide +kernel⟩
    decide
theorem namesP_nodup : namesP.Nodup := by decide
theorem sortE_names {F : List FldV} {k : Nat} (hk : k ≤ 5) (h : F.map (·.1) = namesP.take k) : sortE F = 0 := by
  have hl : F.length ≤ 5 := by
    have := congrArg List.length h
    rw [List.length_map, List.length_take, namesP_len] at this
    omega
  have hm : ∀ f ∈ F, f.1 ∈ namesP := fun f hf => by
    have : f.1 ∈ F.map (·.1) := List.mem_map.2 ⟨f, hf, rfl⟩
    rw [h] at this
    exact List.mem_of_mem_take this
  unfold sortE
  rw [if_neg (by omega), if_pos (by
    rw [List.all_eq_true]
    intro f hf
    exact (namesP_ok _ (hm f hf)).2.2.2), if_neg (by
    unfold dupN
    rw [h, decide_eq_true (List.Nodup.sublist (List.take_sublist _ _) namesP_nodup)]
    simp)]
/-- The state of the loop over the values. -/
structure PrI (w : World) (C N : Nat) (s : ByteArray) (v : Value) (k : Nat) (wr : World) : Prop where
  mkt : MkAt C wr
  cn : C < N
  nn : N < wr.heap.size
  nm : ∀ i (h : i < namesP.length), wr.cell? ⟨N, i, none⟩ = some (.string namesP[i])
  hb : Below w.heap.size w wr
  wc : w.heap.size ≤ C
  txt : ∃ T : List PieceT, T.length = k ∧ (∀ p ∈ T, PieceOk p) ∧ s.data.toList = txtB T ∧ (T.map (·.2.1)) = namesP.take k ∧ FsR (N + 1) wr v (T.map (·.2))
theorem FsR.gfr {C base : Nat} {w w' : World} {v : Value} {L : List FldV} (h : FsR base w v L) (k : GFr C w w') (hC : C < base) : FsR base w' v L := by
  refine World.ownsRow.kept h k ?_
  cases hv : v.ownBlock with
  | none => exact .inl rfl
  | some g => exact .inr (fun q => by have := (World.ownsRow.lt h g hv).1; have := Option.some.inj q; omega)
theorem PrI.step {w : World} {C N : Nat} {s s' : ByteArray} {v v' : Value} {k : Nat} {wr wP w3 : World} (h : PrI w C N s v k wr) (T : List PieceT) (hT : T.length = k) (hok : ∀ p ∈ T, PieceOk p) (hsT : s.data.toList = txtB T) (hnT : (T.map (·.2.1)) = namesP.take k)
    (hk : k < namesP.length) (hF : GFr C wr wP) (hm : MkAt C wP) (o : Obj) (hg : (wP.alloc o).grownBy w3 v.ownBlock) (hv : ∀ g, v.ownBlock = some g → N + 1 ≤ g) (p : PieceT) (hp : PieceOk p) (hpn : p.2.1 = namesP[k]) (hs' : s'.data.toList = s.data.toList ++ pieceB p) (hr : FsR (N + 1) w3 v' (T.map (·.2) ++ [p.2])) :
    PrI w C N s' v' (k + 1) w3 where
  mkt := (hm.alloc o).grown hg (fun b hb => by have := hv b hb; have := h.cn; omega)
  cn := h.cn
  nn := Nat.lt_of_lt_of_le h.nn (Nat.le_trans hF.size (Nat.le_trans (by simp) (World.grownBy.size hg)))
  nm := fun i hi => by
    have h1 := World.grownBy.cell hF (a := ⟨N, i, none⟩) (h.nm i hi) (by have := h.cn; simp; omega)
    have hlt : N < wP.heap.size := Nat.lt_of_lt_of_le h.nn hF.size
    have h2 : (wP.alloc o).cell? ⟨N, i, none⟩ = some (.string namesP[i]) := ((bel_new wP o).cell (p := ⟨N, i, none⟩) hlt).trans h1
    refine World.grownBy.cell hg (a := ⟨N, i, none⟩) h2 ?_
    intro e
    have := hv N e.symm
    omega
  hb := by
    have hC : C ≤ wr.heap.size := Nat.le_of_lt h.mkt.lt
    have h1 := h.hb.trans ((hF.toBelow hC).mono h.wc)
    have h2 := h1.alloc h1.size o
    exact h2.grown hg h2.size (fun g hv2 => by have := hv g hv2; have := h.cn; have := h.wc; omega)
  wc := h.wc
  txt := ⟨T ++ [p], by simp [hT], fun q hq => by
    rcases List.mem_append.1 hq with hq | hq
    · exact hok q hq
    · simp at hq; subst hq; exact hp, by rw [txtB_snoc, ← hsT]; exact hs', by
    rw [List.map_append, hnT, List.take_succ_eq_append_getElem hk, ← hpn]; rfl, by
    rw [List.map_append]; exact hr⟩
theorem PrI.sorts {w : World} {C N : Nat} {s : ByteArray} {v : Value} {k : Nat} {wr : World} (h : PrI w C N s v k wr) (hk : k ≤ 5) (hs : s.size ≤ 1000000) :
    ∃ F : List FldV, F.length = k ∧ (∃ a c, v = .slice a k c) ∧ FsI wr v F ∧
      (∀ W, Below wr.heap.size wr W → Calls Tryd.prog 13 #[v] W fun e w' => (∃ S v', e = .returned (.tuple #[v', .int .i64 0]) ∧ S.Perm F ∧ Asc S ∧ FsI w' v' S) ∧ Below W.heap.size W w') ∧
      (∀ W, Calls Tryd.prog 19 #[.string s] W fun e w' => (∃ S v', e = .returned (.tuple #[v', .int .i64 0]) ∧ S.Perm F ∧ Asc S ∧ FsI w' v' S) ∧ Below W.heap.size W w') := by
  obtain ⟨T, hT, hok, hs2, hnm, hrow⟩ := h.txt
  have hlen : (T.map (·.2)).length = k := by rw [List.length_map, hT]
  have hmm : (T.map (·.2)).map (·.1) = namesP.take k := by rw [List.map_map]; exact hnm
  have h0 := sortE_names hk hmm
  refine ⟨T.map (·.2), hlen, ?_, hrow.shows, fun W hW => ?_, fun W => ?_⟩
  · obtain ⟨a, c, e⟩ := rowf_slice hrow
    exact ⟨a, c, by rw [e, hlen]⟩
  · refine (rsort_any (T.map (·.2)) v W (hrow.shows.below hW) (fun x hx => ?_)).mono fun e w' ⟨he, hb⟩ => ⟨?_, hb⟩
    · have : x.1 ∈ (T.map (·.2)).map (·.1) := List.mem_map.2 ⟨x, hx, rfl⟩
      rw [hmm] at this
      have := (namesP_ok _ (List.mem_of_mem_take this)).2.2.1
      unfold maxLen
      omega
    · rcases he with ⟨-, S, v', h1, h2, h3, he⟩ | ⟨h1, -⟩
      · exact ⟨S, v', he, h1, h2, h3⟩
      · exact absurd h0 h1
  · have hk := kv_any s W hs
    rw [hs2, kvN_txt T hok (by omega)] at hk
    refine hk.mono fun e w' ⟨he, hb⟩ => ⟨?_, hb⟩
    rcases he with ⟨-, S, v', h1, h2, h3, he⟩ | ⟨h1, -⟩
    · exact ⟨S, v', he, h1, h2, h3⟩
    · exact absurd h0 h1
end Go.Proofs.YtdjkemodlbbmaaaDoor
