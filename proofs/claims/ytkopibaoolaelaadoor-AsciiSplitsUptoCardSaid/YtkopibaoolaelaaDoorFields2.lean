/- slices.AppendSeq and Collect over the generator of the fields, and package ascii's Fields. -/
import Derived.Test.YtkopibaoolaelaaDoorFields
namespace Go.Proofs.YtkopibaoolaelaaDoor
open Go.RowKit Go.Shelf
attribute [local go_sem] Oper.semAt_some

theorem infoStr : (Tryd.prog.info? 9).map (fun i => (i.zero, i.size, i.bytes)) = some (some (.string ⟨#[]⟩), 1, 16) := by kernel_rfl

/-- What stands between two rounds of AppendSeq's loop. -/
def ApI (w : World) (Bs : Nat) (pre : List (List UInt8)) (W : World) : Prop :=
  ∃ v, Boxed W Bs 29 v ∧ W.ownsRow w.heap.size 9 1 v pre.length (pre.map fEnc) ∧ Below w.heap.size w W
theorem apI_own (w : World) (Bs B : Nat) (hB : w.heap.size ≤ B) : OwnFrom B (ApI w Bs) := fun s W W' row hs hg hr => by
  obtain ⟨v, h1, h2, h3⟩ := hs
  have hno : ∀ (k : Nat) (o : Obj), W.heap[k]? = some o → o.isCells = true → some k ≠ row := fun k o hk ho e => by
    obtain ⟨_, o', h1, h2⟩ := hr k e.symm
    rw [h1] at hk
    cases hk
    rw [h2] at ho
    cases ho
  refine ⟨v, h1.kept hg (hno Bs _ h1 rfl), h2.kept hg ?_, h3.grown hg h3.size (fun k e => Nat.le_trans hB (hr k e).1)⟩
  rcases h2.2 with ⟨rfl, _⟩ | ⟨g, cap, cur, rfl, _, hgb, _⟩
  · exact .inl rfl
  · exact .inr (fun e => hno g _ hgb rfl e)

theorem keepT_step {W w3 : World} {n Bs : Nat} {x : Value} {v v' : Value} {k : Nat} {xs : List Value} (hrow : W.ownsRow n 9 1 v k xs) (hbx : Boxed W Bs 29 v)
    (hg : (W.alloc (Obj.cells #[x] 9)).grownBy w3 v.ownBlock) (hb : Below n W (w3.setCell ⟨Bs, 0, none⟩ v')) : KeepT n W (w3.setCell ⟨Bs, 0, none⟩ v') :=
  ⟨hb, fun j cs fr hj => by
    have hlt := (Array.getElem?_eq_some_iff.1 hj).1
    have h1 : (W.alloc (Obj.cells #[x] 9)).heap[j]? = some (Obj.cells cs 43 fr) := (Below.heap_alloc _ _ j hlt).trans hj
    have h2 : w3.heap[j]? = some (Obj.cells cs 43 fr) := by
      refine (hg.block j (by simp; omega) (fun e => ?_)).trans h1
      rcases hrow.2 with ⟨rfl, _⟩ | ⟨g, cap, cur, rfl, _, hgb, _⟩
      · simp [Value.ownBlock] at e
      · obtain rfl : j = g := by simpa [Value.ownBlock] using e
        rw [hgb] at hj
        simp at hj
    have hne : j ≠ Bs := fun e => by
      subst e
      rw [show W.heap[j]? = _ from hbx] at hj
      simp at hj
    exact ((grownBy_setCell' w3 Bs v').block j (Array.getElem?_eq_some_iff.1 h2).1 (fun e => hne (by cases e; rfl))).trans h2⟩

set_option maxRecDepth 100000 in
set_option maxHeartbeats 2000000 in
theorem appendSeq_any (Bs : Nat) (s : ByteArray) (hlen : s.size ≤ 2097152) (w : World) (hbox : Boxed w Bs 9 (.string s)) :
    Calls Tryd.prog 51 #[.slice none 0 0, .func (.func 52) #[] #[.pointer (some ⟨Bs, 0, none⟩)]] w fun e w' =>
      ∃ v, e = .returned v ∧ w'.ownsRow w.heap.size 9 1 v (fieldsB s.data.toList).length ((fieldsB s.data.toList).map fEnc) ∧ Below w.heap.size w w' := by
  obtain ⟨i0, hi, hz0, hz1, hz2⟩ := info_parts infoStr
  refine (callsIn_wide (n := 4)).1 ?_
  refine callsIn_of_wp_marks Tryd.func51 rfl trivial ?_ rfl
  simp only [Tryd.ntmps51, List.size_toArray, List.length_cons, List.length_nil, Nat.reduceAdd, Nat.reduceSub, Array.replicate_succ, Array.replicate_zero, List.push_toArray, List.append_toArray, List.nil_append, List.cons_append]
  obtain ⟨fv, hfv⟩ : ∃ fv, Value.func (.func 52) #[] #[.pointer (some ⟨Bs, 0, none⟩)] = fv := ⟨_, rfl⟩
  rw [hfv]
  gi_wp2_with fail
  obtain ⟨w1, hw1⟩ : ∃ w1, w.alloc (Obj.cells #[Value.slice none 0 0] 29) = w1 := ⟨_, rfl⟩
  have hs1 : w1.heap.size = w.heap.size + 1 := by rw [← hw1]; simp
  have hB1 : Boxed w1 w.heap.size 29 (.slice none 0 0) := by rw [← hw1]; exact Boxed.new w _ _
  have hb1 : Below w.heap.size w w1 := by rw [← hw1]; exact (Below.refl _ w).alloc (Nat.le_refl _) _
  rw [hw1]
  have h0 : ApI w w.heap.size [] w1 := ⟨_, hB1, World.ownsRow_nil _ _ _ _, hb1⟩
  refine wpIn_rangeFunc_ownF rfl (by omega) (gf := 52) (lb := #[.pointer (some ⟨Bs, 0, none⟩)]) hfv.symm trivial (enters_of Tryd.func52 (by kernel_rfl) rfl)
    (seqF_stops 3 (by omega) Bs s hlen w hbox) KeepT.t (KeepT.b (by omega)) hb1 (fun _ => rfl)
    (ApI w w.heap.size) (fun _ _ _ => False) (apI_own _ _ _ (by omega)) (fun _ _ _ _ _ hs _ _ => hs) h0
    (fun x => { tmps := #[.slice none 0 0, fv, .pointer (some ⟨w.heap.size, 0, none⟩), undef, .slice none 0 0, fEnc x, fv, fEnc x, undef, undef, undef, undef, undef], defers := [] }) ?assign ?body ?done ?stop
  case assign =>
    intro lp x W K hK
    gi_wp2
    exact hK
  case body =>
    rintro lp pre x W ⟨v, hbx, hrow, hBel⟩ hlt
    have hcb := hbx.cell
    have hsz := hBel.size
    have q1 : ∀ u ∈ [fEnc x], u.oneCell' = true := by simp [fEnc, Value.oneCell']
    have q2 : ∀ (j : Nat) (u : Value), [fEnc x][j]? = some u → (W.alloc (Obj.cells #[fEnc x] 9)).cell? ((⟨W.heap.size, 0, none⟩ : Addr).add j) = some u := fun j u hj => by
      obtain rfl : j = 0 := by
        have := (List.getElem?_eq_some_iff.1 hj).1
        simpa using this
      obtain rfl : fEnc x = u := by simpa using hj
      simp [Addr.add]
    have q3 : pre.length + 1 ≤ maxLen := by unfold maxLen; omega
    have q4 : (pre.length + 1) * 16 ≤ 140737488355328 := by omega
    have q5 : w.heap.size ≤ (W.alloc (Obj.cells #[fEnc x] 9)).heap.size := by simp; omega
    simp only [fEnc]
    gi_wp2_with (first
      | (gi_at_builtin; refine wpListIn_append_own _ rfl _ _ 29 rfl w.heap.size 9 i0 (.string ⟨#[]⟩) 1 16 Tryd.underlying29 hi hz0 hz1 hz2 rfl (by decide) _ _ _ rfl (hrow.alloc _) ⟨W.heap.size, 0, none⟩ 1 1 [fEnc x] rfl rfl q2 q1 q3 q4 q5 ?_; intro v' w3 hown' hg3 hnil3
         obtain ⟨hv1, hv2, hrow2, hko, hb⟩ := Boxed.appended hbx (by decide) hrow hBel.size (Nat.le_refl _) hown' hg3
         have hc3 := hv1.cell
         have hf3 := hv1.frozen
         obtain ⟨g', cap', rfl⟩ : ∃ g' cap', v' = .slice (some ⟨g', 0, none⟩) (pre.length + 1) cap' := by
           rcases hown'.2 with ⟨_, h0⟩ | ⟨g', cap', cur', hv', _⟩
           · exact absurd h0 (by omega)
           · exact ⟨_, _, hv'⟩
         have hKT := keepT_step hrow hbx hg3 hb
         have HOW := Lib.hid (show _ ∧ _ from ⟨hown', hrow2⟩)
         clear hown' hg3 hnil3 hrow2
         simp only [Act.put, List.setIfInBounds_toArray, List.set_cons_succ, List.set_cons_zero])
      | fail)
    refine ⟨hko, hKT, _, hv2, ?_, hBel.trans hb⟩
    have := HOW.out.2
    simpa using this
  case done =>
    rintro D ys W hDs rfl ⟨v, hbx, hrow, hBel⟩ hK
    have hcb := hbx.cell
    gi_wp2
    refine ⟨by simp, .inl ⟨_, _, rfl, run_takeDeferred hK, ?_⟩⟩
    have hg : ∀ o, W.grownBy (W.putObj D o) (some D) := fun o => ⟨rfl, rfl, rfl, by simp, fun k _ hk => World.putObj_heap_other (fun e => hk (by rw [e]))⟩
    refine ⟨_, results_tmp rfl _ _ _, v, rfl, hrow.kept (hg _) ?_, hBel.trans (belowK_b (w := w) (Nat.le_refl _) W D _ _ (by omega) hK rfl rfl)⟩
    rcases hrow.2 with ⟨rfl, _⟩ | ⟨g, cap, cur, rfl, _, hgb, _⟩
    · exact .inl rfl
    · refine .inr fun e => ?_
      obtain rfl : g = D := by simpa [Value.ownBlock] using e
      rw [hgb] at hK
      cases hK
  case stop =>
    rintro D c pre W _ _ h _
    exact h.elim

theorem collect_any (Bs : Nat) (s : ByteArray) (hlen : s.size ≤ 2097152) (w : World) (hbox : Boxed w Bs 9 (.string s)) :
    Calls Tryd.prog 40 #[.func (.func 52) #[] #[.pointer (some ⟨Bs, 0, none⟩)]] w fun e w' =>
      ∃ v, e = .returned v ∧ w'.ownsRow w.heap.size 9 1 v (fieldsB s.data.toList).length ((fieldsB s.data.toList).map fEnc) ∧ Below w.heap.size w w' := by
  have h := appendSeq_any Bs s hlen w hbox
  have H := Lib.hid h
  clear h
  go_enter Tryd.func40, Tryd.ntmps40
  go_wp2_with (go_at_call 51; refine (H.out).mono ?_; rintro e w' ⟨v, rfl, hr, hb⟩)
  go_ret
  exact ⟨v, rfl, hr, hb⟩

/-- A slice value that holds the strings L, below block n. -/
def StrsAt (w : World) (n : Nat) (sv : Value) (L : List (List UInt8)) : Prop :=
  (sv = .slice none 0 0 ∧ L = []) ∨ ∃ bk cap, sv = .slice (some ⟨bk, 0, none⟩) L.length cap ∧ L.length ≤ cap ∧ bk < n ∧ ∀ j, j < L.length → w.cell? ⟨bk, j, none⟩ = some (fEnc (L.getD j []))
theorem StrsAt.below {w W : World} {n n' : Nat} {sv : Value} {L : List (List UInt8)} (h : StrsAt w n sv L) (hb : Below n w W) (hn : n ≤ n') : StrsAt W n' sv L := by
  rcases h with h | ⟨bk, cap, rfl, hcap, hbk, hc⟩
  · exact .inl h
  · exact .inr ⟨bk, cap, rfl, hcap, by omega, fun j hj => (hb.cell (p := ⟨bk, j, none⟩) hbk).trans (hc j hj)⟩
theorem strsAt_of {W : World} {B : Nat} {v : Value} {L : List (List UInt8)} (h : W.ownsRow B 9 1 v L.length (L.map fEnc)) : StrsAt W W.heap.size v L := by
  rcases h.2 with ⟨rfl, h0⟩ | ⟨g, cap, cur, rfl, _, hg, hnc, hcm, hcs, htk⟩
  · exact .inl ⟨rfl, List.eq_nil_of_length_eq_zero h0⟩
  · refine .inr ⟨g, cap, rfl, hnc, (Array.getElem?_eq_some_iff.1 hg).1, fun j hj => ?_⟩
    rw [h.cellAt j (by omega)]
    simp [hj]
theorem StrsAt.slice {w : World} {n : Nat} {sv : Value} {L : List (List UInt8)} (h : StrsAt w n sv L) : ∃ a cap, sv = .slice a L.length cap := by
  rcases h with ⟨rfl, rfl⟩ | ⟨bk, cap, rfl, _⟩
  · exact ⟨none, 0, rfl⟩
  · exact ⟨_, _, rfl⟩

theorem fields_any (s : ByteArray) (hlen : s.size ≤ 2097152) (w : World) :
    Calls Tryd.prog 20 #[.string s] w fun e w' => ∃ v, e = .returned v ∧ StrsAt w' w'.heap.size v (fieldsB s.data.toList) ∧ Below w.heap.size w w' := by
  have h := collect_any w.heap.size s hlen (w.alloc (.cells #[.string s] 9)) (Boxed.new w _ _)
  have H := Lib.hid h
  clear h
  go_enter Tryd.func20, Tryd.ntmps20
  go_wp2_with (first
    | (go_at_call 41; refine (fields_seq s w).mono ?_; rintro e w1 ⟨rfl, rfl⟩)
    | (go_at_call 40; refine (H.out).mono ?_; rintro e w' ⟨v, rfl, hr, hb⟩))
  go_ret
  exact ⟨v, rfl, strsAt_of hr, ((Below.refl _ w).alloc (Nat.le_refl _) _).trans (hb.mono (by simp))⟩
end Go.Proofs.YtkopibaoolaelaaDoor
