/- The contract of package ascii's Repair, at at most 4194304 bytes: it returns the repaired bytes and the number of bad ones; nothing that lay before has turned. -/
import Derived.Test.YtbpboghjgbgjfaaDoorRepairSeq
import Derived.Test.YtbpboghjgbgjfaaDoorBuilder
namespace Go.Proofs.YtbpboghjgbgjfaaDoor
open Go.RowKit Go.Shelf
attribute [local go_sem] Oper.semAt_some

/-- A slice value that holds the bytes l, below block n. -/
def SlcAt (w : World) (n : Nat) (sv : Value) (l : List UInt8) : Prop :=
  (∃ a c, sv = .slice a 0 c ∧ l = []) ∨ ∃ bk off cap, sv = .slice (some ⟨bk, off, none⟩) l.length cap ∧ l.length ≤ cap ∧ bk < n ∧ BytesAt w bk off l

theorem sequences_any (a : Option Addr) (len cap : Nat) (w : World) :
    Calls Tryd.prog 28 #[.slice a len cap] w fun e w' => e = .returned (.func (.func 39) #[] #[.pointer (some ⟨w.heap.size, 0, none⟩)]) ∧ w' = w.alloc (.cells #[.slice a len cap] 22) := by
  go_enter Tryd.func28, Tryd.ntmps28
  go_wp2
  go_ret
  exact ⟨rfl, rfl⟩

set_option maxRecDepth 100000 in
set_option maxHeartbeats 1000000 in
/-- .. at an empty slice: no round. -/
theorem seq1_nil (n : Nat) (lp Bs : Nat) (a : Option Addr) (c : Nat) {α : Type} (J : List α → World → Prop) (W : World) (hB : W.cell? ⟨Bs, 0, none⟩ = some (.slice a 0 c)) (h0 : J [] W) :
    CallsIn Fence.wide n Tryd.prog 39 #[.func (.yield lp) #[] #[], .pointer (some ⟨Bs, 0, none⟩)] W fun e W' => (∃ v, e = .returned v) ∧ J [] W' := by
  refine callsIn_of_wp Tryd.func39 rfl trivial ?_ rfl
  simp only [Tryd.ntmps39, List.size_toArray, List.length_cons, List.length_nil, Nat.reduceAdd, Nat.reduceSub, Array.replicate_succ, Array.replicate_zero, List.push_toArray, List.append_toArray, List.nil_append, List.cons_append]
  gi_wp2
  gi_loopw [3] (fun i wr => i = .int .i64 0 ∧ J [] wr ∧ wr.cell? ⟨Bs, 0, none⟩ = some (.slice a 0 c)) (fun _ _ => 0)
  case atStart => exact ⟨rfl, h0, hB⟩
  case round =>
    obtain ⟨rfl, hJs, hc⟩ := hrel
    gi_wp2
    go_end0
    exact ⟨⟨_, rfl⟩, hJs⟩

/-- **What sequences hands back yields the segments of the bytes.** -/
theorem seq_stops (n : Nat) (hn : 1 ≤ n) (Bs bk off cap : Nat) (sv : Value) (l : List UInt8) (hlen : l.length ≤ 4194304) (w0 w : World) (hT : Tabs w0)
    (hS : ((∃ a c, sv = .slice a 0 c) ∧ l = []) ∨ (sv = .slice (some ⟨bk, off, none⟩) l.length cap ∧ l.length ≤ cap ∧ bk < w0.heap.size ∧ BytesAt w0 bk off l))
    (hW : Below w0.heap.size w0 w) (hbox : Boxed w Bs 22 sv) :
    SeqStopsK Fence.wide n Tryd.prog 39 #[.pointer (some ⟨Bs, 0, none⟩)] (segEnc l bk off cap) (KeepS w0.heap.size Bs) (fun ys => ys.map (·.1) = segs l l.length 0) (fun _ => True) l.length w := fun lp J Jx W hb hJ _ hY h0 => by
  have hbx : Boxed W Bs 22 sv := (hb.block Bs hbox.lt).trans hbox
  rcases hS with ⟨⟨a, c, rfl⟩, rfl⟩ | ⟨rfl, hcap, hbk, hc⟩
  · exact (seq1_nil n lp Bs a c J W hbx.cell h0).mono fun e W' ⟨he, hj⟩ => ⟨he, .inl ⟨[], rfl, hj⟩⟩
  · exact seq1_in n hn lp Bs bk off cap l hcap hlen w0 hT hbk hc J Jx hY W (hW.trans (hb.mono hW.size)) hbx hJ h0

theorem BuiltAt.kept {B b : Nat} {bs : List Value} {W W' : World} {row : Option Nat} (h : BuiltAt B b bs W) (hg : W.grownBy W' row) (hr : ∀ r, row = some r → ∃ o : Obj, W.heap[r]? = some o ∧ o.isCells = false) : BuiltAt B b bs W' := by
  obtain ⟨hB, v, hbk, hown, hne⟩ := h
  have hno : ∀ (k : Nat) (o : Obj), W.heap[k]? = some o → o.isCells = true → some k ≠ row := fun k o hk ho e => by
    obtain ⟨o', h1, h2⟩ := hr k e.symm
    rw [h1] at hk
    cases hk
    rw [h2] at ho
    cases ho
  refine ⟨hB, v, (hg.block b (Array.getElem?_eq_some_iff.1 hbk).1 (hno b _ hbk rfl)).trans hbk, hown.kept hg ?_, hne⟩
  cases hv : v.ownBlock with
  | none => exact .inl rfl
  | some g =>
    obtain ⟨c, fz, hc⟩ := Lib.ownsRowF_kind (World.ownsRowF_of hown) g hv
    exact .inr (fun e => hno g _ hc rfl e)

theorem keepsOthers_of {b : Nat} {W W' : World} {cs : Array Value} {t : TypeId} {fr : Nat × Nat} (h : Lib.OthersKept 5 (some b) W W') (hsz : W.heap.size ≤ W'.heap.size) (hb : W.heap[b]? = some (.cells cs t fr)) : KeepsOthers W W' :=
  ⟨hsz, fun k o hk ho => h k o hk (fun e => by cases e; rw [hb] at hk; cases hk; cases ho) (fun c fz e => by rw [e] at ho; cases ho)⟩
theorem Boxed.others {b B : Nat} {t : TypeId} {v : Value} {W W' : World} (h : Boxed W B t v) (hk : Lib.OthersKept 5 (some b) W W') (hne : B ≠ b) (ht : t ≠ 5) : Boxed W' B t v :=
  hk B _ h (fun e => hne (Option.some.inj e)) (fun c fz e => by cases e; exact ht rfl)
theorem byteCells_append (a b : List UInt8) : Lib.byteCells (a ++ b) = Lib.byteCells a ++ Lib.byteCells b := by simp [Lib.byteCells]
theorem oneCells (l : List UInt8) : ∀ u ∈ Lib.byteCells l, u.oneCell' = true := by
  intro u hu
  simp only [Lib.byteCells, List.mem_map] at hu
  obtain ⟨x, _, rfl⟩ := hu
  rfl
theorem BytesAt.news {w : World} {bk off : Nat} {l : List UInt8} (h : BytesAt w bk off l) (i k : Nat) (hik : i + k ≤ l.length) : ∀ j u, (Lib.byteCells ((l.drop i).take k))[j]? = some u → w.cell? ((⟨bk, off + i, none⟩ : Addr).add j) = some u := by
  intro j u hj
  have hadd : (⟨bk, off + i, none⟩ : Addr).add j = ⟨bk, off + (i + j), none⟩ := by unfold Addr.add; split <;> simp_all; omega
  rw [hadd]
  have hjk : j < k := by
    have := (List.getElem?_eq_some_iff.1 hj).1
    simp [Lib.byteCells] at this
    omega
  rw [h (i + j) (by omega), ← hj]
  simp [Lib.byteCells, hjk, byteAt, show i + j < l.length by omega]

theorem BuiltAt.setBox {B b D : Nat} {bs : List Value} {W : World} {t : TypeId} {v0 : Value} (h : BuiltAt B b bs W) (hD : Boxed W D t v0) (hne : D ≠ b) (ht : t ≠ 5) (v : Value) : BuiltAt B b bs (W.setCell ⟨D, 0, none⟩ v) := by
  obtain ⟨hB, u, hbk, hown, hne'⟩ := h
  have hg := grownBy_setCell' W D v
  exact ⟨hB, u, (hg.block b (Array.getElem?_eq_some_iff.1 hbk).1 (fun e => hne (Option.some.inj e).symm)).trans hbk, hown.kept hg (.inr (fun e => hD.not_row ht hown e.symm)), hne'⟩
theorem map_snoc {l : List UInt8} (pre : List (SegT l)) (x : SegT l) : (pre ++ [x]).map (·.1) = pre.map (·.1) ++ [x.1] := by simp

/-- What stands behind Repair's last statement: the frame a0, nothing turned below n, the block of the deferred calls as it was; no panic. -/
def AtEnd (a0 : Act) (n : Nat) (w : World) (D : Nat) : Exit → Act → World → Prop
  | .normal, a, W => a = a0 ∧ Below n w W ∧ W.heap[D]? = some (.deferred (some []))
  | _, _, _ => False

/-- What stands between two rounds of Repair's loop. -/
def RepI (w : World) (l : List UInt8) (sv : Value) (b D Bs : Nat) (pre : List (SegT l)) (W : World) : Prop :=
  BuiltAt w.heap.size b (Lib.byteCells (outP l (pre.map (·.1)))) W ∧ Boxed W D 3 (.int .i64 (badP (pre.map (·.1)))) ∧ Boxed W Bs 22 sv ∧ Below w.heap.size w W
theorem repI_own (w : World) (l : List UInt8) (sv : Value) (b D Bs B : Nat) (hB : w.heap.size ≤ B) : OwnFrom B (RepI w l sv b D Bs) := fun s W W' row hs hg hr => by
  obtain ⟨h1, h2, h3, h4⟩ := hs
  have hno : ∀ (k : Nat) (o : Obj), W.heap[k]? = some o → o.isCells = true → some k ≠ row := fun k o hk ho e => by
    obtain ⟨_, o', h1, h2⟩ := hr k e.symm
    rw [h1] at hk
    cases hk
    rw [h2] at ho
    cases ho
  exact ⟨h1.kept hg (fun r e => (hr r e).2), h2.kept hg (hno D _ h2 rfl), h3.kept hg (hno Bs _ h3 rfl), h4.grown hg h4.size (fun k e => Nat.le_trans hB (hr k e).1)⟩

set_option maxRecDepth 100000 in
set_option maxHeartbeats 2000000 in
theorem repair_ex (sv : Value) (bk off cap : Nat) (l : List UInt8) (hlen : l.length ≤ 4194304) (w : World) (hT : Tabs w) (a : Option Addr) (cap' : Nat) (hsv : sv = .slice a l.length cap')
    (hS : ((∃ a c, sv = .slice a 0 c) ∧ l = []) ∨ (sv = .slice (some ⟨bk, off, none⟩) l.length cap ∧ l.length ≤ cap ∧ bk < w.heap.size ∧ BytesAt w bk off l)) :
    Calls Tryd.prog 21 #[sv] w fun e w' => e = .returned (.tuple #[.string ⟨(repB l).toArray⟩, .int .i64 (repN l)]) ∧ Below w.heap.size w w' := by
  refine (callsIn_wide (n := 4)).1 ?_
  refine callsIn_of_wp_marks Tryd.func21 rfl trivial ?_ rfl
  simp only [Tryd.ntmps21, List.size_toArray, List.length_cons, List.length_nil, Nat.reduceAdd, Nat.reduceSub, Array.replicate_succ, Array.replicate_zero, List.push_toArray, List.append_toArray, List.nil_append, List.cons_append]
  have HS := Lib.hid hS
  clear hS
  subst hsv
  gi_wp2_with (refine ⟨trivial, ?_⟩; gi_at_call 27; refine (callsIn_wide.2 (Tryd.Builder_Grow_fresh w.heap.size w.heap.size l.length _ (Nat.le_refl _) (World.alloc_heap_new w _) (by simp) (by omega))).mono ?_)
  rintro e w1 ⟨rfl, hB1, hb1⟩
  have hbw1 : Below w.heap.size w w1 := ((Below.refl _ w).alloc (Nat.le_refl _) _).trans hb1
  have hlt1 := hB1.lt
  have HB1 := Lib.hid hB1
  clear hB1 hb1
  gi_wp2_with (refine ⟨trivial, ?_⟩; gi_at_call 28; refine (callsIn_wide.2 (sequences_any _ _ _ _)).mono ?_)
  rintro e w2 ⟨rfl, hw2⟩
  rw [World.size_alloc]
  have hs2 : w2.heap.size = w1.heap.size + 2 := by rw [hw2]; simp
  have hD2 : Boxed w2 w1.heap.size 3 (.int .i64 0) := by rw [hw2]; exact (Boxed.new w1 _ _).alloc _
  have hB2 : Boxed w2 (w1.heap.size + 1) 22 (.slice a l.length cap') := by
    rw [hw2]
    have := Boxed.new (w1.alloc (Obj.cells #[Value.int IntKind.i64 0] 3)) 22 (.slice a l.length cap')
    rwa [World.size_alloc] at this
  have hA2 : BuiltAt w.heap.size w.heap.size [] w2 := by
    rw [hw2]
    exact BuiltAt.kept (BuiltAt.kept HB1.out (World.grownBy_alloc w1 _ none) (fun r e => by cases e)) (World.grownBy_alloc _ _ none) (fun r e => by cases e)
  have hb2 : Below w.heap.size w w2 := by rw [hw2]; exact (hbw1.alloc hbw1.size _).alloc (by have := hbw1.size; simp; omega) _
  have hT2 : Hid (Tabs w) := hT
  clear hw2 HB1 hT
  have h0 : RepI w l (.slice a l.length cap') w.heap.size w1.heap.size (w1.heap.size + 1) [] w2 := ⟨hA2, hD2, hB2, hb2⟩
  clear hA2 hD2 hb2
  gi_wp2_with fail
  refine wpIn_rangeFunc_ownF rfl (by omega) (gf := 39) (lb := #[.pointer (some ⟨w1.heap.size + 1, 0, none⟩)]) rfl trivial (enters_of Tryd.func39 (by kernel_rfl) rfl)
    (seq_stops 3 (by omega) (w1.heap.size + 1) bk off cap (.slice a l.length cap') l hlen w w2 hT2.out HS.out h0.2.2.2 hB2) KeepS.t (KeepS.b (by have := hbw1.size; omega) (by omega)) (Below.refl _ _) (fun _ => rfl)
    (RepI w l (.slice a l.length cap') w.heap.size w1.heap.size (w1.heap.size + 1)) (fun _ _ _ => False) (repI_own _ _ _ _ _ _ _ (by have := hbw1.size; omega)) (fun _ _ _ _ _ hs _ _ => hs) h0
    (fun x => { tmps := #[.slice a l.length cap', undef, .string ⟨#[]⟩, .int .i64 0, .pointer (some ⟨w.heap.size, 0, none⟩), .pointer (some ⟨w1.heap.size, 0, none⟩), .slice (some ⟨bk, off + x.1.1, none⟩) x.1.2.1 (cap - x.1.1), .bool x.1.2.2, .slice a l.length cap', .int .i64 l.length, .tuple #[], .slice a l.length cap', .func (.func 39) #[] #[.pointer (some ⟨w1.heap.size + 1, 0, none⟩)], .slice (some ⟨bk, off + x.1.1, none⟩) x.1.2.1 (cap - x.1.1), .bool x.1.2.2, undef, undef, undef, undef, undef, undef, undef, undef], defers := [] }) ?assign ?body ?done ?stop
  case assign =>
    intro lp x W K hK
    simp only [segEnc]
    gi_wp2
    exact hK
  case body =>
    rintro lp pre x W hI hlt
    have hfits : ∀ y ∈ pre.map (·.1), Fits l y := fun y hy => by
      obtain ⟨z, _, rfl⟩ := List.mem_map.1 hy
      exact z.2
    have hol := outP_le l (pre.map (·.1)) hfits
    have hbl := badP_le (pre.map (·.1))
    rw [List.length_map] at hol hbl
    obtain ⟨⟨i, k, v⟩, hfx⟩ := x
    obtain ⟨hf1, hf2, hf3⟩ := hfx
    simp only at hf1 hf2 hf3
    obtain ⟨hA, hD, hBx, hBel⟩ := hI
    have hbyt : bk < w.heap.size ∧ BytesAt w bk off l := by
      rcases HS.out with ⟨_, e⟩ | ⟨_, _, h1, h2⟩
      · rw [e] at hf1; simp at hf1; omega
      · exact ⟨h1, h2⟩
    have hneD : w1.heap.size ≠ w.heap.size := by omega
    have hwW := hBel.size
    have hbW := hA.2
    cases v with
    | true =>
      have hnews := (hbyt.2.below hBel hbyt.1).news i k hf1
      have HN := Lib.hid hnews
      have HBY := Lib.hid hbyt
      clear hnews hbyt
      simp only []
      gi_wp2_with (refine ⟨trivial, ?_⟩; gi_at_call 29; refine (CallsIn.inRound lp (callsIn_wide.2 (write_any w.heap.size w.heap.size _ ⟨bk, off + i, none⟩ k (cap - i) (Lib.byteCells ((l.drop i).take k)) W hA (by simp [Lib.byteCells]; omega) HN.out (oneCells _) (by rw [Lib.byteCells_length]; omega) hwW))).mono ?_)
      rintro e W' ⟨rfl, hA', hb', ho'⟩
      obtain ⟨_, hbk, _⟩ := hbW
      have hBx' := Boxed.others hBx ho' (by omega) (by decide)
      have hD' := Boxed.others hD ho' hneD (by decide)
      gi_wp2
      refine ⟨keepsOthers_of ho' hb'.size hbk, ⟨hb', Eq.trans hBx' (Eq.symm hBx)⟩, ?_, ?_, hBx', hBel.trans hb'⟩
      · rw [map_snoc, outP_snoc, byteCells_append]; exact hA'
      · rw [map_snoc, badP_snoc]; exact hD'
    | false =>
      clear hbyt
      simp only []
      gi_wp2_with (refine ⟨trivial, ?_⟩; gi_at_call 30; refine (CallsIn.inRound lp (callsIn_wide.2 (writeByte_any w.heap.size w.heap.size _ 63 W hA (by rw [Lib.byteCells_length]; omega) hwW))).mono ?_)
      rintro e W' ⟨rfl, hA', hb', ho'⟩
      obtain ⟨_, hbk, _⟩ := hbW
      have hBx' := Boxed.others hBx ho' (by omega) (by decide)
      have hD' := Boxed.others hD ho' hneD (by decide)
      have hDc := hD'.cell
      have hDf := hD'.frozen
      have hko := keepsOthers_of ho' hb'.size hbk
      have HA' := Lib.hid hA'
      have HO := Lib.hid ho'
      clear ho' hA'
      gi_wp2
      have hg := grownBy_setCell' W' w1.heap.size (Value.int IntKind.i64 (↑(badP (List.map (fun x => x.val) pre)) + 1))
      have hBx2 : Boxed (W'.setCell ⟨w1.heap.size, 0, none⟩ (Value.int IntKind.i64 (↑(badP (List.map (fun x => x.val) pre)) + 1))) (w1.heap.size + 1) 22 (.slice a l.length cap') := Boxed.kept hBx' hg (by simp)
      refine ⟨hko.trans (KeepsOthers.setCell _ _ _), ⟨hb'.setCell (p := ⟨w1.heap.size, 0, none⟩) (by simp only []; omega) _, Eq.trans hBx2 (Eq.symm hBx)⟩, ?_, ?_, hBx2, (hBel.trans hb').setCell (p := ⟨w1.heap.size, 0, none⟩) (by simp only []; omega) _⟩
      · rw [map_snoc, outP_snoc, byteCells_append]; exact BuiltAt.setBox HA'.out hD' hneD (by decide) _
      · rw [map_snoc, badP_snoc]; exact Boxed.set _ hD'
  case done =>
    rintro D ys W hDs hys hI hK
    obtain ⟨hA, hD, hBx, hBel⟩ := hI
    have hDc := hD.cell
    have hF : Lib.IsBuilderF 62 5 w.heap.size w.heap.size (Lib.byteCells (repB l)) W := by
      have e : repB l = outP l (ys.map (·.1)) := by rw [hys]; rfl
      rw [e]
      exact Lib.IsBuilderF.of (.inr hA)
    have hne : w1.heap.size ≠ w.heap.size := by omega
    have hwW := hBel.size
    have hnn : badP (ys.map (·.1)) = repN l := by rw [hys]; rfl
    rw [hnn] at hD hDc
    obtain ⟨_, hbk, _⟩ := hA.2
    have hmx : Tryd.prog.follows .mixedOrders = true := by kernel_rfl
    gi_wp2_with fail
    refine wpIn_mono (Q := AtEnd { tmps := #[.slice a l.length cap', undef, .string ⟨(repB l).toArray⟩, .int .i64 (repN l), .pointer (some ⟨w.heap.size, 0, none⟩), .pointer (some ⟨w1.heap.size, 0, none⟩), undef, undef, .slice a l.length cap', .int .i64 l.length, .tuple #[], .slice a l.length cap', .func (.func 39) #[] #[.pointer (some ⟨w1.heap.size + 1, 0, none⟩)], undef, undef, undef, undef, undef, undef, undef, undef, .string ⟨(repB l).toArray⟩, .int .i64 (repN l)], defers := [{ target := .collected D, args := #[] }] } w.heap.size w D) ?_ ?_
    · gi_region_with_o (first | (refine ⟨trivial, ?_⟩; gi_at_call 31; refine (callsIn_wide.2 (Tryd.Builder_String_any_k w.heap.size w.heap.size (repB l) _ (by exact hF) (by exact hwW))).mono ?_; rintro e W' ⟨rfl, _, hb', ho'⟩; have hDc' := (Boxed.others (show Boxed W.drew w1.heap.size 3 (.int .i64 (repN l)) from hD) ho' hne (by decide)).cell; have hKd := (keepsOthers_of (cs := _) ho' hb'.size hbk).same) | fail)
      all_goals exact ⟨rfl, hBel.drew.trans hb', hKd _ _ hK rfl⟩
    · rintro e a' W' h
      cases e with
      | normal =>
        obtain ⟨rfl, hb, hK'⟩ := h
        gi_wp2
        refine ⟨by simp, .inl ⟨_, _, rfl, run_takeDeferred hK', ?_⟩⟩
        exact ⟨.tuple #[.string ⟨(repB l).toArray⟩, .int .i64 (repN l)], by simp [results, Tryd.f21, go_sem], rfl, hb.trans (belowK_b (w := w) (Nat.le_refl _) W' D _ _ (by omega) hK' rfl rfl)⟩
      | _ => exact h.elim
  case stop =>
    rintro D c pre W _ _ h _
    exact h.elim

theorem repair_any (sv : Value) (l : List UInt8) (hlen : l.length ≤ 4194304) (w : World) (hT : Tabs w) (hS : SlcAt w w.heap.size sv l) :
    Calls Tryd.prog 21 #[sv] w fun e w' => e = .returned (.tuple #[.string ⟨(repB l).toArray⟩, .int .i64 (repN l)]) ∧ Below w.heap.size w w' := by
  rcases hS with ⟨a, c, rfl, rfl⟩ | ⟨bk, off, cap, rfl, hcap, hbk, hc⟩
  · exact repair_ex _ 0 0 0 [] hlen w hT a c rfl (.inl ⟨⟨a, c, rfl⟩, rfl⟩)
  · exact repair_ex _ bk off cap l hlen w hT _ cap rfl (.inr ⟨rfl, hcap, hbk, hc⟩)
end Go.Proofs.YtbpboghjgbgjfaaDoor
