/- What the walk of SpoilNode needs: the law of an append whose run is known, the copy of ranges, a node stored into a row. -/
import Derived.Test.YtfmoidhpafpgnaaSpoilDep
import Derived.Test.YtfmoidhpafpgnaaSpoilI
import Derived.Test.YtfmoidhpafpgnaaPatRgs
namespace Go.Proofs.Ytfmoidhpafpgnaa
open Go.RowKit

theorem wpList_append_run {P : Program} {ops : Array Oper} {rest : List Oper} {o : Oper} {a : Act} {w : World} {Q : Exit → Act → World → Prop} (hgd : o.guard = none) (s x : Operand) (t : TypeId)
    (ho : o.op = .call { callee := .builtin .append, args := #[s, x], argTypes := #[t, t] }) (v xv : Value) (hs : a.eval s = v) (hx : a.eval x = xv) {v' : Value} {w' : World}
    (hr : (Builtin.append_ #[t, t] o.type #[v, xv]).run P w = .ok v' w') (h : wpList P ops Q rest (a.put o.dst v') w') : wpList P ops Q (o :: rest) a w := by
  refine wpList_plain hgd fun K hK => ?_
  unfold Oper.wp execOp
  simp only [ho, resolve, invoke, builtin, Sem.run_bind, Sem.run_pure, Result.andThen_ok, List.map_toArray, List.map_cons, List.map_nil, hs, hx, hr]
  exact hK _ _ h

/-- The copy of a node's ranges. -/
theorem copy_ranges {S : Nat → Prop} {w : World} {a : Option Addr} {c : Nat} {rs : List (Nat × Nat)} (h : RangesS S w (.slice a rs.length c) rs) (hl : rs.length ≤ 100) :
    ∃ v' w', (Builtin.append_ #[22, 22] 22 #[.slice none 0 0, .slice a rs.length c]).run Try.prog w = .ok v' w' ∧ w.grownBy w' none ∧ w'.ownsRow w.heap.size 46 2 v' rs.length (rsList rs) := by
  obtain ⟨i0, hi, hz0, hz1, hz2⟩ := info_parts infoRange
  have hnil : w.ownsRow w.heap.size 46 2 (.slice none 0 0) 0 [] := World.ownsRow_nil _ _ _ _
  obtain ⟨a', c', hv, -, hb, hc⟩ := h
  simp only [Value.slice.injEq, true_and] at hv
  obtain ⟨rfl, rfl⟩ := hv
  by_cases h0 : rs = []
  · subst h0
    cases a with
    | none =>
      refine ⟨.slice none 0 0, w, ?_, ⟨rfl, rfl, rfl, Nat.le_refl _, fun _ _ _ => rfl⟩, hnil⟩
      simp [Builtin.append_, run_underlying Try.underlying22, sizeOf, typeInfo, hi, Builtin.lenOf, Builtin.firstCells]
    | some ad =>
      obtain ⟨v', w', h1, h2, h3, -, -⟩ := run_append_own_at (P := Try.prog) w w.heap.size 22 22 46 i0 _ 2 2 Try.underlying22 hi hz0 hz1 hz2 rfl (by decide) _ 0 [] hnil ad 0 c [] rfl (fun j u hj => by simp at hj) (fun u hu => by cases hu) (by unfold maxLen; omega) (by omega) (Nat.le_refl _)
      exact ⟨v', w', h1, h3, h2⟩
  · have hp : 0 < rs.length := List.length_pos_iff.2 h0
    obtain ⟨b, o, rfl, -, -, -⟩ := hc 0 hp
    have hcell : ∀ j u, (rsList rs)[j]? = some u → w.cell? ((⟨b, o, none⟩ : Addr).add j) = some u := fun j u hj => by
      have hjl : j < rs.length * 2 := by rw [← rsList_len]; exact (List.getElem?_eq_some_iff.1 hj).1
      have hi2 : j / 2 < rs.length := by omega
      obtain ⟨b', o', he, -, h1, h2⟩ := hc (j / 2) hi2
      simp only [Option.some.injEq, Addr.mk.injEq, and_true] at he
      obtain ⟨rfl, rfl⟩ := he
      have hg := rsList_get rs (j / 2) hi2
      have ead : (⟨b, o, none⟩ : Addr).add j = ⟨b, o + j, none⟩ := by
        unfold Addr.add
        split
        · rename_i hz; rw [hz]; rfl
        · rfl
      rw [ead]
      by_cases hm : j % 2 = 0
      · have e : j / 2 * 2 = j := by omega
        rw [e] at hg h1
        rw [hg.1] at hj
        rw [h1, ← hj]
      · have e : j / 2 * 2 + 1 = j := by omega
        have e2 : o + j / 2 * 2 + 1 = o + j := by omega
        rw [e] at hg
        rw [hg.2] at hj
        rw [← e2, h2, ← hj]
    have hone : ∀ u ∈ rsList rs, u.oneCell' = true := fun u hu => by
      unfold rsList at hu
      obtain ⟨x, -, hu⟩ := List.mem_flatMap.1 hu
      simp at hu
      rcases hu with rfl | rfl <;> rfl
    obtain ⟨v', w', h1, h2, h3, -, -⟩ := run_append_own_at (P := Try.prog) w w.heap.size 22 22 46 i0 _ 2 2 Try.underlying22 hi hz0 hz1 hz2 rfl (by decide) _ 0 [] hnil ⟨b, o, none⟩ rs.length c (rsList rs) (rsList_len rs) hcell hone (by unfold maxLen; omega) (by omega) (Nat.le_refl _)
    exact ⟨v', w', h1, h3, by simpa using h2⟩

theorem cso {w : World} {a b : Addr} {v : Value} (h : a ≠ b) : (w.setCell a v).cell? b = w.cell? b := World.cell?_setCell_other w a b v h
theorem css {w : World} {a : Addr} {v u : Value} (h : w.cell? a = some u) : (w.setCell a v).cell? a = some v := World.cell?_setCell_same w a v h
/-- Six cells of a row, written one after the other. -/
def putRow (w : World) (g o : Nat) (v0 v1 v2 v3 v4 v5 : Value) : World :=
  (((((w.setCell ⟨g, o, none⟩ v0).setCell ⟨g, o + 1, none⟩ v1).setCell ⟨g, o + 2, none⟩ v2).setCell ⟨g, o + 3, none⟩ v3).setCell ⟨g, o + 4, none⟩ v4).setCell ⟨g, o + 5, none⟩ v5
theorem putRow_grown (w : World) (g o : Nat) (v0 v1 v2 v3 v4 v5 : Value) : w.grownBy (putRow w g o v0 v1 v2 v3 v4 v5) (some g) := by
  have st : ∀ (W : World) (o : Nat) (v : Value), W.grownBy (W.setCell ⟨g, o, none⟩ v) (some g) := fun W o v => (Fr.refl g W).setCell o v
  unfold putRow
  exact Fr.trans (Fr.trans (Fr.trans (Fr.trans (Fr.trans (st _ _ _) (st _ _ _)) (st _ _ _)) (st _ _ _)) (st _ _ _)) (st _ _ _)
theorem putRow_other {w : World} {g o : Nat} {v0 v1 v2 v3 v4 v5 : Value} {b x : Nat} (h : b ≠ g ∨ x < o ∨ o + 6 ≤ x) : (putRow w g o v0 v1 v2 v3 v4 v5).cell? ⟨b, x, none⟩ = w.cell? ⟨b, x, none⟩ := by
  unfold putRow
  rw [cso (by simp; omega), cso (by simp; omega), cso (by simp; omega), cso (by simp; omega), cso (by simp; omega), cso (by simp; omega)]
theorem putRow_at {w : World} {g o : Nat} {v0 v1 v2 v3 v4 v5 : Value} (h : ∀ c, c < 6 → ∃ u, w.cell? ⟨g, o + c, none⟩ = some u) : CellsAt (putRow w g o v0 v1 v2 v3 v4 v5) g o #[v0, v1, v2, v3, v4, v5] := by
  have key : ∀ (W : World) (x y : Nat) (v : Value), (∃ u, W.cell? ⟨g, y, none⟩ = some u) → ∃ u, (W.setCell ⟨g, x, none⟩ v).cell? ⟨g, y, none⟩ = some u := fun W x y v ⟨u, hu⟩ => by
    by_cases e : x = y
    · subst e; exact ⟨v, css hu⟩
    · exact ⟨u, by rw [cso (fun h => e (by injection h))]; exact hu⟩
  have same : ∀ (W : World) (x : Nat) (v : Value), (∃ u, W.cell? ⟨g, x, none⟩ = some u) → (W.setCell ⟨g, x, none⟩ v).cell? ⟨g, x, none⟩ = some v := fun W x v ⟨u, hu⟩ => css hu
  intro c u hu
  unfold putRow
  match c, hu with
  | 0, hu =>
    simp at hu; subst hu
    rw [cso (by simp), cso (by simp), cso (by simp), cso (by simp), cso (by simp)]
    exact same _ _ _ (h 0 (by omega))
  | 1, hu =>
    simp at hu; subst hu
    rw [cso (by simp), cso (by simp), cso (by simp), cso (by simp)]
    exact same _ _ _ (key _ _ _ _ (h 1 (by omega)))
  | 2, hu =>
    simp at hu; subst hu
    rw [cso (by simp), cso (by simp), cso (by simp)]
    exact same _ _ _ (key _ _ _ _ (key _ _ _ _ (h 2 (by omega))))
  | 3, hu =>
    simp at hu; subst hu
    rw [cso (by simp), cso (by simp)]
    exact same _ _ _ (key _ _ _ _ (key _ _ _ _ (key _ _ _ _ (h 3 (by omega)))))
  | 4, hu =>
    simp at hu; subst hu
    rw [cso (by simp)]
    exact same _ _ _ (key _ _ _ _ (key _ _ _ _ (key _ _ _ _ (key _ _ _ _ (h 4 (by omega))))))
  | 5, hu =>
    simp at hu; subst hu
    exact same _ _ _ (key _ _ _ _ (key _ _ _ _ (key _ _ _ _ (key _ _ _ _ (key _ _ _ _ (h 5 (by omega)))))))
  | n + 6, hu => simp at hu
theorem SixOf.cells {t : Nd} {a : Array Value} (h : SixOf t a) (c : Nat) (hc : c < 6) : ∃ u, a[c]? = some u := by
  obtain ⟨ra, rc, ka, kc, rfl⟩ := h
  match c, hc with
  | 0, _ => exact ⟨_, rfl⟩
  | 1, _ => exact ⟨_, rfl⟩
  | 2, _ => exact ⟨_, rfl⟩
  | 3, _ => exact ⟨_, rfl⟩
  | 4, _ => exact ⟨_, rfl⟩
  | 5, _ => exact ⟨_, rfl⟩
theorem krow_set {S : Nat → Prop} {w : World} {g i : Nat} {l : List Nd} {t : Nd} {v0 v1 v2 v3 v4 v5 : Value} (h : KRow S w g l) (hg : ¬ S g) (hi : i < l.length) (hs : SixOf t #[v0, v1, v2, v3, v4, v5]) (hn : NodeS S w t (.agg #[v0, v1, v2, v3, v4, v5])) :
    KRow S (putRow w g (i * 6) v0 v1 v2 v3 v4 v5) g (l.set i t) := fun j hj => by
  have hag : Agree S w (putRow w g (i * 6) v0 v1 v2 v3 v4 v5) := agree_grown (putRow_grown _ _ _ _ _ _ _ _ _) fun b hb hsb => hg (by cases hb; exact hsb)
  have hj' : j < l.length := by simpa using hj
  by_cases hji : j = i
  · subst hji
    rw [List.getElem_set_self]
    refine ⟨_, hs, NodeS.to hag (fun _ h => h) _ _ hn, putRow_at fun c hc => ?_⟩
    obtain ⟨a, hsa, -, hca⟩ := h j hj'
    obtain ⟨u, hu⟩ := hsa.cells c hc
    exact ⟨u, hca c u hu⟩
  · rw [List.getElem_set_ne (fun e => hji e.symm)]
    obtain ⟨a, hsa, hna, hca⟩ := h j hj'
    refine ⟨a, hsa, NodeS.to hag (fun _ h => h) _ _ hna, fun c u hu => ?_⟩
    have hc6 : c < 6 := by
      have h6 := hsa.size
      have : c < a.size := (Array.getElem?_eq_some_iff.1 hu).1
      rw [← Array.length_toList, h6] at this; exact this
    rw [putRow_other (by omega)]
    exact hca c u hu
theorem slim_set {k : Nat} {l : List Nd} {t : Nd} (i : Nat) (h : ∀ x ∈ l, Slim k x) (ht : Slim k t) : ∀ x ∈ l.set i t, Slim k x := fun x hx => by
  rcases List.mem_or_eq_of_mem_set hx with h1 | h1
  · exact h x h1
  · rw [h1]; exact ht
theorem slim_up {k k' : Nat} (h : k ≤ k') : ∀ (t : Nd), Slim k t → Slim k' t := Nd.induct fun op rs nm kids mn mx ih hs => by
  cases hs with
  | mk h1 h2 h3 => exact .mk (by omega) (by omega) fun x hx => ih x hx (h3 x hx)
theorem RangesS.len {S : Nat → Prop} {w : World} {v : Value} {rs : List (Nat × Nat)} (h : RangesS S w v rs) : ∃ a c, v = .slice a rs.length c := by
  obtain ⟨a, c, hv, -⟩ := h; exact ⟨a, c, hv⟩
theorem rangesS_own {S : Nat → Prop} {base : Nat} {w : World} {v : Value} {l : List (Nat × Nat)} (h : w.ownsRow base 46 2 v l.length (rsList l)) (hl : l.length ≤ 256) (hb : ∀ x ∈ l, x.1 < 256 ∧ x.2 < 256) (hS : ∀ b, base ≤ b → S b) : RangesS S w v l := by
  obtain ⟨a, c, hv, h1, h2, h3⟩ := ranges_of_own h hl hb
  refine ⟨a, c, hv, h1, h2, fun i hi => ?_⟩
  obtain ⟨b, o, ha, hlo, h4, h5⟩ := h3 i hi
  exact ⟨b, o, ha, hS b hlo, h4, h5⟩

/-- What SpoilNode answers: some tree. -/
def SpOut (S : Nat → Prop) (C k : Nat) (w : World) (e : Ending) (w' : World) : Prop :=
  ∃ (t : Nd) (v : Value), e = .returned v ∧ NodeS (fun b => S b ∨ w.heap.size ≤ b) w' t v ∧ MkAt C w' ∧ Fr C w w' ∧ Slim (k + 1) t
def SpOk (t : Nd) : Prop := ∀ (S : Nat → Prop) (C k : Nat) (w : World) (v : Value), NodeS S w t v → MkAt C w → (∀ b, S b → C < b ∧ b < w.heap.size) → Slim k t → k ≤ 50 →
  Calls Try.prog 7 #[.pointer (some ⟨C, 0, none⟩), v] w (SpOut S C k w)
abbrev zAgg : Value := .agg #[.int .i64 0, .slice none 0 0, .string ⟨#[]⟩, .slice none 0 0, .int .i64 0, .int .i64 0]
/-- What the walk holds before it changes the copy. -/
structure SwAt (S : Nat → Prop) (C X : Nat) (w wr : World) (op : Int) (rv : Value) (rs : List (Nat × Nat)) (nm : ByteArray) (kv : Value) (kids : List Nd) (mn mx : Int) : Prop where
  mkc : MkAt C wr
  box : NBox wr X (.int .i64 op) rv (.string nm) kv (.int .i64 mn) (.int .i64 mx)
  res : NBox wr (X + 1) (.int .i64 0) (.slice none 0 0) (.string ⟨#[]⟩) (.slice none 0 0) (.int .i64 0) (.int .i64 0)
  own : OwnK S (X + 2) wr kv kids
  fr : Fr C w wr
  rng : RangesS S wr rv rs
  sz : X + 2 ≤ wr.heap.size
  low : ∀ b, S b → C < b ∧ b < X
  cx : C < X
  hx : X = w.heap.size
theorem SwAt.go {S : Nat → Prop} {C X : Nat} {w w3 w5 : World} {op : Int} {rv : Value} {rs : List (Nat × Nat)} {nm : ByteArray} {kv : Value} {kids : List Nd} {mn mx : Int} (h : SwAt S C X w w3 op rv rs nm kv kids mn mx) (hm : MkAt C w5) (hf : Fr C w3 w5) : SwAt S C X w w5 op rv rs nm kv kids mn mx := by
  have hc := h.cx
  have ag : Agree S w3 w5 := agree_grown hf fun b hb hs => by cases hb; have := (h.low _ hs).1; omega
  refine ⟨hm, h.box.fr hf (by omega), h.res.fr hf (by omega), h.own.grown hf fun b hb => ?_, h.fr.trans hf, h.rng.to ag fun _ h => h, Nat.le_trans h.sz hf.size, h.low, hc, h.hx⟩
  cases hb
  exact ⟨fun hs => by have := (h.low _ hs).1; omega, fun e => by have := (h.own.lt _ e).1; omega⟩
/-- The blocks of the answer. -/
def NewS (S : Nat → Prop) (X b : Nat) : Prop := S b ∨ X + 2 ≤ b
theorem sp_done {S : Nat → Prop} {C k X : Nat} {w W : World} {t : Nd} {v0 v1 v2 v3 v4 v5 : Value} (hm : MkAt C W) (hf : Fr C w W) (hx : X = w.heap.size) (hl : ∀ b, S b → C < b ∧ b < X) (hc : C < X) (hn : NodeS (NewS S X) W t (.agg #[v0, v1, v2, v3, v4, v5])) (hs : Slim (k + 1) t) :
    SpOut S C k w (.returned (.agg #[v0, v1, v2, v3, v4, v5])) (put6 W (X + 1) v0 v1 v2 v3 v4 v5) := by
  refine ⟨t, _, rfl, NodeS.to (S := NewS S X) ?_ ?_ _ _ hn, mk_put6 hm (by omega) _ _ _ _ _ _, put6_fr hf (by omega) _ _ _ _ _ _, hs⟩
  · have hX : ¬ NewS S X (X + 1) := fun h => by
      rcases h with h | h
      · have := (hl _ h).2; omega
      · omega
    unfold put6
    exact ((((((agree_put _ _ _ hX).trans (agree_put _ _ _ hX)).trans (agree_put _ _ _ hX)).trans (agree_put _ _ _ hX)).trans (agree_put _ _ _ hX)).trans (agree_put _ _ _ hX))
  · intro b h
    rcases h with h | h
    · exact .inl h
    · exact .inr (by omega)
theorem newS_x {S : Nat → Prop} {C X : Nat} (hl : ∀ b, S b → C < b ∧ b < X) : ¬ NewS S X X := fun h => by
  rcases h with h | h
  · have := (hl _ h).2; omega
  · omega
/-- One cell of the copy written, where the node that then stands there is known. -/
theorem sp_put {S : Nat → Prop} {C k X o : Nat} {w W : World} {t : Nd} {u v0 v1 v2 v3 v4 v5 : Value} (hm : MkAt C W) (hf : Fr C w W) (hx : X = w.heap.size) (hl : ∀ b, S b → C < b ∧ b < X) (hc : C < X) (hn : NodeS (NewS S X) W t (.agg #[v0, v1, v2, v3, v4, v5])) (hs : Slim (k + 1) t) :
    SpOut S C k w (.returned (.agg #[v0, v1, v2, v3, v4, v5])) (put6 (W.setCell ⟨X, o, none⟩ u) (X + 1) v0 v1 v2 v3 v4 v5) :=
  sp_done (mk_put hm hc o u) (fr_put hf (by omega) o u) hx hl hc (NodeS.to (agree_put _ _ _ (newS_x hl)) (fun _ h => h) _ _ hn) hs
theorem nodeS_at {S : Nat → Prop} {w : World} {op : Int} {rs : List (Nat × Nat)} {nm : ByteArray} {kids : List Nd} {mn mx : Int} {rv : Value} {ka : Option Addr} {kc n : Nat} (hn : kids.length = n)
    (h1 : i64In op) (h2 : i64In mn) (h3 : i64In mx) (h4 : nm.size ≤ maxLen) (h5 : n ≤ maxLen) (hr : RangesS S w rv rs) (hk : KDep S w kids ka) :
    NodeS S w (.mk op rs nm kids mn mx) (.agg #[.int .i64 op, rv, .string nm, .slice ka n kc, .int .i64 mn, .int .i64 mx]) := by
  subst hn
  exact nodeS_mk h1 h2 h3 h4 h5 hr hk
theorem SwAt.rngN {S : Nat → Prop} {C X : Nat} {w w3 : World} {op : Int} {rv : Value} {rs : List (Nat × Nat)} {nm : ByteArray} {kv : Value} {kids : List Nd} {mn mx : Int} (h : SwAt S C X w w3 op rv rs nm kv kids mn mx) : RangesS (NewS S X) w3 rv rs :=
  h.rng.to (agree_refl _ _) fun _ h => .inl h
theorem SwAt.kidN {S : Nat → Prop} {C X : Nat} {w w3 : World} {op : Int} {rv : Value} {rs : List (Nat × Nat)} {nm : ByteArray} {ka : Option Addr} {n c : Nat} {kids : List Nd} {mn mx : Int} (h : SwAt S C X w w3 op rv rs nm (.slice ka n c) kids mn mx) : KDep (NewS S X) w3 kids ka :=
  h.own.kdep (fun _ h => .inl h) fun _ h => .inr h
theorem nil_ranges (S : Nat → Prop) (w : World) : RangesS S w (.slice none 0 0) [] := ⟨none, 0, rfl, by unfold maxLen; simp, by simp, fun i hi => by simp at hi⟩
theorem nbox_put6 {w : World} {X : Nat} {u0 u1 u2 u3 u4 u5 : Value} (h : NBox w X u0 u1 u2 u3 u4 u5) (v0 v1 v2 v3 v4 v5 : Value) : NBox (put6 w X v0 v1 v2 v3 v4 v5) X v0 v1 v2 v3 v4 v5 := by
  unfold NBox at *
  simp [put6, World.setCell, Array.getElem?_modify, h]
theorem nbox_other {w : World} {X R : Nat} {u0 u1 u2 u3 u4 u5 : Value} (h : NBox w R u0 u1 u2 u3 u4 u5) (hne : R ≠ X) (v0 v1 v2 v3 v4 v5 : Value) : NBox (put6 w X v0 v1 v2 v3 v4 v5) R u0 u1 u2 u3 u4 u5 := by
  unfold NBox at *
  simp [put6, World.setCell, Array.getElem?_modify, h, hne.symm]
theorem OwnK.snoc {S : Nat → Prop} {base : Nat} {w w' : World} {v v' : Value} {l : List Nd} (A : Nat → Array Value) (t : Nd) (a : Array Value)
    (hn : ∀ i (h : i < l.length), SixOf l[i] (A i) ∧ NodeS S w l[i] (.agg (A i)))
    (hown' : w'.ownsRow base 25 6 v' (l.length + 1) (flat6 A l.length ++ a.toList)) (hg : w.grownBy w' v.ownBlock) (hb : ∀ b, v.ownBlock = some b → ¬ S b) (hs : SixOf t a) (ht : NodeS S w t (.agg a)) : OwnK S base w' v' (l ++ [t]) := by
  have ag : Agree S w w' := agree_grown hg hb
  refine ⟨fun j => if j = l.length then a else A j, by rw [List.length_append, List.length_singleton, flat6_snoc]; exact hown', fun i hi => ?_⟩
  by_cases hil : i < l.length
  · have e : (l ++ [t])[i] = l[i] := by rw [List.getElem_append_left hil]
    have e2 : (fun j => if j = l.length then a else A j) i = A i := if_neg (by omega)
    rw [e, e2]
    exact ⟨(hn i hil).1, NodeS.to ag (fun _ h => h) _ _ (hn i hil).2⟩
  · have : i = l.length := by simp at hi; omega
    subst this
    have e : (l ++ [t])[l.length] = t := by simp
    have e2 : (fun j => if j = l.length then a else A j) l.length = a := if_pos rfl
    rw [e, e2]
    exact ⟨hs, NodeS.to ag (fun _ h => h) _ _ ht⟩
theorem leaf_nodeS (S : Nat → Prop) (w : World) : NodeS S w (ndLeaf 0) zAgg := nodeS_mk (kids := []) (by unfold i64In; omega) (by unfold i64In; omega) (by unfold i64In; omega) (by unfold maxLen; decide) (by unfold maxLen; simp) (nil_ranges S w) (.inl rfl)
theorem SwAt.boxes {S : Nat → Prop} {C X : Nat} {w w3 w5 : World} {op : Int} {rv : Value} {rs : List (Nat × Nat)} {nm : ByteArray} {kv : Value} {kids : List Nd} {mn mx : Int} {row : Option Nat} (h : SwAt S C X w w3 op rv rs nm kv kids mn mx) (hg : w3.grownBy w5 row) (hr : ∀ b, row = some b → X + 2 ≤ b) :
    MkAt C w5 ∧ NBox w5 X (.int .i64 op) rv (.string nm) kv (.int .i64 mn) (.int .i64 mx) ∧ NBox w5 (X + 1) (.int .i64 0) (.slice none 0 0) (.string ⟨#[]⟩) (.slice none 0 0) (.int .i64 0) (.int .i64 0) ∧ Fr C w w5 ∧ RangesS S w5 rv rs ∧ X + 2 ≤ w5.heap.size := by
  have hc := h.cx
  have hx := h.hx
  refine ⟨h.mkc.grown hg fun b hb => by have := hr b hb; omega, h.box.grown hg fun b hb => by have := hr b hb; omega, h.res.grown hg fun b hb => by have := hr b hb; omega, ?_, h.rng.to (agree_grown hg fun b hb hs => by have := hr b hb; have := (h.low _ hs).2; omega) fun _ h => h, Nat.le_trans h.sz (World.grownBy.size hg)⟩
  exact ⟨hg.os.trans h.fr.os, hg.tape.trans h.fr.tape, hg.output.trans h.fr.output, Nat.le_trans h.fr.size (World.grownBy.size hg), fun i hi hn => (World.grownBy.block hg i (Nat.lt_of_lt_of_le hi h.fr.size) fun e => by have := hr i e.symm; omega).trans (World.grownBy.block h.fr i hi hn)⟩
theorem SwAt.goRow {S : Nat → Prop} {C X : Nat} {w w3 w5 : World} {op : Int} {rv : Value} {rs : List (Nat × Nat)} {nm : ByteArray} {kv : Value} {kids : List Nd} {mn mx : Int} {row : Option Nat} (h : SwAt S C X w w3 op rv rs nm kv kids mn mx) (hg : w3.grownBy w5 row) (hr : ∀ b, row = some b → X + 2 ≤ b ∧ kv.ownBlock ≠ some b) : SwAt S C X w w5 op rv rs nm kv kids mn mx := by
  obtain ⟨h1, h2, h3, h4, h5, h6⟩ := h.boxes hg fun b hb => (hr b hb).1
  exact ⟨h1, h2, h3, h.own.grown hg fun b hb => ⟨fun hs => by have := (hr b hb).1; have := (h.low _ hs).2; omega, (hr b hb).2⟩, h4, h5, h6, h.low, h.cx, h.hx⟩
/-- What the loop holds that wraps the node. -/
structure LpS (S : Nat → Prop) (C k X : Nat) (w wr : World) (t : Nd) (op : Int) (ra : Option Addr) (rl rc : Nat) (nm : ByteArray) (ka : Option Addr) (n kc : Nat) (mn mx : Int) : Prop where
  mkc : MkAt C wr
  box : NBox wr X (.int .i64 op) (.slice ra rl rc) (.string nm) (.slice ka n kc) (.int .i64 mn) (.int .i64 mx)
  res : NBox wr (X + 1) (.int .i64 0) (.slice none 0 0) (.string ⟨#[]⟩) (.slice none 0 0) (.int .i64 0) (.int .i64 0)
  fr : Fr C w wr
  nd : NodeS (NewS S X) wr t (.agg #[.int .i64 op, .slice ra rl rc, .string nm, .slice ka n kc, .int .i64 mn, .int .i64 mx])
  sl : Slim (k + 1) t
  sz : X + 2 ≤ wr.heap.size
  low : ∀ b, S b → C < b ∧ b < X
  cx : C < X
  hx : X = w.heap.size
theorem LpS.step {S : Nat → Prop} {C k X : Nat} {w wr : World} {t : Nd} {op : Int} {ra : Option Addr} {rl rc : Nat} {nm : ByteArray} {ka : Option Addr} {n kc : Nat} {mn mx : Int} (h : LpS S C k X w wr t op ra rl rc nm ka n kc mn mx) :
    LpS S C k X w (put6 (wr.alloc (.cells #[.int .i64 op, .slice ra rl rc, .string nm, .slice ka n kc, .int .i64 mn, .int .i64 mx] 25)) X (.int .i64 4) (.slice none 0 0) (.string ⟨#[]⟩) (.slice (some ⟨wr.heap.size, 0, none⟩) 1 1) (.int .i64 0) (.int .i64 1)) (.mk 4 [] ⟨#[]⟩ [t] 0 1) 4 none 0 0 ⟨#[]⟩ (some ⟨wr.heap.size, 0, none⟩) 1 1 0 1 := by
  have hc := h.cx
  have hx := h.hx
  have hsz := h.sz
  have hX := newS_x (S := S) (C := C) (X := X) h.low
  have hb := heap_alloc_new wr (.cells #[.int .i64 op, .slice ra rl rc, .string nm, .slice ka n kc, .int .i64 mn, .int .i64 mx] 25)
  have ag : Agree (NewS S X) (wr.alloc (.cells #[.int .i64 op, .slice ra rl rc, .string nm, .slice ka n kc, .int .i64 mn, .int .i64 mx] 25)) (put6 (wr.alloc (.cells #[.int .i64 op, .slice ra rl rc, .string nm, .slice ka n kc, .int .i64 mn, .int .i64 mx] 25)) X (.int .i64 4) (.slice none 0 0) (.string ⟨#[]⟩) (.slice (some ⟨wr.heap.size, 0, none⟩) 1 1) (.int .i64 0) (.int .i64 1)) := by
    unfold put6
    exact ((((((agree_put _ _ _ hX).trans (agree_put _ _ _ hX)).trans (agree_put _ _ _ hX)).trans (agree_put _ _ _ hX)).trans (agree_put _ _ _ hX)).trans (agree_put _ _ _ hX))
  have hk : KidsS (NewS S X) (wr.alloc (.cells #[.int .i64 op, .slice ra rl rc, .string nm, .slice ka n kc, .int .i64 mn, .int .i64 mx] 25)) [t] wr.heap.size 0 := by
    unfold KidsS
    refine ⟨⟨op, .slice ra rl rc, nm, .slice ka n kc, mn, mx, NodeS.to (agree_grown (World.grownBy_alloc wr _ none) fun b hb => by cases hb) (fun _ h => h) _ _ h.nd, ?_, ?_, ?_, ?_, ?_, ?_⟩, by unfold KidsS; trivial⟩
    all_goals (rw [Lib.cell_of_heap hb]; rfl)
  have hnew : NewS S X wr.heap.size := .inr (by omega)
  refine ⟨mk_put6 (h.mkc.alloc _) hc _ _ _ _ _ _, nbox_put6 (h.box.alloc _) _ _ _ _ _ _, nbox_other (h.res.alloc _) (by omega) _ _ _ _ _ _, put6_fr (h.fr.alloc _) (by omega) _ _ _ _ _ _, ?_, .mk (by simp) (by simp) (by simpa using h.sl), ?_, h.low, hc, hx⟩
  · exact nodeS_at (kids := [t]) rfl (by unfold i64In; omega) (by unfold i64In; omega) (by unfold i64In; omega) (by unfold maxLen; decide) (by unfold maxLen; omega) (nil_ranges _ _) (.inr ⟨_, _, rfl, hnew, KidsS.to ag (fun _ h => h) _ _ _ hnew hk⟩)
  · simp [put6, World.setCell]; omega
/-- A kid of the copy written. -/
theorem sp_row {S S6 : Nat → Prop} {C X : Nat} {w w6 : World} {op : Int} {rv : Value} {rs : List (Nat × Nat)} {nm : ByteArray} {g n c2 i : Nat} {kids : List Nd} {mn mx : Int} {t6 : Nd} {u0 u1 u2 u3 u4 u5 : Value}
    (h : SwAt S C X w w6 op rv rs nm (.slice (some ⟨g, 0, none⟩) n c2) kids mn mx) (hn : NodeS S6 w6 t6 (.agg #[u0, u1, u2, u3, u4, u5])) (hS6 : ∀ b, S6 b → NewS S X b ∧ b ≠ g) (hg : X + 2 ≤ g) (hi : i < kids.length) (hs : SixOf t6 #[u0, u1, u2, u3, u4, u5]) :
    MkAt C (putRow w6 g (i * 6) u0 u1 u2 u3 u4 u5) ∧ NBox (putRow w6 g (i * 6) u0 u1 u2 u3 u4 u5) X (.int .i64 op) rv (.string nm) (.slice (some ⟨g, 0, none⟩) n c2) (.int .i64 mn) (.int .i64 mx) ∧
      NBox (putRow w6 g (i * 6) u0 u1 u2 u3 u4 u5) (X + 1) (.int .i64 0) (.slice none 0 0) (.string ⟨#[]⟩) (.slice none 0 0) (.int .i64 0) (.int .i64 0) ∧ Fr C w (putRow w6 g (i * 6) u0 u1 u2 u3 u4 u5) ∧
      RangesS (NewS S X) (putRow w6 g (i * 6) u0 u1 u2 u3 u4 u5) rv rs ∧ KDep (NewS S X) (putRow w6 g (i * 6) u0 u1 u2 u3 u4 u5) (kids.set i t6) (some ⟨g, 0, none⟩) := by
  obtain ⟨b1, b2, b3, b4, b5, -⟩ := h.boxes (putRow_grown w6 g (i * 6) u0 u1 u2 u3 u4 u5) (fun b hb => by cases hb; exact hg)
  refine ⟨b1, b2, b3, b4, b5.to (agree_refl _ _) fun _ h => .inl h, ?_⟩
  rcases h.own.row with h0 | ⟨g', c', cur, hv, -, -, hrow⟩
  · rw [h0] at hi; simp at hi
  simp only [Value.slice.injEq, Option.some.injEq, Addr.mk.injEq, and_true] at hv
  obtain ⟨rfl, -, -⟩ := hv
  have hr2 : KRow (fun b => NewS S X b ∧ b ≠ g) w6 g kids := fun j hj => by
    obtain ⟨a, hs, hn, hc⟩ := hrow j hj
    exact ⟨a, hs, NodeS.to (agree_refl _ _) (fun b hb => ⟨.inl hb, by have := (h.low b hb).2; omega⟩) _ _ hn, hc⟩
  have hr3 := krow_set hr2 (fun hh => hh.2 rfl) hi hs (NodeS.to (agree_refl _ _) hS6 _ _ hn)
  exact KRow.kdep (fun j hj => by
    obtain ⟨a, hs, hn, hc⟩ := hr3 j hj
    exact ⟨a, hs, NodeS.to (agree_refl _ _) (fun b hb => hb.1) _ _ hn, hc⟩) (.inr hg)
end Go.Proofs.Ytfmoidhpafpgnaa
