/- What a node's memory depends on: a set of blocks; and the slice of nodes that a call has copied. -/
import Derived.Test.YtfmoidhpafpgnaaMakeN
import Derived.Test.YtfmoidhpafpgnaaPatOwn
import Derived.Test.YtfmoidhpafpgnaaPatCat
namespace Go.Proofs.Ytfmoidhpafpgnaa
open Go.RowKit

/-- What lies in the blocks of S reads as it did. -/
def Agree (S : Nat → Prop) (w w' : World) : Prop := ∀ b o u, S b → w.cell? ⟨b, o, none⟩ = some u → w'.cell? ⟨b, o, none⟩ = some u
theorem Agree.trans {S : Nat → Prop} {a b c : World} (h : Agree S a b) (k : Agree S b c) : Agree S a c := fun x o u hs hc => k x o u hs (h x o u hs hc)
theorem Agree.mono {S S' : Nat → Prop} {a b : World} (h : Agree S' a b) (k : ∀ b, S b → S' b) : Agree S a b := fun x o u hs hc => h x o u (k x hs) hc
theorem agree_refl (S : Nat → Prop) (w : World) : Agree S w w := fun _ _ _ _ h => h
theorem agree_grown {S : Nat → Prop} {w w' : World} {row : Option Nat} (h : w.grownBy w' row) (hr : ∀ b, row = some b → ¬ S b) : Agree S w w' := fun b o _ hs hc =>
  h.cell (a := ⟨b, o, none⟩) hc fun e => hr b e.symm hs
theorem agree_put {S : Nat → Prop} {X : Nat} (w : World) (o : Nat) (v : Value) (hX : ¬ S X) : Agree S w (w.setCell ⟨X, o, none⟩ v) :=
  agree_grown (row := some X) ((Fr.refl X w).setCell o v) fun b hb hs => hX (by cases hb; exact hs)

/-- A slice of ranges in blocks of S. -/
def RangesS (S : Nat → Prop) (w : World) (v : Value) (rs : List (Nat × Nat)) : Prop :=
  ∃ a c, v = .slice a rs.length c ∧ rs.length ≤ maxLen ∧ (∀ x ∈ rs, x.1 < 256 ∧ x.2 < 256) ∧
    ∀ i (h : i < rs.length), ∃ b o, a = some ⟨b, o, none⟩ ∧ S b ∧ w.cell? ⟨b, o + i * 2, none⟩ = some (.int .u8 (rs[i].1 : Nat)) ∧ w.cell? ⟨b, o + i * 2 + 1, none⟩ = some (.int .u8 (rs[i].2 : Nat))
mutual
def NodeS (S : Nat → Prop) (w : World) : Nd → Value → Prop
  | .mk op rs nm kids mn mx, v => ∃ rv ka kc, v = .agg (ndVals op rv nm (.slice ka kids.length kc) mn mx) ∧ i64In op ∧ i64In mn ∧ i64In mx ∧ nm.size ≤ maxLen ∧ kids.length ≤ maxLen ∧ RangesS S w rv rs ∧
      (kids = [] ∨ ∃ b o, ka = some ⟨b, o, none⟩ ∧ S b ∧ KidsS S w kids b o)
def KidsS (S : Nat → Prop) (w : World) : List Nd → Nat → Nat → Prop
  | [], _, _ => True
  | k :: r, b, o => (∃ op rv nm kv mn mx, NodeS S w k (.agg (ndVals op rv nm kv mn mx)) ∧ w.cell? ⟨b, o, none⟩ = some (.int .i64 op) ∧ w.cell? ⟨b, o + 1, none⟩ = some rv ∧ w.cell? ⟨b, o + 2, none⟩ = some (.string nm) ∧
      w.cell? ⟨b, o + 3, none⟩ = some kv ∧ w.cell? ⟨b, o + 4, none⟩ = some (.int .i64 mn) ∧ w.cell? ⟨b, o + 5, none⟩ = some (.int .i64 mx)) ∧ KidsS S w r b (o + 6)
end
theorem RangesS.to {S S' : Nat → Prop} {w w' : World} {v : Value} {rs : List (Nat × Nat)} (h : RangesS S w v rs) (k : Agree S w w') (m : ∀ b, S b → S' b) : RangesS S' w' v rs := by
  obtain ⟨a, c, hv, hl, hb, hc⟩ := h
  refine ⟨a, c, hv, hl, hb, fun i hi => ?_⟩
  obtain ⟨b, o, ha, hs, h1, h2⟩ := hc i hi
  exact ⟨b, o, ha, m b hs, k _ _ _ hs h1, k _ _ _ hs h2⟩
mutual
theorem NodeS.to {S S' : Nat → Prop} {w w' : World} (k : Agree S w w') (m : ∀ b, S b → S' b) : ∀ (t : Nd) (v : Value), NodeS S w t v → NodeS S' w' t v
  | .mk op rs nm kids mn mx, v, h => by
    unfold NodeS at h ⊢
    obtain ⟨rv, ka, kc, hv, h1, h2, h3, h4, h5, hr, hk⟩ := h
    refine ⟨rv, ka, kc, hv, h1, h2, h3, h4, h5, hr.to k m, ?_⟩
    rcases hk with hk | ⟨b, o, ha, hs, hk⟩
    · exact .inl hk
    · exact .inr ⟨b, o, ha, m b hs, KidsS.to k m kids b o hs hk⟩
theorem KidsS.to {S S' : Nat → Prop} {w w' : World} (k : Agree S w w') (m : ∀ b, S b → S' b) : ∀ (l : List Nd) (b o : Nat), S b → KidsS S w l b o → KidsS S' w' l b o
  | [], _, _, _, _ => by unfold KidsS; trivial
  | t :: r, b, o, hs, h => by
    unfold KidsS at h ⊢
    obtain ⟨⟨op, rv, nm, kv, mn, mx, hn, c0, c1, c2, c3, c4, c5⟩, hr⟩ := h
    exact ⟨⟨op, rv, nm, kv, mn, mx, NodeS.to k m t _ hn, k _ _ _ hs c0, k _ _ _ hs c1, k _ _ _ hs c2, k _ _ _ hs c3, k _ _ _ hs c4, k _ _ _ hs c5⟩, KidsS.to k m r b (o + 6) hs hr⟩
end
theorem RangesS.toIn {S : Nat → Prop} {lo : Nat} {w : World} {v : Value} {rs : List (Nat × Nat)} (h : RangesS S w v rs) (k : ∀ b, S b → lo ≤ b) : RangesIn lo w v rs := by
  obtain ⟨a, c, hv, hl, hb, hc⟩ := h
  refine ⟨a, c, hv, hl, hb, fun i hi => ?_⟩
  obtain ⟨b, o, ha, hs, h1, h2⟩ := hc i hi
  exact ⟨b, o, ha, k b hs, h1, h2⟩
mutual
theorem NodeS.toIn {S : Nat → Prop} {lo : Nat} {w : World} (k : ∀ b, S b → lo ≤ b) : ∀ (t : Nd) (v : Value), NodeS S w t v → NodeIn lo w t v
  | .mk op rs nm kids mn mx, v, h => by
    unfold NodeS at h
    unfold NodeIn
    obtain ⟨rv, ka, kc, hv, h1, h2, h3, h4, h5, hr, hk⟩ := h
    refine ⟨rv, ka, kc, hv, h1, h2, h3, h4, h5, hr.toIn k, ?_⟩
    rcases hk with hk | ⟨b, o, ha, hs, hk⟩
    · exact .inl hk
    · exact .inr ⟨b, o, ha, k b hs, KidsS.toIn k kids b o hk⟩
theorem KidsS.toIn {S : Nat → Prop} {lo : Nat} {w : World} (k : ∀ b, S b → lo ≤ b) : ∀ (l : List Nd) (b o : Nat), KidsS S w l b o → KidsIn lo w l b o
  | [], _, _, _ => by unfold KidsIn; trivial
  | t :: r, b, o, h => by
    unfold KidsS at h
    unfold KidsIn
    obtain ⟨⟨op, rv, nm, kv, mn, mx, hn, cs⟩, hr⟩ := h
    exact ⟨⟨op, rv, nm, kv, mn, mx, NodeS.toIn k t _ hn, cs⟩, KidsS.toIn k r b (o + 6) hr⟩
end
/-- The blocks of a node that lies in a world, from lo on. -/
def Olds (lo : Nat) (w : World) (b : Nat) : Prop := lo ≤ b ∧ b < w.heap.size
theorem RangesIn.toS {lo : Nat} {w : World} {v : Value} {rs : List (Nat × Nat)} (h : RangesIn lo w v rs) : RangesS (Olds lo w) w v rs := by
  obtain ⟨a, c, hv, hl, hb, hc⟩ := h
  refine ⟨a, c, hv, hl, hb, fun i hi => ?_⟩
  obtain ⟨b, o, ha, hlo, h1, h2⟩ := hc i hi
  exact ⟨b, o, ha, ⟨hlo, block_lt_of_cell (a := ⟨b, o + i * 2, none⟩) h1⟩, h1, h2⟩
mutual
theorem NodeIn.toS {lo : Nat} {w : World} : ∀ (t : Nd) (v : Value), NodeIn lo w t v → NodeS (Olds lo w) w t v
  | .mk op rs nm kids mn mx, v, h => by
    unfold NodeIn at h
    unfold NodeS
    obtain ⟨rv, ka, kc, hv, h1, h2, h3, h4, h5, hr, hk⟩ := h
    refine ⟨rv, ka, kc, hv, h1, h2, h3, h4, h5, hr.toS, ?_⟩
    rcases hk with hk | ⟨b, o, ha, hlo, hk⟩
    · exact .inl hk
    · by_cases h0 : kids = []
      · exact .inl h0
      · have hl : 0 < kids.length := List.length_pos_iff.2 h0
        obtain ⟨_, _, _, _, -, c0, -⟩ := kids_at kids b o hk 0 hl
        exact .inr ⟨b, o, ha, ⟨hlo, block_lt_of_cell (a := ⟨b, o + 0 * 6, none⟩) c0⟩, KidsIn.toS kids b o hk⟩
theorem KidsIn.toS {lo : Nat} {w : World} : ∀ (l : List Nd) (b o : Nat), KidsIn lo w l b o → KidsS (Olds lo w) w l b o
  | [], _, _, _ => by unfold KidsS; trivial
  | t :: r, b, o, h => by
    unfold KidsIn at h
    unfold KidsS
    obtain ⟨⟨op, rv, nm, kv, mn, mx, hn, cs⟩, hr⟩ := h
    exact ⟨⟨op, rv, nm, kv, mn, mx, NodeIn.toS t _ hn, cs⟩, KidsIn.toS r b (o + 6) hr⟩
end
/-- The kids of a node. -/
def KDep (S : Nat → Prop) (w : World) (l : List Nd) (a : Option Addr) : Prop := l = [] ∨ ∃ b o, a = some ⟨b, o, none⟩ ∧ S b ∧ KidsS S w l b o
theorem KDep.to {S S' : Nat → Prop} {w w' : World} {l : List Nd} {a : Option Addr} (h : KDep S w l a) (k : Agree S w w') (m : ∀ b, S b → S' b) : KDep S' w' l a := by
  rcases h with h | ⟨b, o, ha, hs, h⟩
  · exact .inl h
  · exact .inr ⟨b, o, ha, m b hs, KidsS.to k m _ _ _ hs h⟩
theorem nodeS_mk {S : Nat → Prop} {w : World} {op : Int} {rs : List (Nat × Nat)} {nm : ByteArray} {kids : List Nd} {mn mx : Int} {rv : Value} {ka : Option Addr} {kc : Nat}
    (h1 : i64In op) (h2 : i64In mn) (h3 : i64In mx) (h4 : nm.size ≤ maxLen) (h5 : kids.length ≤ maxLen) (hr : RangesS S w rv rs) (hk : KDep S w kids ka) :
    NodeS S w (.mk op rs nm kids mn mx) (.agg #[.int .i64 op, rv, .string nm, .slice ka kids.length kc, .int .i64 mn, .int .i64 mx]) := by
  unfold NodeS
  exact ⟨rv, ka, kc, rfl, h1, h2, h3, h4, h5, hr, hk⟩
theorem nodeS_open {S : Nat → Prop} {w : World} {op : Int} {rs : List (Nat × Nat)} {nm : ByteArray} {kids : List Nd} {mn mx : Int} {v : Value} (h : NodeS S w (.mk op rs nm kids mn mx) v) :
    ∃ ra rc ka kc, v = .agg #[.int .i64 op, .slice ra rs.length rc, .string nm, .slice ka kids.length kc, .int .i64 mn, .int .i64 mx] ∧ i64In op ∧ i64In mn ∧ i64In mx ∧ nm.size ≤ maxLen ∧ kids.length ≤ maxLen ∧ RangesS S w (.slice ra rs.length rc) rs ∧ KDep S w kids ka := by
  unfold NodeS at h
  obtain ⟨rv, ka, kc, rfl, h1, h2, h3, h4, h5, hr, hk⟩ := h
  obtain ⟨ra, rc, rfl, -⟩ := id hr
  exact ⟨ra, rc, ka, kc, rfl, h1, h2, h3, h4, h5, hr, hk⟩

/-- The cells of a node, from an offset on. -/
def CellsAt (w : World) (g o : Nat) (a : Array Value) : Prop := ∀ c u, a[c]? = some u → w.cell? ⟨g, o + c, none⟩ = some u
theorem kidsS_at {S : Nat → Prop} {w : World} : ∀ (l : List Nd) (b o : Nat), KidsS S w l b o → ∀ j (hj : j < l.length), ∃ a, SixOf l[j] a ∧ NodeS S w l[j] (.agg a) ∧ CellsAt w b (o + j * 6) a
  | [], _, _, _, j, hj => absurd hj (by simp)
  | t :: r, b, o, h, 0, _ => by
    unfold KidsS at h
    obtain ⟨⟨op, rv, nm, kv, mn, mx, hn, c0, c1, c2, c3, c4, c5⟩, -⟩ := h
    cases t with | mk op' rs' nm' kids' mn' mx' =>
    obtain ⟨ra, rc, ka, kc, e, -⟩ := nodeS_open hn
    simp only [ndVals, Value.agg.injEq, Array.mk.injEq, List.cons.injEq, and_true, Value.int.injEq, true_and, Value.string.injEq] at e
    obtain ⟨rfl, rfl, rfl, rfl, rfl, rfl⟩ := e
    refine ⟨_, ⟨ra, rc, ka, kc, rfl⟩, hn, fun c u hu => ?_⟩
    simp only [Nat.zero_mul, Nat.add_zero]
    match c, hu with
    | 0, hu => simp at hu; subst hu; exact c0
    | 1, hu => simp at hu; subst hu; exact c1
    | 2, hu => simp at hu; subst hu; exact c2
    | 3, hu => simp at hu; subst hu; exact c3
    | 4, hu => simp at hu; subst hu; exact c4
    | 5, hu => simp at hu; subst hu; exact c5
    | n + 6, hu => simp at hu
  | t :: r, b, o, h, j + 1, hj => by
    unfold KidsS at h
    have := kidsS_at r b (o + 6) h.2 j (by simpa using hj)
    rw [show o + (j + 1) * 6 = o + 6 + j * 6 from by omega]
    simpa using this
theorem kidsS_of {S : Nat → Prop} {w : World} : ∀ (l : List Nd) (b o : Nat), (∀ j (hj : j < l.length), ∃ a, SixOf l[j] a ∧ NodeS S w l[j] (.agg a) ∧ CellsAt w b (o + j * 6) a) → KidsS S w l b o
  | [], _, _, _ => by unfold KidsS; trivial
  | t :: r, b, o, h => by
    unfold KidsS
    obtain ⟨a, hs, hn, hc⟩ := h 0 (by simp)
    simp only [List.getElem_cons_zero] at hs hn
    obtain ⟨ra, rc, ka, kc, rfl⟩ := hs
    refine ⟨⟨_, _, _, _, _, _, hn, ?_, ?_, ?_, ?_, ?_, ?_⟩, kidsS_of r b (o + 6) fun j hj => ?_⟩
    · have := hc 0 _ rfl; simpa using this
    · have := hc 1 _ rfl; simpa using this
    · have := hc 2 _ rfl; simpa using this
    · have := hc 3 _ rfl; simpa using this
    · have := hc 4 _ rfl; simpa using this
    · have := hc 5 _ rfl; simpa using this
    · obtain ⟨a, hs, hn, hc⟩ := h (j + 1) (by simp; omega)
      simp only [List.getElem_cons_succ] at hs hn
      refine ⟨a, hs, hn, ?_⟩
      have e : o + 6 + j * 6 = o + (j + 1) * 6 := by omega
      rw [e]; exact hc
/-- The row of a list of nodes. -/
def KRow (S : Nat → Prop) (w : World) (g : Nat) (l : List Nd) : Prop := ∀ j (hj : j < l.length), ∃ a, SixOf l[j] a ∧ NodeS S w l[j] (.agg a) ∧ CellsAt w g (j * 6) a
theorem KRow.kdep {S : Nat → Prop} {g : Nat} {w : World} {l : List Nd} (h : KRow S w g l) (hS : S g) : KDep S w l (some ⟨g, 0, none⟩) :=
  .inr ⟨g, 0, rfl, hS, kidsS_of l g 0 fun j hj => by
    obtain ⟨a, hs, hn, hc⟩ := h j hj
    exact ⟨a, hs, hn, by rw [Nat.zero_add]; exact hc⟩⟩
theorem KRow.to {S S' : Nat → Prop} {g : Nat} {w w' : World} {l : List Nd} (h : KRow S w g l) (k : Agree S w w') (m : ∀ b, S b → S' b) (hS : S g) : KRow S' w' g l := fun j hj => by
  obtain ⟨a, hs, hn, hc⟩ := h j hj
  exact ⟨a, hs, NodeS.to k m _ _ hn, fun c u hu => k _ _ _ hS (hc c u hu)⟩

/-- The copy of a node's kids: a row of its own, new since base; what the kids hold lies in S. -/
def OwnK (S : Nat → Prop) (base : Nat) (w : World) (v : Value) (l : List Nd) : Prop :=
  ∃ A : Nat → Array Value, w.ownsRow base 25 6 v l.length (flat6 A l.length) ∧ ∀ i (h : i < l.length), SixOf l[i] (A i) ∧ NodeS S w l[i] (.agg (A i))
theorem OwnK.slice {S : Nat → Prop} {base : Nat} {w : World} {v : Value} {l : List Nd} (h : OwnK S base w v l) : ∃ a c, v = .slice a l.length c := by
  obtain ⟨A, ho, -⟩ := h
  rcases ho.2 with ⟨hv, h0⟩ | ⟨g, cap, cur, hv, -⟩
  · exact ⟨none, 0, by rw [hv, h0]⟩
  · exact ⟨_, _, hv⟩
theorem OwnK.lt {S : Nat → Prop} {base : Nat} {w : World} {v : Value} {l : List Nd} (h : OwnK S base w v l) : ∀ g, v.ownBlock = some g → base ≤ g ∧ g < w.heap.size := by
  obtain ⟨A, ho, -⟩ := h
  exact fun g hg => ho.lt g hg
theorem OwnK.grown {S : Nat → Prop} {base : Nat} {w w' : World} {v : Value} {l : List Nd} {row : Option Nat} (h : OwnK S base w v l) (k : w.grownBy w' row) (hr : ∀ b, row = some b → ¬ S b ∧ v.ownBlock ≠ some b) : OwnK S base w' v l := by
  obtain ⟨A, ho, hn⟩ := h
  refine ⟨A, ho.kept k ?_, fun i hi => ⟨(hn i hi).1, NodeS.to (agree_grown k fun b hb => (hr b hb).1) (fun _ h => h) _ _ (hn i hi).2⟩⟩
  cases hv : v.ownBlock with
  | none => exact .inl rfl
  | some g =>
    refine .inr fun e => ?_
    exact (hr g e.symm).2 hv
theorem OwnK.row {S : Nat → Prop} {base : Nat} {w : World} {v : Value} {l : List Nd} (h : OwnK S base w v l) : l = [] ∨ ∃ g c cur, v = .slice (some ⟨g, 0, none⟩) l.length c ∧ base ≤ g ∧ w.heap[g]? = some (.cells cur 25 (0, 0)) ∧ KRow S w g l := by
  obtain ⟨A, ho, hn⟩ := h
  have ho2 := ho.2
  rcases ho2 with ⟨hv, h0⟩ | ⟨g, cap, cur, hv, hlo, hg, -⟩
  · exact .inl (List.length_eq_zero_iff.1 h0)
  · refine .inr ⟨g, cap, cur, hv, hlo, hg, fun j hj => ⟨A j, (hn j hj).1, (hn j hj).2, fun c u hu => ?_⟩⟩
    have hc6 : c < 6 := by
      have h6 := (hn j hj).1.size
      have : c < (A j).size := (Array.getElem?_eq_some_iff.1 hu).1
      rw [← Array.length_toList, h6] at this; exact this
    have := ho.cells (g := g) (by rw [hv]; rfl) (6 * j + c) u (by rw [flat6_get A l.length (fun k hk => (hn k hk).1.size) j c hj hc6, Array.getElem?_toList]; exact hu)
    rw [← this]
    unfold Addr.add
    by_cases hz : 6 * j + c = 0
    · rw [if_pos hz]
      have e : j * 6 + c = 0 := by omega
      rw [e]
    · rw [if_neg hz]
      have e : 0 + (6 * j + c) = j * 6 + c := by omega
      simp only [e]
theorem OwnK.kdep {S S' : Nat → Prop} {base : Nat} {w : World} {l : List Nd} {a : Option Addr} {n c : Nat} (h : OwnK S base w (.slice a n c) l) (m : ∀ b, S b → S' b) (m2 : ∀ b, base ≤ b → S' b) : KDep S' w l a := by
  rcases h.row with h0 | ⟨g, c', cur, hv, hg, -, hj⟩
  · exact .inl h0
  · simp only [Value.slice.injEq] at hv
    obtain ⟨rfl, -, -⟩ := hv
    refine KRow.kdep (fun j hjl => ?_) (m2 g hg)
    obtain ⟨a, hs, hn, hc⟩ := hj j hjl
    exact ⟨a, hs, NodeS.to (agree_refl _ _) m _ _ hn, hc⟩

/-- The copy of a node's kids. -/
theorem copy_kids {S : Nat → Prop} {w : World} {kids : List Nd} {ka : Option Addr} (kc : Nat) (hK : KDep S w kids ka) (hl : kids.length ≤ 100) :
    ∃ v' w', (Builtin.append_ #[23, 23] 23 #[.slice none 0 0, .slice ka kids.length kc]).run Try.prog w = .ok v' w' ∧ w.grownBy w' none ∧ OwnK S w.heap.size w' v' kids := by
  obtain ⟨i0, hi, hz0, hz1, hz2⟩ := info_parts infoNode
  have hnil : w.ownsRow w.heap.size 25 6 (.slice none 0 0) 0 [] := World.ownsRow_nil _ _ _ _
  by_cases h0 : kids = []
  · subst h0
    cases ka with
    | none =>
      refine ⟨.slice none 0 0, w, ?_, ⟨rfl, rfl, rfl, Nat.le_refl _, fun _ _ _ => rfl⟩, ⟨fun _ => #[], hnil, fun i h => absurd h (by simp)⟩⟩
      simp [Builtin.append_, run_underlying Try.underlying23, sizeOf, typeInfo, hi, Builtin.lenOf, Builtin.firstCells]
    | some ad =>
      obtain ⟨v', w', h1, h2, h3, -, -⟩ := run_append_own_at (P := Try.prog) w w.heap.size 23 23 25 i0 _ 6 88 Try.underlying23 hi hz0 hz1 hz2 rfl (by decide) _ 0 [] hnil ad 0 kc [] rfl (fun j u hj => by simp at hj) (fun u hu => by cases hu) (by unfold maxLen; omega) (by omega) (Nat.le_refl _)
      exact ⟨v', w', h1, h3, ⟨fun _ => #[], h2, fun i h => absurd h (by simp)⟩⟩
  · rcases hK with hk | ⟨b, o, rfl, hlb, hk⟩
    · exact absurd hk h0
    have hA : ∀ i : Nat, ∃ a : Array Value, ∀ (hi : i < kids.length), SixOf kids[i] a ∧ CellsAt w b (o + i * 6) a ∧ NodeS S w kids[i] (.agg a) := fun i => by
      by_cases hi : i < kids.length
      · obtain ⟨a, hs, hn, hc⟩ := kidsS_at kids b o hk i hi
        exact ⟨a, fun _ => ⟨hs, hc, hn⟩⟩
      · exact ⟨#[], fun h => absurd h hi⟩
    obtain ⟨A, hA⟩ := Classical.axiomOfChoice hA
    have h6 : ∀ i, i < kids.length → (A i).toList.length = 6 := fun i hi => (hA i hi).1.size
    have hlen : ∀ m, m ≤ kids.length → (flat6 A m).length = m * 6 := fun m => by
      induction m with
      | zero => intro _; rfl
      | succ m ih =>
        intro hm
        have e : flat6 A (m + 1) = flat6 A m ++ (A m).toList := by unfold flat6; rw [List.range_succ, List.flatMap_append]; simp
        rw [e, List.length_append, ih (by omega), h6 m (by omega)]; omega
    have hcell : ∀ j u, (flat6 A kids.length)[j]? = some u → w.cell? ((⟨b, o, none⟩ : Addr).add j) = some u := fun j u hj => by
      have hjl : j < kids.length * 6 := by rw [← hlen _ (Nat.le_refl _)]; exact (List.getElem?_eq_some_iff.1 hj).1
      have e : j = 6 * (j / 6) + j % 6 := by omega
      rw [e, flat6_get A kids.length h6 (j / 6) (j % 6) (by omega) (Nat.mod_lt _ (by decide)), Array.getElem?_toList] at hj
      have := (hA (j / 6) (by omega)).2.1 (j % 6) u hj
      rw [← this]
      have e2 : o + j / 6 * 6 + j % 6 = o + j := by omega
      rw [e2]
      unfold Addr.add
      split
      · rename_i hz; rw [hz]; rfl
      · rfl
    have hone : ∀ u ∈ flat6 A kids.length, u.oneCell' = true := fun u hu => by
      unfold flat6 at hu
      obtain ⟨i, hi, hu⟩ := List.mem_flatMap.1 hu
      exact (hA i (List.mem_range.1 hi)).1.one u hu
    obtain ⟨v', w', h1, h2, h3, -, -⟩ := run_append_own_at (P := Try.prog) w w.heap.size 23 23 25 i0 _ 6 88 Try.underlying23 hi hz0 hz1 hz2 rfl (by decide) _ 0 [] hnil ⟨b, o, none⟩ kids.length kc (flat6 A kids.length) (hlen _ (Nat.le_refl _)) hcell hone (by unfold maxLen; omega) (by omega) (Nat.le_refl _)
    exact ⟨v', w', h1, h3, ⟨A, by simpa using h2, fun i hi => ⟨(hA i hi).1, NodeS.to (agree_grown h3 fun b hb => by cases hb) (fun _ h => h) _ _ (hA i hi).2.2⟩⟩⟩
end Go.Proofs.Ytfmoidhpafpgnaa
