/- A slice of nodes that a call appends to: the row is the call's own, and no node lies in it. -/
import Derived.Test.YtfkgicakiapmaaaPatRep
import Derived.Maps.AppendAt
namespace Go.Proofs.Ytfkgicakiapmaaa
open Go.RowKit

/-- The node lies so that whatever is written into block g (and what is new) leaves it. -/
def Robust (g : Option Nat) (lo : Nat) (w : World) (t : Nd) (v : Value) : Prop :=
  ∀ w', (∀ b o x, lo ≤ b → some b ≠ g → w.cell? ⟨b, o, none⟩ = some x → w'.cell? ⟨b, o, none⟩ = some x) → NodeIn lo w' t v
theorem Robust.here {g : Option Nat} {lo : Nat} {w : World} {t : Nd} {v : Value} (h : Robust g lo w t v) : NodeIn lo w t v := h w fun _ _ _ _ _ h => h
theorem robust_new {g : Option Nat} {lo lo2 : Nat} {w : World} {t : Nd} {v : Value} (h : NodeIn lo2 w t v) (h1 : lo ≤ lo2) (h2 : ∀ k, g = some k → k < lo2) : Robust g lo w t v := fun w' hw =>
  NodeIn.lower h1 _ _ (NodeIn.keeps (fun b o x hb hc => hw b o x (by omega) (fun e => by have := h2 b e.symm; omega) hc) _ _ h)
theorem Robust.grown {g row : Option Nat} {lo : Nat} {w w' : World} {t : Nd} {v : Value} (h : Robust g lo w t v) (k : w.grownBy w' row) (hr : ∀ b, row = some b → b < lo ∨ some b = g) : Robust g lo w' t v := fun w'' hw =>
  h w'' fun b o x hb hg hc => hw b o x hb hg (k.cell (a := ⟨b, o, none⟩) hc (fun e => by
    rcases hr b e.symm with h1 | h1
    · omega
    · exact hg h1))
theorem Robust.moved {g : Option Nat} {lo g' : Nat} {w w' : World} {t : Nd} {v : Value} (h : Robust g lo w t v) (k : w.grownBy w' g) (hg' : w.heap.size ≤ g') : Robust (some g') lo w' t v := fun w'' hw =>
  h w'' fun b o x hb hg hc => hw b o x hb (fun e => by
    have h1 : b < w.heap.size := block_lt_of_cell (a := ⟨b, o, none⟩) hc
    have : b = g' := Option.some.inj e
    omega) (k.cell (a := ⟨b, o, none⟩) hc hg)

/-- Six values that are a node's. -/
def SixOf (t : Nd) (a : Array Value) : Prop := ∃ ra rc ka kc, a = #[.int .i64 t.op, .slice ra t.rs.length rc, .string t.nm, .slice ka t.kids.length kc, .int .i64 t.mn, .int .i64 t.mx]
theorem SixOf.size {t : Nd} {a : Array Value} (h : SixOf t a) : a.toList.length = 6 := by obtain ⟨ra, rc, ka, kc, rfl⟩ := h; rfl
theorem SixOf.one {t : Nd} {a : Array Value} (h : SixOf t a) : ∀ u ∈ a.toList, u.oneCell' = true := by
  obtain ⟨ra, rc, ka, kc, rfl⟩ := h
  intro u hu
  simp only [List.mem_cons, List.not_mem_nil, or_false] at hu
  rcases hu with rfl | rfl | rfl | rfl | rfl | rfl <;> rfl
def flat6 (A : Nat → Array Value) (n : Nat) : List Value := (List.range n).flatMap fun i => (A i).toList
theorem flat6_snoc (A : Nat → Array Value) (n : Nat) (a : Array Value) : flat6 (fun j => if j = n then a else A j) (n + 1) = flat6 A n ++ a.toList := by
  unfold flat6
  rw [List.range_succ, List.flatMap_append]
  congr 1
  · rw [List.flatMap_eq_foldl, List.flatMap_eq_foldl]
    have : ∀ (l : List Nat) (acc : List Value), (∀ i ∈ l, i < n) → l.foldl (fun acc i => acc ++ (if i = n then a else A i).toList) acc = l.foldl (fun acc i => acc ++ (A i).toList) acc := by
      intro l
      induction l with
      | nil => intro acc _; rfl
      | cons x r ih =>
        intro acc hl
        have hx := hl x (by simp)
        rw [List.foldl_cons, List.foldl_cons, if_neg (by omega), ih _ (fun i hi => hl i (by simp [hi]))]
    exact this _ _ (by simp)
  · simp
theorem flat6_get (A : Nat → Array Value) (n : Nat) (h : ∀ i, i < n → (A i).toList.length = 6) (i j : Nat) (hi : i < n) (hj : j < 6) : (flat6 A n)[6 * i + j]? = (A i).toList[j]? := by
  induction n with
  | zero => omega
  | succ n ih =>
    have hlen : ∀ m, m ≤ n → (flat6 A m).length = 6 * m := by
      intro m
      induction m with
      | zero => intro _; simp [flat6]
      | succ m ihm =>
        intro hm
        have := h m (by omega)
        have e : flat6 A (m + 1) = flat6 A m ++ (A m).toList := by unfold flat6; rw [List.range_succ, List.flatMap_append]; simp
        rw [e, List.length_append, ihm (by omega), this]; omega
    have e : flat6 A (n + 1) = flat6 A n ++ (A n).toList := by unfold flat6; rw [List.range_succ, List.flatMap_append]; simp
    rw [e]
    by_cases hin : i < n
    · rw [List.getElem?_append_left (by rw [hlen n (Nat.le_refl _)]; omega)]
      exact ih (fun k hk => h k (by omega)) hin
    · obtain rfl : i = n := by omega
      rw [List.getElem?_append_right (by rw [hlen i (Nat.le_refl _)]; omega), hlen i (Nat.le_refl _)]
      congr 1
      omega

/-- The slice of nodes. -/
def OwnNodes (lo : Nat) (w : World) (v : Value) (l : List Nd) : Prop :=
  ∃ A : Nat → Array Value, w.ownsRow lo 27 6 v l.length (flat6 A l.length) ∧ ∀ i (h : i < l.length), SixOf l[i] (A i) ∧ Robust v.ownBlock lo w l[i] (.agg (A i))
theorem ownNodes_nil (lo : Nat) (w : World) : OwnNodes lo w (.slice none 0 0) [] :=
  ⟨fun _ => #[], World.ownsRow_nil w lo _ 6, fun i h => absurd h (by simp)⟩
theorem OwnNodes.slice {lo : Nat} {w : World} {v : Value} {l : List Nd} (h : OwnNodes lo w v l) : ∃ a c, v = .slice a l.length c := by
  obtain ⟨A, ho, -⟩ := h
  rcases ho.2 with ⟨hv, h0⟩ | ⟨g, cap, cur, hv, -⟩
  · exact ⟨none, 0, by rw [hv, h0]⟩
  · exact ⟨_, _, hv⟩
theorem OwnNodes.grown {lo : Nat} {w w' : World} {v : Value} {l : List Nd} {row : Option Nat} (h : OwnNodes lo w v l) (k : w.grownBy w' row) (hr : ∀ b, row = some b → b < lo) : OwnNodes lo w' v l := by
  obtain ⟨A, ho, hn⟩ := h
  refine ⟨A, ho.kept k ?_, fun i hi => ⟨(hn i hi).1, (hn i hi).2.grown k fun b hb => .inl (hr b hb)⟩⟩
  cases hv : v.ownBlock with
  | none => exact .inl rfl
  | some g =>
    refine .inr fun e => ?_
    have h1 := (ho.lt g hv).1
    have h2 := hr g e.symm
    omega
theorem OwnNodes.fr {lo B : Nat} {w w' : World} {v : Value} {l : List Nd} (h : OwnNodes lo w v l) (k : Fr B w w') (hB : B < lo) : OwnNodes lo w' v l :=
  h.grown k fun b hb => by have := Option.some.inj hb; omega
/-- Behind the append of one node, which lies in blocks that were new. -/
theorem OwnNodes.snoc {lo lo2 : Nat} {w w' : World} {v v' : Value} {l : List Nd} (A : Nat → Array Value) (t : Nd) (a : Array Value)
    (hn : ∀ i (h : i < l.length), SixOf l[i] (A i) ∧ Robust v.ownBlock lo w l[i] (.agg (A i)))
    (hown' : w'.ownsRow lo 27 6 v' (l.length + 1) (flat6 A l.length ++ a.toList)) (hg : w.grownBy w' v.ownBlock)
    (hat : v'.ownBlock = v.ownBlock ∨ v'.ownBlock = some w.heap.size) (hs : SixOf t a) (ht : NodeIn lo2 w t (.agg a)) (h1 : lo ≤ lo2) (h2 : ∀ k, v.ownBlock = some k → k < lo2) : OwnNodes lo w' v' (l ++ [t]) := by
  have key : ∀ u b, Robust v.ownBlock lo w u (.agg b) → Robust v'.ownBlock lo w' u (.agg b) := fun u b hb => by
    rcases hat with e | e
    · rw [e]; exact hb.grown hg fun k hk => .inr hk.symm
    · rw [e]; exact hb.moved hg (Nat.le_refl _)
  refine ⟨fun j => if j = l.length then a else A j, by rw [List.length_append, List.length_singleton, flat6_snoc]; exact hown', fun i hi => ?_⟩
  by_cases hil : i < l.length
  · have e : (l ++ [t])[i] = l[i] := by rw [List.getElem_append_left hil]
    have e2 : (fun j => if j = l.length then a else A j) i = A i := if_neg (by omega)
    rw [e, e2]
    exact ⟨(hn i hil).1, key _ _ (hn i hil).2⟩
  · have : i = l.length := by simp at hi; omega
    subst this
    have e : (l ++ [t])[l.length] = t := by simp
    have e2 : (fun j => if j = l.length then a else A j) l.length = a := if_pos rfl
    rw [e, e2]
    exact ⟨hs, key _ _ (robust_new ht h1 h2)⟩
theorem OwnNodes.kids {lo : Nat} {w : World} {v : Value} {l : List Nd} (h : OwnNodes lo w v l) : l = [] ∨ ∃ g c, v = .slice (some ⟨g, 0, none⟩) l.length c ∧ lo ≤ g ∧ KidsIn lo w l g 0 := by
  obtain ⟨A, ho, hn⟩ := h
  have ho2 := ho.2
  rcases ho2 with ⟨hv, h0⟩ | ⟨g, cap, cur, hv, hlo, -⟩
  · exact .inl (List.length_eq_zero_iff.1 h0)
  · refine .inr ⟨g, cap, hv, hlo, ?_⟩
    have hcell : ∀ i (_ : i < l.length) (j : Nat) (_ : j < 6) (u : Value), (A i).toList[j]? = some u → w.cell? ⟨g, 6 * i + j, none⟩ = some u := fun i hi j hj u hu => by
      have := ho.cells (g := g) (by rw [hv]; rfl) (6 * i + j) u (by rw [flat6_get A l.length (fun k hk => (hn k hk).1.size) i j hi hj]; exact hu)
      rw [← this]
      unfold Addr.add
      by_cases hz : 6 * i + j = 0
      · rw [if_pos hz, hz]
      · rw [if_neg hz]; simp
    have : ∀ k m, m + k = l.length → KidsIn lo w (l.drop m) g (6 * m) := by
      intro k
      induction k with
      | zero => intro m hm; rw [List.drop_of_length_le (by omega)]; unfold KidsIn; trivial
      | succ k ih =>
        intro m hm
        have hml : m < l.length := by omega
        rw [List.drop_eq_getElem_cons hml]
        unfold KidsIn
        obtain ⟨⟨ra, rc, ka, kc, hA⟩, hR⟩ := hn m hml
        have hc := hcell m hml
        rw [hA] at hc hR
        refine ⟨⟨_, _, _, _, _, _, hR.here, hc 0 (by omega) _ rfl, hc 1 (by omega) _ rfl, hc 2 (by omega) _ rfl, hc 3 (by omega) _ rfl, hc 4 (by omega) _ rfl, hc 5 (by omega) _ rfl⟩, ?_⟩
        rw [show 6 * m + 6 = 6 * (m + 1) from by omega]
        exact ih (m + 1) (by omega)
    simpa using this l.length 0 (by omega)
end Go.Proofs.Ytfkgicakiapmaaa
