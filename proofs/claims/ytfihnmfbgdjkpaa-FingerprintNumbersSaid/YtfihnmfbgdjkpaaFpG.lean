/- Both Consistents answer alike: plain mathematics; and where no content has a number. -/
import Derived.Test.YtfihnmfbgdjkpaaFpF
namespace Go.Proofs.Ytfihnmfbgdjkpaa
open Go.RowKit

def okR (k : Nat) (seen : List (List UInt8)) : List (List UInt8) → Prop
  | [] => True
  | l :: r => (∀ s ∈ seen, badB k l s = false) ∧ okR k (seen ++ [l]) r
theorem okR_iff (k : Nat) : ∀ (ls seen : List (List UInt8)), okR k seen ls ↔ ∀ a (ha : a < ls.length), (∀ s ∈ seen, badB k ls[a] s = false) ∧ ∀ b (hb : b < a), badB k ls[a] (ls[b]'(by omega)) = false
  | [], seen => ⟨fun _ a ha => absurd ha (by simp), fun _ => trivial⟩
  | l :: r, seen => by
    show ((∀ s ∈ seen, badB k l s = false) ∧ okR k (seen ++ [l]) r) ↔ _
    rw [okR_iff k r (seen ++ [l])]
    constructor
    · rintro ⟨h1, h2⟩ a ha
      cases a with
      | zero => exact ⟨h1, fun b hb => by omega⟩
      | succ a =>
        obtain ⟨h3, h4⟩ := h2 a (by simpa using ha)
        refine ⟨fun s hs => h3 s (by simp [hs]), fun b hb => ?_⟩
        cases b with
        | zero => exact h3 l (by simp)
        | succ b => exact h4 b (by omega)
    · intro h
      refine ⟨(h 0 (by simp)).1, fun a ha => ?_⟩
      obtain ⟨h3, h4⟩ := h (a + 1) (by simpa using ha)
      refine ⟨fun s hs => ?_, fun b hb => h4 (b + 1) (by omega)⟩
      simp only [List.mem_append, List.mem_singleton] at hs
      rcases hs with hs | rfl
      · exact h3 s hs
      · exact h4 0 (by omega)
/-- What the map holds of the contents so far. -/
structure SeenM (k : Nat) (seen : List (List UInt8)) (m : Int → List UInt8) : Prop where
  a : ∀ s ∈ seen, k ≤ s.length → s <+: m (numK s k)
  b : ∀ h, m h = [] ∨ (m h ∈ seen ∧ k ≤ (m h).length ∧ numK (m h) k = h)
theorem bad_iff {k : Nat} {l s : List UInt8} : badB k l s = false ↔ (k ≤ l.length → k ≤ s.length → numK l k = numK s k → (s <+: l ∨ l <+: s)) := by
  unfold badB
  rw [← List.isPrefixOf_iff_prefix, ← List.isPrefixOf_iff_prefix]
  by_cases h1 : k ≤ l.length <;> by_cases h2 : k ≤ s.length <;> by_cases h3 : numK l k = numK s k <;> cases s.isPrefixOf l <;> cases l.isPrefixOf s <;> simp [h1, h2, h3]
theorem seen_claim {k : Nat} {seen : List (List UInt8)} {m : Int → List UInt8} (h : SeenM k seen m) (l : List UInt8) (hl : k ≤ l.length) :
    (∀ s ∈ seen, badB k l s = false) ↔ (l <+: m (numK l k) ∨ m (numK l k) <+: l) := by
  constructor
  · intro ha
    rcases h.b (numK l k) with e | ⟨h1, h2, h3⟩
    · rw [e]; exact .inr (List.nil_prefix)
    · exact (bad_iff.1 (ha _ h1) hl h2 h3.symm).symm
  · intro hc s hs
    rw [bad_iff]
    intro _ h2 h3
    have h4 := h.a s hs h2
    rw [← h3] at h4
    rcases hc with hc | hc
    · exact List.prefix_or_prefix_of_prefix h4 hc
    · exact .inl (h4.trans hc)
theorem updM_same (m : Int → List UInt8) (h : Int) : updM m h (m h) = m := by
  funext x
  unfold updM
  by_cases e : x = h
  · rw [if_pos e, e]
  · rw [if_neg e]
theorem seen_skip {k : Nat} {seen : List (List UInt8)} {m : Int → List UInt8} (h : SeenM k seen m) (l : List UInt8) (hl : k ≤ l.length → l <+: m (numK l k)) : SeenM k (seen ++ [l]) m := by
  refine ⟨fun s hs hk => ?_, fun x => ?_⟩
  · simp only [List.mem_append, List.mem_singleton] at hs
    rcases hs with hs | rfl
    · exact h.a s hs hk
    · exact hl hk
  · rcases h.b x with e | ⟨h1, h2, h3⟩
    · exact .inl e
    · exact .inr ⟨by simp [h1], h2, h3⟩
theorem seen_put {k : Nat} {seen : List (List UInt8)} {m : Int → List UInt8} (h : SeenM k seen m) (l : List UInt8) (hl : k ≤ l.length) (hp : m (numK l k) <+: l) : SeenM k (seen ++ [l]) (updM m (numK l k) l) := by
  refine ⟨fun s hs hk => ?_, fun x => ?_⟩
  · unfold updM
    simp only [List.mem_append, List.mem_singleton] at hs
    by_cases e : numK s k = numK l k
    · rw [if_pos e]
      rcases hs with hs | rfl
      · have := h.a s hs hk
        rw [e] at this
        exact this.trans hp
      · exact List.prefix_refl _
    · rw [if_neg e]
      rcases hs with hs | rfl
      · exact h.a s hs hk
      · exact absurd rfl e
  · unfold updM
    by_cases e : x = numK l k
    · rw [if_pos e]
      exact .inr ⟨by simp, hl, e.symm⟩
    · rw [if_neg e]
      rcases h.b x with e | ⟨h1, h2, h3⟩
      · exact .inl e
      · exact .inr ⟨by simp [h1], h2, h3⟩
theorem cons_okR (k : Nat) : ∀ (ls seen : List (List UInt8)) (m : Int → List UInt8), SeenM k seen m → (consM k ls m = true ↔ okR k seen ls)
  | [], _, _, _ => ⟨fun _ => trivial, fun _ => rfl⟩
  | l :: r, seen, m, h => by
    show (if l.length < k then consM k r m else
      if l.length < (m (numK l k)).length then (if l.isPrefixOf (m (numK l k)) then consM k r (updM m (numK l k) (m (numK l k))) else false)
      else (if (m (numK l k)).isPrefixOf l then consM k r (updM m (numK l k) l) else false)) = true ↔ ((∀ s ∈ seen, badB k l s = false) ∧ okR k (seen ++ [l]) r)
    by_cases h1 : l.length < k
    · rw [if_pos h1, cons_okR k r (seen ++ [l]) m (seen_skip h l (fun q => by omega))]
      exact ⟨fun q => ⟨fun s _ => bad_iff.2 (fun q2 => by omega), q⟩, fun q => q.2⟩
    · have hl : k ≤ l.length := by omega
      rw [if_neg h1, seen_claim h l hl]
      by_cases h2 : l.length < (m (numK l k)).length
      · rw [if_pos h2, updM_same]
        by_cases h3 : l <+: m (numK l k)
        · rw [if_pos (List.isPrefixOf_iff_prefix.2 h3), cons_okR k r (seen ++ [l]) m (seen_skip h l (fun _ => h3))]
          exact ⟨fun q => ⟨.inl h3, q⟩, fun q => q.2⟩
        · rw [if_neg (fun q => h3 (List.isPrefixOf_iff_prefix.1 q))]
          refine ⟨fun q => (by cases q), fun q => ?_⟩
          rcases q.1 with q | q
          · exact absurd q h3
          · have := q.length_le; omega
      · rw [if_neg h2]
        by_cases h3 : m (numK l k) <+: l
        · rw [if_pos (List.isPrefixOf_iff_prefix.2 h3), cons_okR k r (seen ++ [l]) _ (seen_put h l hl h3)]
          exact ⟨fun q => ⟨.inr h3, q⟩, fun q => q.2⟩
        · rw [if_neg (fun q => h3 (List.isPrefixOf_iff_prefix.1 q))]
          refine ⟨fun q => (by cases q), fun q => ?_⟩
          rcases q.1 with q | q
          · have := q.eq_of_length (by have := q.length_le; omega)
            rw [← this] at h3
            exact absurd (List.prefix_refl l) h3
          · exact absurd q h3
theorem cons_all (k : Nat) (ls : List (List UInt8)) : consM k ls (fun _ => []) = true ↔ AllOk k ls := by
  rw [cons_okR k ls [] (fun _ => []) ⟨fun s hs => (by cases hs), fun _ => .inl rfl⟩, okR_iff]
  exact ⟨fun h a b ha hb => (h a ha).2 b hb, fun h a ha => ⟨fun s hs => (by cases hs), fun b hb => h a b ha hb⟩⟩
theorem ref_answer {k : Nat} {ls : List (List UInt8)} {w : World} {e : Ending} {w' : World} (h : RefOut k ls w e w') : e = .returned (.bool (consM k ls (fun _ => []))) ∧ Below w.heap.size w w' := by
  obtain ⟨h1, q, rfl⟩ := h
  refine ⟨?_, ⟨rfl, rfl, rfl, Nat.le_refl _, fun _ _ => rfl⟩⟩
  rcases h1 with ⟨rfl, h2⟩ | ⟨rfl, h2⟩
  · rw [(cons_all k ls).2 h2]
  · have : consM k ls (fun _ => []) = false := by
      rw [← Bool.not_eq_true, cons_all]
      intro h3
      obtain ⟨a, b, ha, hb, h4⟩ := h2
      rw [h3 a b ha hb] at h4
      cases h4
    rw [this]
end Go.Proofs.Ytfihnmfbgdjkpaa
