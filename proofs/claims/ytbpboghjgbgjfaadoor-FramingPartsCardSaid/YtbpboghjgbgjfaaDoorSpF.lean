/- Rows of spans: where each begins and ends. -/
import Derived.Test.YtbpboghjgbgjfaaDoorFsX
namespace Go.Proofs.YtbpboghjgbgjfaaDoor
open Go.RowKit

theorem bl_drewN {B : Nat} {a b : World} (h : Below B a b) (n : Nat) : Below B a (b.drewN n) := ⟨h.os, h.tape, h.output, h.size, h.block⟩
/-- Where the span before i ends. -/
def endOf (L : List (Nat × Nat)) : Nat → Nat
  | 0 => 0
  | i + 1 => (L[i]?.map (·.2)).getD 0
theorem endOf_app (L M : List (Nat × Nat)) : ∀ i, i ≤ L.length → endOf (L ++ M) i = endOf L i
  | 0, _ => rfl
  | i + 1, h => by
    show ((L ++ M)[i]?.map (·.2)).getD 0 = (L[i]?.map (·.2)).getD 0
    rw [List.getElem?_append_left (by omega)]
theorem endOf_len (l : List UInt8) : ∀ k, endOf (spK l k) (spK l k).length = lastK l k
  | 0 => rfl
  | k + 1 => by
    by_cases h : l[k]? = some 10
    · rw [lastK_yes h]
      have e : spK l (k + 1) = spK l k ++ [(lastK l k, k + 1)] := if_pos h
      rw [e, List.length_append]
      show ((spK l k ++ [(lastK l k, k + 1)])[(spK l k).length]?.map (·.2)).getD 0 = k + 1
      rw [List.getElem?_append_right (Nat.le_refl _), Nat.sub_self]
      rfl
    · rw [lastK_no h]
      have e : spK l (k + 1) = spK l k := if_neg h
      rw [e]
      exact endOf_len l k
theorem spK_at (l : List UInt8) : ∀ k i (h : i < (spK l k).length), ∃ b, (spK l k)[i] = (endOf (spK l k) i, b + 1) ∧ b < k ∧ l[b]? = some 10
  | 0, i, h => by cases h
  | k + 1, i, h => by
    by_cases h10 : l[k]? = some 10
    · have e : spK l (k + 1) = spK l k ++ [(lastK l k, k + 1)] := if_pos h10
      simp only [e] at h ⊢
      by_cases hi : i < (spK l k).length
      · obtain ⟨b, h1, h2, h3⟩ := spK_at l k i hi
        exact ⟨b, by rw [List.getElem_append_left hi, h1, endOf_app _ _ i (by omega)], by omega, h3⟩
      · rw [List.length_append] at h
        have hi2 : i = (spK l k).length := by
          have : [(lastK l k, k + 1)].length = 1 := rfl
          omega
        subst hi2
        refine ⟨k, ?_, by omega, h10⟩
        rw [endOf_app _ _ _ (Nat.le_refl _), endOf_len, List.getElem_append_right (Nat.le_refl _)]
        simp
    · have e : spK l (k + 1) = spK l k := if_neg h10
      simp only [e] at h ⊢
      obtain ⟨b, h1, h2, h3⟩ := spK_at l k i h
      exact ⟨b, h1, by omega, h3⟩
theorem last_after (l : List UInt8) : ∀ k j, lastK l k ≤ j → j < k → ¬ l[j]? = some 10
  | 0, j, _, h => by omega
  | k + 1, j, h1, h2 => by
    by_cases h10 : l[k]? = some 10
    · rw [lastK_yes h10] at h1; omega
    · rw [lastK_no h10] at h1
      by_cases hj : j = k
      · rw [hj]; exact h10
      · exact last_after l k j h1 (by omega)
theorem endOf_succ (L : List (Nat × Nat)) (i : Nat) (h : i < L.length) : endOf L (i + 1) = L[i].2 := by
  show (L[i]?.map (·.2)).getD 0 = _
  rw [List.getElem?_eq_getElem h]; rfl
theorem endOf_le (l : List UInt8) (k : Nat) : ∀ i, i ≤ (spK l k).length → endOf (spK l k) i ≤ k
  | 0, _ => Nat.zero_le _
  | i + 1, h => by
    obtain ⟨b, h1, h2, -⟩ := spK_at l k i (by omega)
    rw [endOf_succ _ _ (by omega), h1]
    exact h2
/-- A span's cells. -/
theorem encS_get : ∀ (L : List (Nat × Nat)) (i : Nat) (h : i < L.length), (encS L)[i * 2]? = some (.int .i64 (L[i].1 : Int)) ∧ (encS L)[i * 2 + 1]? = some (.int .i64 (L[i].2 : Int))
  | x :: L, 0, _ => ⟨rfl, rfl⟩
  | x :: L, i + 1, h => by
    have h2 := encS_get L i (by simpa using h)
    have e : encS (x :: L) = [.int .i64 (x.1 : Int), .int .i64 (x.2 : Int)] ++ encS L := rfl
    rw [e, show (i + 1) * 2 = 2 + i * 2 by omega, show 2 + i * 2 + 1 = 2 + (i * 2 + 1) by omega]
    exact ⟨by rw [List.getElem?_append_right (by simp)]; simpa using h2.1, by rw [List.getElem?_append_right (by simp)]; simpa using h2.2⟩
theorem sp_form {base : Nat} {w : World} {v : Value} {L : List (Nat × Nat)} (h : SpR base w v L) : ∃ a c, v = .slice a L.length c ∧ L.length ≤ c ∧ ∀ i (hi : i < L.length), ∃ g, a = some ⟨g, 0, none⟩ ∧ w.cell? ⟨g, i * 2, none⟩ = some (.int .i64 (L[i].1 : Int)) ∧ w.cell? ⟨g, i * 2 + 1, none⟩ = some (.int .i64 (L[i].2 : Int)) := by
  rcases row_form h with ⟨h1, h2⟩ | ⟨g, c, h1, -, -, h3, -⟩
  · exact ⟨none, 0, by rw [h1, h2], by omega, fun i hi => by omega⟩
  · refine ⟨_, c, h1, h3, fun i hi => ⟨g, rfl, ?_, ?_⟩⟩
    · have := World.ownsRow.cells h (g := g) (by rw [h1]; rfl) (i * 2) _ (encS_get L i hi).1
      rwa [Addr.add_lit, Nat.zero_add] at this
    · have := World.ownsRow.cells h (g := g) (by rw [h1]; rfl) (i * 2 + 1) _ (encS_get L i hi).2
      rwa [Addr.add_lit, Nat.zero_add] at this
end Go.Proofs.YtbpboghjgbgjfaaDoor
