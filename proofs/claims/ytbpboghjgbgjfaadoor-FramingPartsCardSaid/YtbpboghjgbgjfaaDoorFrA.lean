/- The lines of some bytes, plainly: the text of a line, its record, and how the spans of a whole are those of its parts. -/
import Derived.Test.YtbpboghjgbgjfaaDoorFsX
import Derived.Test.YtbpboghjgbgjfaaDoorUtf
namespace Go.Proofs.YtbpboghjgbgjfaaDoor
open Go.RowKit

/-- How many bytes of a line are its text. -/
def stripN (l : List UInt8) : Nat := if l[l.length - 1]? = some 10 then (if 2 ≤ l.length ∧ l[l.length - 2]? = some 13 then l.length - 2 else l.length - 1) else l.length
theorem stripN_le (l : List UInt8) : stripN l ≤ l.length := by unfold stripN; split <;> (try split) <;> omega
theorem stripN_lt {l : List UInt8} (h : l[l.length - 1]? = some 10) : stripN l < l.length := by
  have h0 : 0 < l.length := by
    have := (List.getElem?_eq_some_iff.1 h).1
    omega
  unfold stripN
  rw [if_pos h]
  split <;> omega
def textB (l : List UInt8) : List UInt8 := repB (l.take (stripN l))
def textN (l : List UInt8) : Nat := repN (l.take (stripN l))
theorem textB_len (l : List UInt8) : (textB l).length = stripN l := by
  unfold textB
  rw [repB_length, List.length_take]
  have := stripN_le l
  omega
/-- A line's record. -/
def frB (p : List UInt8) (lim : Int) : Bool := decide (lim < (p.length : Int))
def frS (p : List UInt8) (lim : Int) : ByteArray := if frB p lim then ⟨#[]⟩ else ⟨(textB p).toArray⟩
def frD (p : List UInt8) (lim : Int) : Nat := if frB p lim then 0 else textN p
def frC (off : Int) (p : List UInt8) (lim : Int) : List Value := [.int .i64 off, .int .i64 (p.length : Int), .string (frS p lim), .int .i64 (frD p lim : Int), .bool (frB p lim)]
def pcL (l : List UInt8) (s : Nat × Nat) : List UInt8 := (l.drop s.1).take (s.2 - s.1)
theorem pcL_len (l : List UInt8) (s : Nat × Nat) (h : s.2 ≤ l.length) : (pcL l s).length = s.2 - s.1 := by
  unfold pcL; rw [List.length_take, List.length_drop]; omega
def frL (l : List UInt8) (off : Int) (lim : Int) (sp : List (Nat × Nat)) : List Value := sp.flatMap fun s => frC (off + (s.1 : Int)) (pcL l s) lim
theorem frL_app (l : List UInt8) (off lim : Int) (a b : List (Nat × Nat)) : frL l off lim (a ++ b) = frL l off lim a ++ frL l off lim b := by unfold frL; rw [List.flatMap_append]
theorem frL_one (l : List UInt8) (off lim : Int) (s : Nat × Nat) : frL l off lim [s] = frC (off + (s.1 : Int)) (pcL l s) lim := by simp [frL]
theorem frL_len (l : List UInt8) (off lim : Int) : ∀ sp, (frL l off lim sp).length = 5 * sp.length
  | [] => rfl
  | x :: r => by
    have e : frL l off lim (x :: r) = frC (off + (x.1 : Int)) (pcL l x) lim ++ frL l off lim r := rfl
    rw [e, List.length_append, frL_len l off lim r]
    simp [frC]; omega
theorem frL_get (l : List UInt8) (off lim : Int) : ∀ (sp : List (Nat × Nat)) (i : Nat) (h : i < sp.length) (j : Nat), j < 5 → (frL l off lim sp)[i * 5 + j]? = (frC (off + (sp[i].1 : Int)) (pcL l sp[i]) lim)[j]?
  | x :: r, 0, _, j, hj => by
    have e : frL l off lim (x :: r) = frC (off + (x.1 : Int)) (pcL l x) lim ++ frL l off lim r := rfl
    rw [e, Nat.zero_mul, Nat.zero_add, List.getElem?_append_left (by simp [frC]; omega)]
    rfl
  | x :: r, i + 1, h, j, hj => by
    have e : frL l off lim (x :: r) = frC (off + (x.1 : Int)) (pcL l x) lim ++ frL l off lim r := rfl
    have h2 := frL_get l off lim r i (by simpa using h) j hj
    have hl : (frC (off + (x.1 : Int)) (pcL l x) lim).length = 5 := rfl
    rw [e, List.getElem?_append_right (by rw [hl]; omega), hl, show (i + 1) * 5 + j - 5 = i * 5 + j by omega, h2]
    rfl

/-- Each span ends behind its only line feed. -/
theorem spK_in (l : List UInt8) : ∀ k, ∀ s ∈ spK l k, s.1 < s.2 ∧ s.2 ≤ k ∧ l[s.2 - 1]? = some 10 ∧ ∀ j, s.1 ≤ j → j < s.2 - 1 → ¬ l[j]? = some 10
  | 0, s, h => by cases h
  | k + 1, s, h => by
    by_cases h10 : l[k]? = some 10
    · have e : spK l (k + 1) = spK l k ++ [(lastK l k, k + 1)] := if_pos h10
      rw [e] at h
      rcases List.mem_append.1 h with h | h
      · obtain ⟨a, b, c, d⟩ := spK_in l k s h
        exact ⟨a, by omega, c, d⟩
      · obtain rfl : s = (lastK l k, k + 1) := by simpa using h
        refine ⟨by have := lastK_le l k; show lastK l k < k + 1; omega, Nat.le_refl _, h10, fun j h1 h2 => ?_⟩
        exact last_no l k j h1 (by simpa using h2)
    · have e : spK l (k + 1) = spK l k := if_neg h10
      rw [e] at h
      obtain ⟨a, b, c, d⟩ := spK_in l k s h
      exact ⟨a, by omega, c, d⟩
where
  last_no (l : List UInt8) : ∀ k j, lastK l k ≤ j → j < k → ¬ l[j]? = some 10
    | 0, j, _, h => by omega
    | k + 1, j, h1, h2 => by
      by_cases h10 : l[k]? = some 10
      · rw [lastK_yes h10] at h1; omega
      · rw [lastK_no h10] at h1
        by_cases hj : j = k
        · rw [hj]; exact h10
        · exact last_no l k j h1 (by omega)
/-- The last line's end, as a point to go on from. -/
theorem last_self (l : List UInt8) : ∀ k, lastK l (lastK l k) = lastK l k ∧ spK l (lastK l k) = spK l k
  | 0 => ⟨rfl, rfl⟩
  | k + 1 => by
    by_cases h10 : l[k]? = some 10
    · rw [lastK_yes h10]; exact ⟨lastK_yes h10, rfl⟩
    · rw [lastK_no h10]
      obtain ⟨a, b⟩ := last_self l k
      refine ⟨a, ?_⟩
      have e : spK l (k + 1) = spK l k := if_neg h10
      rw [e, b]
def upS (d : Nat) (sp : List (Nat × Nat)) : List (Nat × Nat) := sp.map fun s => (d + s.1, d + s.2)
theorem spK_shift (l : List UInt8) (d : Nat) (hd : lastK l d = d) : ∀ k, lastK l (d + k) = d + lastK (l.drop d) k ∧ spK l (d + k) = spK l d ++ upS d (spK (l.drop d) k)
  | 0 => ⟨by rw [Nat.add_zero, hd]; rfl, by simp [spK, upS]⟩
  | k + 1 => by
    obtain ⟨a, b⟩ := spK_shift l d hd k
    have hx : (l.drop d)[k]? = l[d + k]? := by rw [List.getElem?_drop]
    by_cases h10 : l[d + k]? = some 10
    · have e1 : spK l (d + (k + 1)) = spK l (d + k) ++ [(lastK l (d + k), d + k + 1)] := if_pos h10
      have e2 : spK (l.drop d) (k + 1) = spK (l.drop d) k ++ [(lastK (l.drop d) k, k + 1)] := if_pos (by rw [hx]; exact h10)
      refine ⟨?_, ?_⟩
      · rw [lastK_yes (by rw [hx]; exact h10), show d + (k + 1) = d + k + 1 by omega, lastK_yes h10]
      · rw [e1, e2, a, b, upS, upS, List.map_append, List.append_assoc]
        rfl
    · have e1 : spK l (d + (k + 1)) = spK l (d + k) := if_neg h10
      have e2 : spK (l.drop d) (k + 1) = spK (l.drop d) k := if_neg (by rw [hx]; exact h10)
      refine ⟨?_, ?_⟩
      · rw [lastK_no (by rw [hx]; exact h10), show d + (k + 1) = d + k + 1 by omega, lastK_no h10, a]
      · rw [e1, e2, b]
theorem spK_take (l : List UInt8) (s : Nat) : ∀ k, k ≤ s → spK (l.take s) k = spK l k ∧ lastK (l.take s) k = lastK l k
  | 0, _ => ⟨rfl, rfl⟩
  | k + 1, h => by
    obtain ⟨a, b⟩ := spK_take l s k (by omega)
    have hx : (l.take s)[k]? = l[k]? := by rw [List.getElem?_take]; rw [if_pos (by omega)]
    by_cases h10 : l[k]? = some 10
    · have e1 : spK l (k + 1) = spK l k ++ [(lastK l k, k + 1)] := if_pos h10
      have e2 : spK (l.take s) (k + 1) = spK (l.take s) k ++ [(lastK (l.take s) k, k + 1)] := if_pos (by rw [hx]; exact h10)
      refine ⟨by rw [e1, e2, a, b], ?_⟩
      rw [lastK_yes h10, lastK_yes (by rw [hx]; exact h10)]
    · have e1 : spK l (k + 1) = spK l k := if_neg h10
      have e2 : spK (l.take s) (k + 1) = spK (l.take s) k := if_neg (by rw [hx]; exact h10)
      refine ⟨by rw [e1, e2, a], ?_⟩
      rw [lastK_no h10, lastK_no (by rw [hx]; exact h10), b]
/-- The records of a part, where the part before it ends. -/
theorem frL_part (l : List UInt8) (d s : Nat) (hd : lastK l d = d) (h1 : d ≤ s) (h2 : s ≤ l.length) (lim : Int) :
    frL l 0 lim (spK l s) = frL l 0 lim (spK l d) ++ frL ((l.take s).drop d) (d : Int) lim (spK ((l.take s).drop d) (s - d)) ∧ lastK l s = d + lastK ((l.take s).drop d) (s - d) := by
  have hdt : lastK (l.take s) d = d := by rw [(spK_take l s d h1).2, hd]
  obtain ⟨a, b⟩ := spK_shift (l.take s) d hdt (s - d)
  rw [show d + (s - d) = s by omega] at a b
  rw [(spK_take l s s (Nat.le_refl _)).2] at a
  rw [(spK_take l s s (Nat.le_refl _)).1, (spK_take l s d h1).1] at b
  refine ⟨?_, a⟩
  rw [b, frL_app]
  congr 1
  have hin := spK_in ((l.take s).drop d) (s - d)
  have hlen : ((l.take s).drop d).length = s - d := by rw [List.length_drop, List.length_take]; omega
  obtain ⟨sp, hsp⟩ : ∃ sp, spK ((l.take s).drop d) (s - d) = sp := ⟨_, rfl⟩
  rw [hsp] at hin ⊢
  clear hsp b a
  induction sp with
  | nil => rfl
  | cons x r ih =>
    have e1 : frL l 0 lim (upS d (x :: r)) = frC (0 + ((d + x.1 : Nat) : Int)) (pcL l (d + x.1, d + x.2)) lim ++ frL l 0 lim (upS d r) := rfl
    have e2 : frL ((l.take s).drop d) d lim (x :: r) = frC ((d : Int) + (x.1 : Int)) (pcL ((l.take s).drop d) x) lim ++ frL ((l.take s).drop d) d lim r := rfl
    rw [e1, e2, ih (fun y hy => hin y (List.mem_cons_of_mem _ hy))]
    have hx := hin x (List.mem_cons_self ..)
    have hp : pcL l (d + x.1, d + x.2) = pcL ((l.take s).drop d) x := by
      unfold pcL
      apply List.ext_getElem?
      intro i
      simp only [List.getElem?_take, List.getElem?_drop]
      by_cases hi : i < x.2 - x.1
      · rw [if_pos (by omega), if_pos hi, if_pos (by omega)]
        congr 1
        omega
      · rw [if_neg (by omega), if_neg hi]
    rw [hp]
    congr 2
    push_cast
    omega
end Go.Proofs.YtbpboghjgbgjfaaDoor
