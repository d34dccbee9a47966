/- The fields of a byte list: the words between spaces; the fields of the fields joined by blanks are the fields. -/
import Derived.Test.YtkopibaoolaelaaDoorAsciiCls
namespace Go.Proofs.YtkopibaoolaelaaDoor

def isSp (c : UInt8) : Bool := spcB c.toNat
abbrev FSt := List (List UInt8) × List UInt8
def fclose (st : FSt) : List (List UInt8) := if st.2 = [] then st.1 else st.1 ++ [st.2]
def fstep (st : FSt) (c : UInt8) : FSt := if isSp c then (fclose st, []) else (st.1, st.2 ++ [c])
def fscan (l : List UInt8) : FSt := l.foldl fstep ([], [])
def fieldsB (l : List UInt8) : List (List UInt8) := fclose (fscan l)
theorem fscan_nil : fscan [] = ([], []) := rfl
theorem fscan_snoc (l : List UInt8) (c : UInt8) : fscan (l ++ [c]) = fstep (fscan l) c := by simp [fscan]
theorem fscan_append (l r : List UInt8) : fscan (l ++ r) = r.foldl fstep (fscan l) := by simp [fscan]

theorem fstep_sp {st : FSt} {c : UInt8} (h : isSp c = true) : fstep st c = (fclose st, []) := by simp [fstep, h]
theorem fstep_no {st : FSt} {c : UInt8} (h : isSp c = false) : fstep st c = (st.1, st.2 ++ [c]) := by simp [fstep, h]
theorem fclose_nil {a : List (List UInt8)} : fclose (a, []) = a := by simp [fclose]
theorem fclose_ne {a : List (List UInt8)} {x : List UInt8} (h : x ≠ []) : fclose (a, x) = a ++ [x] := by simp [fclose, h]

/-- Words: not empty, and of no spaces. -/
def Word1 (x : List UInt8) : Prop := x ≠ [] ∧ ∀ c ∈ x, isSp c = false
theorem foldl_word : ∀ (x : List UInt8) (st : FSt), (∀ c ∈ x, isSp c = false) → x.foldl fstep st = (st.1, st.2 ++ x)
  | [], st, _ => by simp
  | c :: r, st, h => by
    rw [List.foldl_cons, fstep_no (h c (by simp)), foldl_word r _ (fun d hd => h d (by simp [hd]))]
    simp

theorem fscan_len (l : List UInt8) : (fscan l).1.length + (if (fscan l).2 = [] then 0 else 1) ≤ l.length := by
  induction h : l.length generalizing l with
  | zero =>
    obtain rfl : l = [] := List.eq_nil_of_length_eq_zero h
    simp [fscan_nil]
  | succ n ih =>
    obtain ⟨r, c, rfl⟩ : ∃ r c, l = r ++ [c] := ⟨l.dropLast, l.getLast (by intro e; rw [e] at h; simp at h), (List.dropLast_concat_getLast _).symm⟩
    have hr : r.length = n := by simp at h; exact h
    have := ih r hr
    rw [fscan_snoc]
    cases hs : isSp c with
    | true =>
      rw [fstep_sp hs]
      unfold fclose
      split <;> simp_all <;> omega
    | false =>
      rw [fstep_no hs]
      simp
      split at this <;> omega
theorem fscan_words (l : List UInt8) : (∀ x ∈ (fscan l).1, Word1 x) ∧ ∀ c ∈ (fscan l).2, isSp c = false := by
  induction h : l.length generalizing l with
  | zero =>
    obtain rfl : l = [] := List.eq_nil_of_length_eq_zero h
    simp [fscan_nil]
  | succ n ih =>
    obtain ⟨r, c, rfl⟩ : ∃ r c, l = r ++ [c] := ⟨l.dropLast, l.getLast (by intro e; rw [e] at h; simp at h), (List.dropLast_concat_getLast _).symm⟩
    obtain ⟨h1, h2⟩ := ih r (by simp at h; exact h)
    rw [fscan_snoc]
    cases hs : isSp c with
    | true =>
      rw [fstep_sp hs]
      refine ⟨fun x hx => ?_, by simp⟩
      unfold fclose at hx
      split at hx
      · exact h1 x hx
      · next hne =>
        rcases List.mem_append.1 hx with hx | hx
        · exact h1 x hx
        · obtain rfl : x = _ := by simpa using hx
          exact ⟨hne, h2⟩
    | false =>
      rw [fstep_no hs]
      refine ⟨h1, fun d hd => ?_⟩
      rcases List.mem_append.1 hd with hd | hd
      · exact h2 d hd
      · obtain rfl : d = c := by simpa using hd
        exact hs
theorem fields_words (l : List UInt8) : ∀ x ∈ fieldsB l, Word1 x := by
  obtain ⟨h1, h2⟩ := fscan_words l
  intro x hx
  unfold fieldsB fclose at hx
  split at hx
  · exact h1 x hx
  · next hne =>
    rcases List.mem_append.1 hx with hx | hx
    · exact h1 x hx
    · obtain rfl : x = _ := by simpa using hx
      exact ⟨hne, h2⟩

/-- One word more, behind a blank where it is not the first. -/
def jstep (acc : List UInt8) (i : Nat) (x : List UInt8) : List UInt8 := (if 0 < i then acc ++ [32] else acc) ++ x
/-- The words, joined by single blanks. -/
def joinN (L : List (List UInt8)) : Nat → List UInt8
  | 0 => []
  | k + 1 => jstep (joinN L k) k (L.getD k [])
def joinB (L : List (List UInt8)) : List UInt8 := joinN L L.length

theorem fscan_joinN (L : List (List UInt8)) (h : ∀ x ∈ L, Word1 x) : ∀ k, k < L.length → fscan (joinN L (k + 1)) = (L.take k, L.getD k []) ∧ L.getD k [] ≠ []
  | 0, hk => by
    have hw := h (L.getD 0 []) (by simp [List.getD, hk])
    refine ⟨?_, hw.1⟩
    simp only [joinN, jstep, Nat.lt_irrefl, if_false, List.nil_append]
    rw [fscan, foldl_word _ _ hw.2]
    simp
  | k + 1, hk => by
    obtain ⟨ih, hne⟩ := fscan_joinN L h k (by omega)
    have hw := h (L.getD (k + 1) []) (by simp [List.getD, hk])
    refine ⟨?_, hw.1⟩
    rw [joinN, jstep, if_pos (by omega), fscan_append, fscan_snoc, ih, fstep_sp (by decide), fclose_ne hne, foldl_word _ _ hw.2]
    have e : L.take (k + 1) = L.take k ++ [L.getD k []] := by
      rw [List.take_succ_eq_append_getElem (by omega)]
      simp [List.getD, show k < L.length by omega]
    simp [e]
theorem fields_join (L : List (List UInt8)) (h : ∀ x ∈ L, Word1 x) : fieldsB (joinB L) = L := by
  unfold joinB
  cases hL : L.length with
  | zero =>
    obtain rfl : L = [] := List.eq_nil_of_length_eq_zero hL
    rfl
  | succ k =>
    obtain ⟨h1, h2⟩ := fscan_joinN L h k (by omega)
    unfold fieldsB
    rw [h1, fclose_ne h2]
    have e : L.take (k + 1) = L.take k ++ [L.getD k []] := by
      rw [List.take_succ_eq_append_getElem (by omega)]
      simp [List.getD, show k < L.length by omega]
    rw [← e, ← hL, List.take_length]
theorem fields_again (l : List UInt8) : fieldsB (joinB (fieldsB l)) = fieldsB l := fields_join _ (fields_words l)
theorem wordsTotal (l : List UInt8) : ((fieldsB l).map List.length).sum + (fieldsB l).length ≤ l.length + 1 := by
  have aux : ((fscan l).1.map List.length).sum + (fscan l).1.length + (fscan l).2.length ≤ l.length := by
    induction h : l.length generalizing l with
    | zero =>
      obtain rfl : l = [] := List.eq_nil_of_length_eq_zero h
      simp [fscan_nil]
    | succ n ih =>
      obtain ⟨r, c, rfl⟩ : ∃ r c, l = r ++ [c] := ⟨l.dropLast, l.getLast (by intro e; rw [e] at h; simp at h), (List.dropLast_concat_getLast _).symm⟩
      have := ih r (by simp at h; exact h)
      rw [fscan_snoc]
      cases hs : isSp c with
      | true =>
        rw [fstep_sp hs]
        have hz : ([] : List UInt8).length = 0 := rfl
        unfold fclose
        split
        · simp only []
          omega
        · simp only [List.map_append, List.sum_append, List.length_append, List.map_cons, List.map_nil, List.sum_cons, List.sum_nil, List.length_cons, List.length_nil]
          omega
      | false =>
        rw [fstep_no hs]
        simp
        omega
  unfold fieldsB fclose
  split
  · omega
  · simp; omega
theorem joinN_len (L : List (List UInt8)) : ∀ k, k ≤ L.length → (joinN L k).length ≤ ((L.take k).map List.length).sum + k
  | 0, _ => by simp [joinN]
  | k + 1, hk => by
    have ih := joinN_len L k (by omega)
    have e : L.take (k + 1) = L.take k ++ [L.getD k []] := by
      rw [List.take_succ_eq_append_getElem (by omega)]
      simp [List.getD, show k < L.length by omega]
    rw [e, joinN, jstep]
    split <;> simp at * <;> omega
theorem sum_take_le : ∀ (L : List (List UInt8)) (k : Nat), ((L.take k).map List.length).sum ≤ (L.map List.length).sum
  | [], _ => by simp
  | x :: r, 0 => by simp
  | x :: r, k + 1 => by have := sum_take_le r k; simp only [List.take_succ_cons, List.map_cons, List.sum_cons]; omega
theorem joinN_le (l : List UInt8) (k : Nat) (hk : k ≤ (fieldsB l).length) : (joinN (fieldsB l) k).length ≤ l.length + 1 := by
  have h1 := joinN_len _ k hk
  have h2 := sum_take_le (fieldsB l) k
  have h3 := wordsTotal l
  omega
end Go.Proofs.YtkopibaoolaelaaDoor
