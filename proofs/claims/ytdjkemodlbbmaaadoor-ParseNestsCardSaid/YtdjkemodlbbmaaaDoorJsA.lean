/- What JSON's tokens are, and that closing braces behind them change nothing: plain mathematics. -/
import Derived.Test.YtdjkemodlbbmaaaDoorKvG
import Derived.Lib.SlTrimSet
namespace Go.Proofs.YtdjkemodlbbmaaaDoor
open Go.RowKit

def escJ (c : UInt8) : Option UInt8 := if c = 34 ∨ c = 92 ∨ c = 47 then some c else if c = 110 then some 10 else if c = 116 then some 9 else if c = 114 then some 13 else none
/-- Without blanks and tabs. -/
def skL (l : List UInt8) : List UInt8 := Lib.trimLeftS l [32, 9]
theorem skL_nil : skL [] = [] := rfl
theorem skL_cons (b : UInt8) (r : List UInt8) : skL (b :: r) = if b = 32 ∨ b = 9 then skL r else b :: r := by
  unfold skL Lib.trimLeftS
  rw [List.dropWhile_cons]
  by_cases h : b = 32 ∨ b = 9
  · rw [if_pos h]
    rcases h with rfl | rfl <;> rfl
  · rw [if_neg h]
    have : ([32, 9] : List UInt8).contains b = false := by
      simp only [List.contains_cons, List.contains_nil, Bool.or_false]
      rw [Bool.or_eq_false_iff, beq_eq_false_iff_ne, beq_eq_false_iff_ne]
      exact ⟨fun e => h (.inl e), fun e => h (.inr e)⟩
    rw [this]
    rfl
/-- Closing braces. -/
def brs (n : Nat) : List UInt8 := List.replicate n 125
theorem brs_succ (n : Nat) : brs (n + 1) = 125 :: brs n := rfl
/-- No braces. -/
def Flat (l : List UInt8) : Prop := ∀ b ∈ l, b ≠ 123 ∧ b ≠ 125
theorem Flat.tail {b : UInt8} {r : List UInt8} (h : Flat (b :: r)) : Flat r := fun c hc => h c (by simp [hc])
theorem Flat.skL : ∀ {l : List UInt8}, Flat l → Flat (skL l)
  | [], h => h
  | b :: r, h => by
    rw [skL_cons]
    split
    · exact Flat.skL h.tail
    · exact h
theorem skL_brs (n : Nat) : skL (brs n) = brs n := by
  cases n with
  | zero => rfl
  | succ n => rw [brs_succ, skL_cons, if_neg (by decide)]
theorem skL_app (n : Nat) : ∀ l : List UInt8, skL (l ++ brs n) = skL l ++ brs n
  | [] => skL_brs n
  | b :: r => by
    rw [List.cons_append, skL_cons, skL_cons]
    by_cases h : b = 32 ∨ b = 9
    · rw [if_pos h, if_pos h, skL_app n r]
    · rw [if_neg h, if_neg h]; rfl
theorem skL_len : ∀ l : List UInt8, (skL l).length ≤ l.length
  | [] => Nat.le_refl _
  | b :: r => by
    rw [skL_cons]
    have := skL_len r
    split <;> simp only [List.length_cons] <;> omega
/-- A token comes next. -/
def tkB (t r : List UInt8) : Bool := Lib.hasPrefix (skL r) t
def tkR (t r : List UInt8) : List UInt8 := Lib.trimPrefix (skL r) t
theorem tkR_yes {t r : List UInt8} (h : tkB t r = true) : tkR t r = (skL r).drop t.length := by
  unfold tkR Lib.trimPrefix
  unfold tkB at h
  rw [if_pos h]
theorem tkR_no {t r : List UInt8} (h : tkB t r = false) : tkR t r = skL r := by
  unfold tkR Lib.trimPrefix
  unfold tkB at h
  rw [if_neg (by rw [h]; simp)]
theorem pre_app (n : Nat) : ∀ (t r : List UInt8), (∀ b ∈ t, b ≠ 125) → Lib.hasPrefix (r ++ brs n) t = Lib.hasPrefix r t
  | [], r, _ => by unfold Lib.hasPrefix; simp
  | c :: t, [], h => by
    unfold Lib.hasPrefix
    cases n with
    | zero => rfl
    | succ n =>
      have hc := h c (by simp)
      show ((c == 125) && t.isPrefixOf (brs n)) = false
      rw [beq_eq_false_iff_ne.2 hc]; rfl
  | c :: t, b :: r, h => by
    have ih := pre_app n t r (fun d hd => h d (by simp [hd]))
    unfold Lib.hasPrefix at ih ⊢
    show ((c == b) && t.isPrefixOf (r ++ brs n)) = ((c == b) && t.isPrefixOf r)
    rw [ih]
theorem tkB_app (n : Nat) (t r : List UInt8) (h : ∀ b ∈ t, b ≠ 125) : tkB t (r ++ brs n) = tkB t r := by
  unfold tkB
  rw [skL_app, pre_app n t _ h]
theorem pre_len {t r : List UInt8} (h : Lib.hasPrefix r t = true) : t.length ≤ r.length := by
  unfold Lib.hasPrefix at h
  rw [List.isPrefixOf_iff_prefix] at h
  exact h.length_le
theorem tkR_app (n : Nat) (t r : List UInt8) (h : ∀ b ∈ t, b ≠ 125) : tkR t (r ++ brs n) = tkR t r ++ brs n := by
  cases hb : tkB t r with
  | true =>
    have hb2 := tkB_app n t r h
    rw [hb] at hb2
    rw [tkR_yes hb, tkR_yes hb2, skL_app, List.drop_append_of_le_length (pre_len hb)]
  | false =>
    have hb2 := tkB_app n t r h
    rw [hb] at hb2
    rw [tkR_no hb, tkR_no hb2, skL_app]
theorem Flat.drop {l : List UInt8} (h : Flat l) (k : Nat) : Flat (l.drop k) := fun b hb => h b (List.mem_of_mem_drop hb)
theorem Flat.tkR {t r : List UInt8} (h : Flat r) : Flat (tkR t r) := by
  cases hb : tkB t r with
  | true => rw [tkR_yes hb]; exact h.skL.drop _
  | false => rw [tkR_no hb]; exact h.skL
theorem tkR_len (t r : List UInt8) : (tkR t r).length ≤ r.length := by
  have := skL_len r
  cases hb : tkB t r with
  | true => rw [tkR_yes hb, List.length_drop]; omega
  | false => rw [tkR_no hb]; exact this
/-- What reading a string hands back, and what is left. -/
def txO (r : List UInt8) : Option (List UInt8 × List UInt8) := if q34 (skL r) then qA 32 escJ [] ((skL r).drop 1) else none
theorem qS_app (n : Nat) : ∀ (l : List UInt8) (p : Bool) (acc : List UInt8), qS 32 escJ p acc (l ++ brs n) = (qS 32 escJ p acc l).map (fun q => (q.1, q.2 ++ brs n))
  | [], p, acc => by
    rw [List.nil_append]
    have : ∀ (n : Nat) (p : Bool) (acc : List UInt8), qS 32 escJ p acc (brs n) = none := by
      intro n
      induction n with
      | zero => intro p acc; cases p <;> rfl
      | succ n ih =>
        intro p acc
        rw [brs_succ]
        cases p with
        | true => rw [qS]; rfl
        | false => rw [qS, if_neg (by decide), if_neg (by decide), if_neg (by decide)]; exact ih _ _
    rw [this]
    cases p <;> rfl
  | c :: r, true, acc => by
    rw [List.cons_append, qS, qS]
    cases escJ c with
    | none => rfl
    | some x => exact qS_app n r false _
  | c :: r, false, acc => by
    rw [List.cons_append, qS, qS]
    split
    · rfl
    · split
      · rfl
      · split
        · exact qS_app n r true _
        · exact qS_app n r false _
theorem q34_app (n : Nat) (r : List UInt8) : q34 (r ++ brs n) = q34 r := by
  cases r with
  | nil => cases n <;> rfl
  | cons b r => rfl
theorem txO_app (n : Nat) (r : List UInt8) : txO (r ++ brs n) = (txO r).map (fun q => (q.1, q.2 ++ brs n)) := by
  unfold txO
  rw [skL_app, q34_app]
  cases hq : q34 (skL r) with
  | false => rfl
  | true =>
    rw [if_pos rfl, if_pos rfl, List.drop_append_of_le_length (valR_q hq).2]
    exact qS_app n _ false []
theorem qS_mem (n : Nat) : ∀ (l : List UInt8) (p : Bool) (acc t u : List UInt8), qS 32 escJ p acc l = some (t, u) → ∀ b ∈ u, b ∈ l
  | [], p, acc, t, u, h => by cases p <;> cases h
  | c :: r, true, acc, t, u, h => fun b hb => by
    rw [qS] at h
    cases he : escJ c with
    | none => rw [he] at h; cases h
    | some x => rw [he] at h; exact List.mem_cons_of_mem _ (qS_mem n r _ _ _ _ h b hb)
  | c :: r, false, acc, t, u, h => fun b hb => by
    rw [qS] at h
    split at h
    · cases h; exact List.mem_cons_of_mem _ hb
    · split at h
      · cases h
      · split at h
        · exact List.mem_cons_of_mem _ (qS_mem n r _ _ _ _ h b hb)
        · exact List.mem_cons_of_mem _ (qS_mem n r _ _ _ _ h b hb)
theorem txO_flat {r t u : List UInt8} (h : txO r = some (t, u)) (hf : Flat r) : Flat u := by
  unfold txO at h
  split at h
  · exact fun b hb => (hf.skL.drop 1) b (qS_mem 0 _ _ _ _ _ h b hb)
  · cases h
theorem txO_len {r t u : List UInt8} (h : txO r = some (t, u)) : u.length < r.length := by
  unfold txO at h
  split at h
  · have h1 := qS_len 32 escJ _ _ _ _ _ h
    have h2 := skL_len r
    rw [List.length_drop] at h1
    omega
  · cases h
def dgS : List UInt8 := [48, 49, 50, 51, 52, 53, 54, 55, 56, 57]
/-- Without digits. -/
def dgL (l : List UInt8) : List UInt8 := Lib.trimLeftS l dgS
theorem dgL_brs (n : Nat) : dgL (brs n) = brs n := by
  cases n with
  | zero => rfl
  | succ n => rfl
theorem dgL_app (n : Nat) : ∀ l : List UInt8, dgL (l ++ brs n) = dgL l ++ brs n
  | [] => dgL_brs n
  | b :: r => by
    have ih := dgL_app n r
    unfold dgL Lib.trimLeftS at ih ⊢
    rw [List.cons_append, List.dropWhile_cons, List.dropWhile_cons]
    cases dgS.contains b with
    | true => exact ih
    | false => rfl
theorem dgL_suf (l : List UInt8) : dgL l <:+ l := List.dropWhile_suffix _
/-- The digits of an integer, and what follows them. -/
def inD (r : List UInt8) : List UInt8 := Lib.trimPrefix r [45]
def inA (r : List UInt8) : List UInt8 := if Lib.hasPrefix (inD r) [48] then (inD r).drop 1 else dgL (inD r)
def inO (r : List UInt8) : Option (List UInt8 × List UInt8) := if (inA r).length < (inD r).length then some (r.take (r.length - (inA r).length), inA r) else none
theorem tp_suf (r t : List UInt8) : Lib.trimPrefix r t <:+ r := by
  unfold Lib.trimPrefix
  split
  · exact List.drop_suffix _ _
  · exact List.suffix_refl _
theorem inA_suf (r : List UInt8) : inA r <:+ r := by
  unfold inA
  split
  · exact (List.drop_suffix _ _).trans (tp_suf r [45])
  · exact (dgL_suf _).trans (tp_suf r [45])
theorem tp_app (n : Nat) (t r : List UInt8) (h : ∀ b ∈ t, b ≠ 125) : Lib.trimPrefix (r ++ brs n) t = Lib.trimPrefix r t ++ brs n := by
  unfold Lib.trimPrefix
  rw [pre_app n t r h]
  cases hb : Lib.hasPrefix r t with
  | true => rw [if_pos rfl, if_pos rfl, List.drop_append_of_le_length (pre_len hb)]
  | false => rw [if_neg (by simp), if_neg (by simp)]
theorem inD_app (n : Nat) (r : List UInt8) : inD (r ++ brs n) = inD r ++ brs n := tp_app n [45] r (by decide)
theorem inA_app (n : Nat) (r : List UInt8) : inA (r ++ brs n) = inA r ++ brs n := by
  unfold inA
  rw [inD_app, pre_app n [48] _ (by decide)]
  cases hb : Lib.hasPrefix (inD r) [48] with
  | true => rw [if_pos rfl, if_pos rfl, List.drop_append_of_le_length (show 1 ≤ (inD r).length from pre_len hb)]
  | false => rw [if_neg (by simp), if_neg (by simp), dgL_app]
theorem inO_app (n : Nat) (r : List UInt8) : inO (r ++ brs n) = (inO r).map (fun q => (q.1, q.2 ++ brs n)) := by
  unfold inO
  rw [inA_app, inD_app]
  simp only [List.length_append]
  have hl := (inA_suf r).length_le
  by_cases h : (inA r).length < (inD r).length
  · rw [if_pos h, if_pos (by omega)]
    simp only [Option.map_some]
    rw [List.take_append_of_le_length (by omega)]
    congr 3
    omega
  · rw [if_neg h, if_neg (by omega)]
    rfl
theorem inO_flat {r t u : List UInt8} (h : inO r = some (t, u)) (hf : Flat r) : Flat u := by
  unfold inO at h
  split at h
  · cases h; exact fun b hb => hf b ((inA_suf r).subset hb)
  · cases h
theorem inO_len {r t u : List UInt8} (h : inO r = some (t, u)) : u.length ≤ r.length := by
  unfold inO at h
  split at h
  · cases h; exact (inA_suf r).length_le
  · cases h
def tokT : List UInt8 := [116, 114, 117, 101]
def tokF : List UInt8 := [102, 97, 108, 115, 101]
def tokN : List UInt8 := [110, 117, 108, 108]
/-- A value that is no object. -/
def scO (r : List UInt8) : Option (List UInt8 × List UInt8) :=
  if tkB tokT r then some (tokT, tkR tokT r) else
  if tkB tokF (tkR tokT r) then some (tokF, tkR tokF (tkR tokT r)) else
  if tkB tokN (tkR tokF (tkR tokT r)) then some ([], tkR tokN (tkR tokF (tkR tokT r))) else
  if q34 (tkR tokN (tkR tokF (tkR tokT r))) then txO (tkR tokN (tkR tokF (tkR tokT r))) else inO (tkR tokN (tkR tokF (tkR tokT r)))
theorem scO_app (n : Nat) (r : List UInt8) : scO (r ++ brs n) = (scO r).map (fun q => (q.1, q.2 ++ brs n)) := by
  have h1 : ∀ b ∈ tokT, b ≠ 125 := by decide
  have h2 : ∀ b ∈ tokF, b ≠ 125 := by decide
  have h3 : ∀ b ∈ tokN, b ≠ 125 := by decide
  unfold scO
  rw [tkB_app n _ _ h1, tkR_app n _ _ h1, tkB_app n _ _ h2, tkR_app n _ _ h2, tkB_app n _ _ h3, tkR_app n _ _ h3, q34_app, txO_app, inO_app]
  split
  · rfl
  · split
    · rfl
    · split
      · rfl
      · split <;> rfl
theorem scO_flat {r t u : List UInt8} (h : scO r = some (t, u)) (hf : Flat r) : Flat u := by
  unfold scO at h
  split at h
  · cases h; exact hf.tkR
  · split at h
    · cases h; exact hf.tkR.tkR
    · split at h
      · cases h; exact hf.tkR.tkR.tkR
      · split at h
        · exact txO_flat h hf.tkR.tkR.tkR
        · exact inO_flat h hf.tkR.tkR.tkR
theorem scO_len {r t u : List UInt8} (h : scO r = some (t, u)) : u.length ≤ r.length := by
  have l1 := tkR_len tokT r
  have l2 := tkR_len tokF (tkR tokT r)
  have l3 := tkR_len tokN (tkR tokF (tkR tokT r))
  unfold scO at h
  split at h
  · cases h; exact l1
  · split at h
    · cases h; omega
    · split at h
      · cases h; omega
      · split at h
        · have := txO_len h; omega
        · have := inO_len h; omega
/-- A member whose value is no object: its name, its value, and what is left. -/
def meO (r : List UInt8) : Option ((List UInt8 × List UInt8) × List UInt8) := match txO r with
  | none => none
  | some (nm, r1) => if tkB [58] r1 then (match scO (tkR [123] (tkR [58] r1)) with
    | none => none
    | some (v, r2) => some ((nm, v), r2)) else none
theorem meO_flat {r u : List UInt8} {p : List UInt8 × List UInt8} (h : meO r = some (p, u)) (hf : Flat r) : Flat u ∧ u.length < r.length := by
  unfold meO at h
  cases ht : txO r with
  | none => rw [ht] at h; cases h
  | some q =>
    obtain ⟨nm, r1⟩ := q
    rw [ht] at h
    simp only [] at h
    split at h
    · have hf1 := txO_flat ht hf
      have hl1 := txO_len ht
      have l1 := tkR_len [58] r1
      have l2 := tkR_len [123] (tkR [58] r1)
      cases hs : scO (tkR [123] (tkR [58] r1)) with
      | none => rw [hs] at h; cases h
      | some q2 =>
        obtain ⟨v, r2⟩ := q2
        rw [hs] at h
        cases h
        have := scO_len hs
        exact ⟨scO_flat hs hf1.tkR.tkR, by omega⟩
    · cases h
/-- The members of an object without objects, up to where its brace closes. -/
def paL : Nat → List UInt8 → Option (List (List UInt8 × List UInt8))
  | 0, _ => none
  | f + 1, r => match meO r with
    | none => none
    | some (p, r1) => if skL r1 = [] then some [p] else if tkB [44] (skL r1) then (paL f (tkR [44] (skL r1))).map (p :: ·) else none
def paO (r : List UInt8) : Option (List (List UInt8 × List UInt8)) := if skL r = [] then some [] else paL (r.length + 1) (skL r)
end Go.Proofs.YtdjkemodlbbmaaaDoor
