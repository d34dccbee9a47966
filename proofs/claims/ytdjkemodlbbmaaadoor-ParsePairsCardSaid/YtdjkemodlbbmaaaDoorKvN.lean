/- Fields that are quoted and joined are split again: plain mathematics. -/
import Derived.Test.YtdjkemodlbbmaaaDoorKvM
namespace Go.Proofs.YtdjkemodlbbmaaaDoor
open Go.RowKit

/-- A field with its quotes doubled. -/
def dbl : List UInt8 → List UInt8
  | [] => []
  | b :: r => if b = 34 then 34 :: 34 :: dbl r else b :: dbl r
theorem dbl_app : ∀ a b, dbl (a ++ b) = dbl a ++ dbl b
  | [], b => rfl
  | c :: r, b => by
    rw [List.cons_append, dbl, dbl]
    by_cases h : c = 34
    · rw [if_pos h, if_pos h, dbl_app r b]; rfl
    · rw [if_neg h, if_neg h, dbl_app r b]; rfl
theorem dbl_len : ∀ a, (dbl a).length ≤ 2 * a.length
  | [] => by simp [dbl]
  | c :: r => by
    have := dbl_len r
    rw [dbl]
    by_cases h : c = 34
    · rw [if_pos h]; simp only [List.length_cons]; omega
    · rw [if_neg h]; simp only [List.length_cons]; omega
def spcC (c : UInt8) (l : List UInt8) : Bool := l.any (fun b => b == 34 || b == c)
/-- A field as it is written. -/
def fldE (c : UInt8) (p : Bool) (x : List UInt8) : List UInt8 := if spcC c x || p then 34 :: (dbl x ++ [34]) else x
def joinE (c : UInt8) (p : Bool) : List (List UInt8) → List UInt8
  | [] => []
  | [x] => fldE c p x
  | x :: y :: r => fldE c p x ++ c :: joinE c p (y :: r)
theorem joinE_snoc (c : UInt8) (p : Bool) : ∀ (L : List (List UInt8)) (x : List UInt8), L ≠ [] → joinE c p (L ++ [x]) = joinE c p L ++ c :: fldE c p x
  | [], x, h => absurd rfl h
  | [y], x, _ => rfl
  | y :: z :: r, x, _ => by
    have ih := joinE_snoc c p (z :: r) x (by simp)
    rw [List.cons_append] at ih
    show fldE c p y ++ c :: joinE c p (z :: (r ++ [x])) = _
    rw [ih]
    simp [joinE]
theorem dS_dbl (t : List UInt8) (ht : q34 t = false) : ∀ (x acc : List UInt8), dS false acc (dbl x ++ 34 :: t) = some (acc ++ x, t)
  | [], acc => by
    show dS false acc (34 :: t) = _
    rw [dS, if_pos rfl, List.append_nil]
    cases t with
    | nil => rfl
    | cons b r =>
      have hb : b ≠ 34 := by simpa [q34] using ht
      rw [dS, if_neg hb]
  | b :: r, acc => by
    rw [dbl]
    by_cases h : b = 34
    · rw [if_pos h]
      show dS false acc (34 :: 34 :: (dbl r ++ 34 :: t)) = _
      rw [dS, if_pos rfl, dS, if_pos rfl, dS_dbl t ht r (acc ++ [34]), h]
      simp
    · rw [if_neg h]
      show dS false acc (b :: (dbl r ++ 34 :: t)) = _
      rw [dS, if_neg h, dS_dbl t ht r (acc ++ [b])]
      simp
theorem untl_all {c : UInt8} {t : List UInt8} (ht : t = [] ∨ ∃ r, t = c :: r) : ∀ (x : List UInt8), (∀ b ∈ x, b ≠ c) → untl c (x ++ t) = x ∧ frm c (x ++ t) = t
  | [], _ => by
    rcases ht with rfl | ⟨r, rfl⟩
    · exact ⟨rfl, rfl⟩
    · rw [List.nil_append, untl_cons, frm_cons, if_pos rfl, if_pos rfl]; exact ⟨rfl, rfl⟩
  | b :: r, h => by
    have hb := h b (by simp)
    have ih := untl_all ht r (fun d hd => h d (by simp [hd]))
    rw [List.cons_append, untl_cons, frm_cons, if_neg hb, if_neg hb, ih.1, ih.2]
    exact ⟨rfl, rfl⟩
theorem dvR_fld (c : UInt8) (p : Bool) (hc : c ≠ 34) (x t : List UInt8) (ht : t = [] ∨ ∃ r, t = c :: r) : dvR c (fldE c p x ++ t) = some (x, t) := by
  have hq : q34 t = false := by
    rcases ht with rfl | ⟨r, rfl⟩
    · rfl
    · simpa [q34] using hc
  have he : endB c t = true := by
    rcases ht with rfl | ⟨r, rfl⟩
    · rfl
    · simp [endB]
  unfold fldE
  cases hs : (spcC c x || p) with
  | true =>
    rw [if_pos rfl]
    unfold dvR
    rw [if_pos (by rfl)]
    have e : (34 :: (dbl x ++ [34]) ++ t).drop 1 = dbl x ++ 34 :: t := by simp
    rw [e, dS_dbl t hq x []]
    simp only [List.nil_append]
    rw [if_pos he]
  | false =>
    rw [if_neg (by simp)]
    rw [Bool.or_eq_false_iff] at hs
    have hx : ∀ b ∈ x, b ≠ 34 ∧ b ≠ c := fun b hb => by
      have := List.any_eq_false.1 hs.1 b hb
      simp at this
      exact this
    have hq2 : q34 (x ++ t) = false := by
      cases x with
      | nil => exact hq
      | cons b r => simpa [q34] using (hx b (by simp)).1
    unfold dvR
    rw [if_neg (by rw [hq2]; simp)]
    obtain ⟨h1, h2⟩ := untl_all ht x (fun b hb => (hx b hb).2)
    rw [h1, h2]
theorem dl_join (c : UInt8) (p : Bool) (hc : c ≠ 34) : ∀ (L : List ByteArray) (f : Nat) (acc : List ByteArray), L ≠ [] → acc.length + L.length ≤ 33 → L.length ≤ f → dlF c f acc (joinE c p (L.map (·.data.toList))) = some (acc ++ L)
  | [], f, acc, h, _, _ => absurd rfl h
  | [x], f, acc, _, h1, h2 => by
    obtain ⟨f, rfl⟩ : ∃ f', f = f' + 1 := ⟨f - 1, by simp at h2; omega⟩
    show dlF c (f + 1) acc (fldE c p x.data.toList) = _
    have := dvR_fld c p hc x.data.toList [] (.inl rfl)
    rw [List.append_nil] at this
    rw [dlF, this]
    simp only []
    unfold accS
    rw [if_pos (by simp at h1; omega)]
  | x :: y :: r, f, acc, _, h1, h2 => by
    obtain ⟨f, rfl⟩ : ∃ f', f = f' + 1 := ⟨f - 1, by simp at h2; omega⟩
    show dlF c (f + 1) acc (fldE c p x.data.toList ++ c :: joinE c p ((y :: r).map (·.data.toList))) = _
    rw [dlF, dvR_fld c p hc x.data.toList _ (.inr ⟨_, rfl⟩)]
    simp only []
    have ha : accS acc x.data.toList = acc ++ [x] := by unfold accS; rw [if_pos (by simp at h1; omega)]
    rw [ha, dl_join c p hc (y :: r) f (acc ++ [x]) (by simp) (by simp at h1 ⊢; omega) (by simp at h2 ⊢; omega)]
    simp
end Go.Proofs.YtdjkemodlbbmaaaDoor
