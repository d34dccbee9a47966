/- The contracts of package ascii's Number and of its reference: both return the number of a decimal integer of at most 18 digits. -/
import Derived.Test.YtdjkemodlbbmaaaDoorAsciiCls
import Derived.Test.YtdjkemodlbbmaaaDoorShelf
import Derived.LoopTactic
namespace Go.Proofs.YtdjkemodlbbmaaaDoor
open Go.RowKit

def valD (l : List UInt8) : Nat := l.foldl (fun n c => 10 * n + (c.toNat - 48)) 0
theorem valD_snoc (l : List UInt8) (c : UInt8) : valD (l ++ [c]) = 10 * valD l + (c.toNat - 48) := by simp [valD]
def allD (l : List UInt8) : Bool := l.all fun c => digB c.toNat
theorem allD_snoc (l : List UInt8) (c : UInt8) : allD (l ++ [c]) = (allD l && digB c.toNat) := by simp [allD]
theorem valD_lt_aux (l : List UInt8) (h : allD l = true) : ∀ a : Nat, l.foldl (fun n c => 10 * n + (c.toNat - 48)) a < (a + 1) * 10 ^ l.length := by
  induction l with
  | nil => intro a; simp
  | cons c r ih =>
    intro a
    simp only [allD, List.all_cons, Bool.and_eq_true] at h
    have h2 : digB c.toNat = true := h.1
    simp [digB] at h2
    have := ih h.2 (10 * a + (c.toNat - 48))
    rw [List.foldl_cons, List.length_cons, Nat.pow_succ]
    refine Nat.lt_of_lt_of_le this ?_
    have e : (a + 1) * (10 ^ r.length * 10) = (10 * (a + 1)) * 10 ^ r.length := by rw [Nat.mul_comm (10 ^ r.length) 10, ← Nat.mul_assoc, Nat.mul_comm (a + 1) 10]
    rw [e]
    exact Nat.mul_le_mul_right _ (by omega)
theorem valD_lt (l : List UInt8) (h : allD l = true) : valD l < 10 ^ l.length := by
  have := valD_lt_aux l h 0
  simpa [valD] using this
theorem valD_bd (l : List UInt8) (k : Nat) (h : allD l = true) (hk : l.length ≤ k) : valD l < 10 ^ k :=
  Nat.lt_of_lt_of_le (valD_lt l h) (Nat.pow_le_pow_right (by omega) hk)
theorem take_snoc' (l : List UInt8) (k : Nat) (h : k < l.length) : l.take (k + 1) = l.take k ++ [l[k]] := by
  rw [List.take_succ_eq_append_getElem h]
theorem take_snocB (s : ByteArray) (k : Nat) (h : k < s.size) : s.data.toList.take (k + 1) = s.data.toList.take k ++ [s[k]] := by
  rw [List.take_succ_eq_append_getElem (by simpa using h)]; rfl
theorem sizeB (s : ByteArray) : s.data.toList.length = s.size := by rw [Array.length_toList]; rfl
theorem allD_falseB (s : ByteArray) (k : Nat) (h : k < s.size) (hd : digB s[k].toNat = false) : allD s.data.toList = false := by
  have hm : s[k] ∈ s.data.toList := List.getElem_mem (l := s.data.toList) (n := k) (by rw [sizeB]; exact h)
  rw [allD, List.all_eq_false]
  exact ⟨s[k], hm, by rw [hd]; exact Bool.false_ne_true⟩

def digOk (l : List UInt8) : Bool := decide (1 ≤ l.length ∧ l.length ≤ 18) && allD l
def isNeg (l : List UInt8) : Bool := l.head? == some 45
def digPart (l : List UInt8) : List UInt8 := if isNeg l then l.tail else l
def numB (l : List UInt8) : Bool := digOk (digPart l)
def numV (l : List UInt8) : Int := if numB l then (if isNeg l then -(valD (digPart l) : Int) else valD (digPart l)) else 0

theorem ret_ib {k : IntKind} {a a' : Int} {b b' : Bool} (h : a = a') (h' : b = b') : Ending.returned (.tuple #[.int k a, .bool b]) = .returned (.tuple #[.int k a', .bool b']) := by rw [h, h']

theorem cutMinus (l : List UInt8) : Lib.trimPrefix l [45] = digPart l ∧ Lib.hasPrefix l [45] = isNeg l := by
  cases l with
  | nil => simp [Lib.trimPrefix, Lib.hasPrefix, digPart, isNeg]
  | cons c r =>
    by_cases h : c = 45
    · subst h; simp [Lib.trimPrefix, Lib.hasPrefix, digPart, isNeg]
    · simp [Lib.trimPrefix, Lib.hasPrefix, digPart, isNeg, h, List.isPrefixOf, Bool.beq_comm]

end Go.Proofs.YtdjkemodlbbmaaaDoor
