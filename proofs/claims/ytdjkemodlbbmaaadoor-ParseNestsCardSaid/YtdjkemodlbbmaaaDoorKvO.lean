/- The order of fields by their names. -/
import Derived.Test.YtdjkemodlbbmaaaDoorKvB
import Derived.Sort.Statements
namespace Go.Proofs.YtdjkemodlbbmaaaDoor
open Go.RowKit

theorem less_eq : ∀ (x y : List UInt8), Op.bytesLess x y = decide (x < y)
  | [], [] => by simp [Op.bytesLess]
  | _ :: _, [] => by simp [Op.bytesLess]
  | [], _ :: _ => by simp [Op.bytesLess]
  | a :: x, b :: y => by
    rw [Op.bytesLess, less_eq x y, Bool.eq_iff_iff]
    simp only [List.cons_lt_cons_iff, decide_eq_true_iff]
    simp
def nltB (a b : ByteArray) : Prop := a.data.toList < b.data.toList
theorem lessB_iff (a b : ByteArray) : lessB a b = true ↔ nltB a b := by
  unfold lessB nltB
  rw [less_eq, decide_eq_true_iff, toList_b, toList_b]
theorem nlt_irrefl (a : ByteArray) : ¬ nltB a a := List.lt_irrefl _
theorem nlt_trans {a b c : ByteArray} (h : nltB a b) (k : nltB b c) : nltB a c := List.lt_trans h k
theorem nlt_tri {a b : ByteArray} (h : ¬ nltB a b) (k : ¬ nltB b a) : a = b := ext_b (List.le_antisymm (List.not_lt.1 k) (List.not_lt.1 h))
theorem nlt_ntrans {a b c : ByteArray} (h : ¬ nltB a b) (k : ¬ nltB b c) : ¬ nltB a c := fun q => by
  by_cases e : nltB b a
  · exact k (nlt_trans e q)
  · have := nlt_tri h e
    subst this
    exact k q
theorem cmpS_neg (a b : ByteArray) : cmpS a b < 0 ↔ nltB a b := by
  unfold cmpS
  rw [← lessB_iff]
  by_cases h : lessB a b = true
  · rw [if_pos h]; simp [h]
  · rw [if_neg h]
    constructor
    · intro q
      split at q <;> omega
    · intro q; exact absurd q h
def cfF (x y : FldV) : Int := cmpS x.1 y.1
def ltF (x y : FldV) : Bool := decide (cfF x y < 0)
theorem ltF_iff (x y : FldV) : ltF x y = true ↔ nltB x.1 y.1 := by unfold ltF cfF; rw [decide_eq_true_iff, cmpS_neg]
theorem ltF_not (x y : FldV) : ltF x y = false ↔ ¬ nltB x.1 y.1 := by rw [← ltF_iff, Bool.not_eq_true]
theorem ltF_swo : Go.Sort.SWO ltF :=
  ⟨fun x => by rw [ltF_not]; exact nlt_irrefl _, fun x y z h1 h2 => by rw [ltF_iff] at *; exact nlt_trans h1 h2, fun x y z h1 h2 => by rw [ltF_not] at *; exact nlt_ntrans h1 h2⟩
/-- Names ascend. -/
def Asc (S : List FldV) : Prop := S.Pairwise (fun x y => nltB x.1 y.1)
theorem asc_uniq : ∀ {S T : List FldV}, Asc S → Asc T → S.Perm T → S = T
  | [], T, _, _, h => (List.nil_perm.1 h).symm
  | x :: S, T, hS, hT, h => by
    cases T with
    | nil => exact absurd h.symm.length_eq (by simp)
    | cons y T =>
      have hS' := List.pairwise_cons.1 hS
      have hT' := List.pairwise_cons.1 hT
      have e : x = y := by
        have h1 : x ∈ y :: T := h.mem_iff.1 (by simp)
        have h2 : y ∈ x :: S := h.mem_iff.2 (by simp)
        rcases List.mem_cons.1 h1 with e | m1
        · exact e
        · rcases List.mem_cons.1 h2 with e | m2
          · exact e.symm
          · exact absurd (nlt_trans (hT'.1 x m1) (hS'.1 y m2)) (nlt_irrefl _)
      subst e
      rw [asc_uniq hS'.2 hT'.2 (List.Perm.cons_inv h)]
end Go.Proofs.YtdjkemodlbbmaaaDoor
