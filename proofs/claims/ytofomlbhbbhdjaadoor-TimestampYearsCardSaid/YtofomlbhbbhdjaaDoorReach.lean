/- What a row's reach says of the strings among a law's arguments. -/
import Derived.Test.YtofomlbhbbhdjaaDoorArgs
namespace Go.Proofs.YtofomlbhbbhdjaaDoor
open Go.RowKit
theorem reach_str {H : Type} {P : Program} {t : TypeId} {ts : List TypeId} {l : List UInt8} {r : List (DataW H)} (h : (DataW.weightsEach P (t :: ts) (.lit (.string l) :: r)).all (· ≤ reachBytes) = true) : l.length ≤ 140737488351232 := by
  rw [List.all_eq_true] at h
  have := h l.length (by simp [DataW.weightsEach, DataW.weights])
  exact of_decide_eq_true (p := l.length ≤ reachBytes) this
theorem reach_tail {H : Type} {P : Program} {t : TypeId} {ts : List TypeId} {d : DataW H} {r : List (DataW H)} (h : (DataW.weightsEach P (t :: ts) (d :: r)).all (· ≤ reachBytes) = true) : (DataW.weightsEach P ts r).all (· ≤ reachBytes) = true := by
  rw [DataW.weightsEach, List.all_append, Bool.and_eq_true] at h
  exact h.2
end Go.Proofs.YtofomlbhbbhdjaaDoor
