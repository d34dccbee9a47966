/- Operations that run to a value, as steps of a walk; a row of cells of a block. -/
import Derived.Test.YtbpboghjgbgjfaaFuB
namespace Go.Proofs.Ytbpboghjgbgjfaa
open Go.RowKit

theorem wp_run {P : Program} {o : Oper} {a : Act} {w w' : World} {K : Act → World → Prop} {Q : Exit → Act → World → Prop} {v : Value} (h : (execOp a.eval o).run P w = .ok (.value v) w') (hK : K (a.put o.dst v) w') : o.wp P a w K Q := by
  unfold Oper.wp; rw [h]; exact hK
theorem wp_skip' {P : Program} {o : Oper} {a : Act} {w w' : World} {K : Act → World → Prop} {Q : Exit → Act → World → Prop} (h : (execOp a.eval o).run P w = .ok .skip w') (hK : K (a.put o.dst undef) w') : o.wp P a w K Q := by
  unfold Oper.wp; rw [h]; exact hK
theorem range_of {b o : Nat} {T : TypeId} {cs : Array Value} {w : World} (h : BkAt b T cs w) (l : List Value) (hl : ∀ i, i < l.length → cs[o + i]? = l[i]?) : w.rangeAt b o l := fun i v hv => by
  rw [h.cell, hl i (List.getElem?_eq_some_iff.1 hv).1]; exact hv
end Go.Proofs.Ytbpboghjgbgjfaa
