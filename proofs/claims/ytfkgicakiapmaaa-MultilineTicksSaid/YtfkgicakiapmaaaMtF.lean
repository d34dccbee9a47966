/- Package matcher: otherWay and a new search. -/
import Derived.Test.YtfkgicakiapmaaaMtVb
import Derived.StillTailTactics
namespace Go.Proofs.Ytfkgicakiapmaaa
open Go.RowKit

set_option maxRecDepth 100000 in
theorem newSearch_any (cv nv : Value) (start fr : Nat) (text : ByteArray) (w : World) :
    Calls Try.prog 47 #[.agg #[cv, .int .i64 (start : Int), nv], .string text, .int .i64 (fr : Int)] w fun e w' => e = .returned (.pointer (some ⟨w.heap.size + 1, 0, none⟩)) ∧ w' = (w.alloc (.cells #[cv, .int .i64 (start : Int), nv] 115)).alloc (.cells (srA cv nv (.slice none 0 0) (.slice none 0 0) text start fr) 121) := by
  go_enter Try.func47, Try.ntmps47
  go_wp2
  go_ret
  exact ⟨rfl, rfl⟩
set_option maxRecDepth 100000 in
set_option maxHeartbeats 4000000 in
theorem otherWay_any (sb gc n c pc p start fr : Nat) (mv : Bool) (code : List InsV) (nv tv pv : Value) (text : ByteArray) (w : World) (h : CodeW w sb gc n c code nv tv pv text start fr) (hpc : pc < code.length) :
    Calls Try.prog 67 #[.pointer (some ⟨sb, 0, none⟩), .agg (staA pc p mv)] w fun e w' => e = .returned (.agg (staA code[pc].other p mv)) ∧ Below w.heap.size w w' := by
  have hb1 := below_new w (.cells (staA pc p mv) 131)
  have hb2 := below_new (w.alloc (.cells (staA pc p mv) 131)) (.cells (staA 0 0 false) 131)
  have hb := bl_trans' hb1 hb2
  obtain ⟨x, hx⟩ : ∃ x, code[pc] = x := ⟨_, rfl⟩
  rw [hx]
  obtain ⟨W, hW⟩ : ∃ W, (w.alloc (.cells (staA pc p mv) 131)).alloc (.cells (staA 0 0 false) 131) = W := ⟨_, rfl⟩
  obtain ⟨B, hB⟩ : ∃ B, w.heap.size = B := ⟨_, rfl⟩
  have hk0 : BkAt B 131 (staA pc p mv) W := by rw [← hW, ← hB]; exact (BkAt.new _ _ w).below hb2
  have hk1 : BkAt (B + 1) 131 (staA 0 0 false) W := by
    have := BkAt.new 131 (staA 0 0 false) (w.alloc (.cells (staA pc p mv) 131))
    rw [← hW, ← hB]; simpa using this
  rw [hW] at hb
  have hC := h.below hb
  have hcc := fun j v => hC.c pc hpc j v
  rw [hx] at hcc
  obtain ⟨s0, s3⟩ : W.cell? ⟨sb, 0, none⟩ = some (.slice (some ⟨gc, 0, none⟩) n c) ∧ W.cell? ⟨sb, 3, none⟩ = some (.string text) := ⟨hC.s.cell 0, hC.s.cell 3⟩
  obtain ⟨a0, a1, a2⟩ : W.cell? ⟨B, 0, none⟩ = some (.int .i64 (pc : Int)) ∧ W.cell? ⟨B, 1, none⟩ = some (.int .i64 (p : Int)) ∧ W.cell? ⟨B, 2, none⟩ = some (.bool mv) := ⟨hk0.cell 0, hk0.cell 1, hk0.cell 2⟩
  obtain ⟨f0, f1, f2⟩ : W.frozen? ⟨B, 0, none⟩ = false ∧ W.frozen? ⟨B, 1, none⟩ = false ∧ W.frozen? ⟨B, 2, none⟩ = false := ⟨hk0.free 0, hk0.free 1, hk0.free 2⟩
  obtain ⟨g0, g1, g2⟩ : W.frozen? ⟨B + 1, 0, none⟩ = false ∧ W.frozen? ⟨B + 1, 1, none⟩ = false ∧ W.frozen? ⟨B + 1, 2, none⟩ = false := ⟨hk1.free 0, hk1.free 1, hk1.free 2⟩
  obtain ⟨r0, r1, r2⟩ : W.cell? ⟨B + 1, 0, none⟩ = some (.int .i64 0) ∧ W.cell? ⟨B + 1, 1, none⟩ = some (.int .i64 0) ∧ W.cell? ⟨B + 1, 2, none⟩ = some (.bool false) := ⟨hk1.cell 0, hk1.cell 1, hk1.cell 2⟩
  have k2 : W.cell? ⟨gc, pc * 8 + 2, none⟩ = some (.int .i64 (x.other : Int)) := hcc 2 _ rfl
  have k0 : W.cell? ⟨gc, pc * 8, none⟩ = some (.int .i64 (x.op : Int)) := hcc 0 _ rfl
  have k1 : W.cell? ⟨gc, pc * 8 + 1, none⟩ = some (.int .i64 (x.next : Int)) := hcc 1 _ rfl
  have hpcn : pc < n := by have := h.n; omega
  have i0 : (0 : Int) ≤ (pc : Int) := by omega
  have i1 : (pc : Int) < (n : Int) := by omega
  have HW := Lib.hid (And.intro hW hB)
  have HC := Lib.hid (And.intro hC (And.intro hcc (And.intro hb (And.intro hk0 (And.intro hk1 hx)))))
  clear hW hB hk0 hk1 hC hcc hb hb1 hb2 hx hpcn
  go_enter Try.func67, Try.ntmps67
  go_upto_region 1 with (fail)
  have e := HW.out.1
  unfold staA at e
  rw [show (Value.int .i64 ((0 : Nat) : Int)) = .int .i64 0 from rfl] at e
  rw [show staA pc p mv = #[.int .i64 (pc : Int), .int .i64 (p : Int), .bool mv] from rfl, e, HW.out.2]
  clear e
  go_still_tail 11, (by kernel_rfl)
  have HI : StI w W B W := ⟨HC.out.2.2.1, HC.out.2.2.2.2.1, HW.out.2, rfl⟩
  have hE := step_end x.other p mv (HI.set 0 (.int .i64 (x.other : Int))).1 (HI.set 0 (.int .i64 (x.other : Int))).2.1 HW.out.2
  have HE := Lib.hid hE
  clear HI hE
  change wpList _ _ _ _ _ W.drew
  go_wp2_with fail
  exact bodyPost_ret (results_cell_row rfl _ _ (B + 1) 131 (staA x.other p mv) (0, 0) _ rfl HE.out.1 Try.underlying131 rfl sizeSt) rfl ⟨rfl, HE.out.2.os, HE.out.2.tape, HE.out.2.output, HE.out.2.size, HE.out.2.block⟩
end Go.Proofs.Ytfkgicakiapmaaa
