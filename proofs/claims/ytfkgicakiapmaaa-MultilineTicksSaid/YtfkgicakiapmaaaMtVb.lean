/- Package matcher: step and otherWay. Package matcher: numbered. -/
import Derived.Test.YtfkgicakiapmaaaMtVa
import Derived.Laws.Rows
import Derived.StillTailTactics
namespace Go.Proofs.Ytfkgicakiapmaaa
open Go.RowKit

theorem results_cell_row2 {P : Program} {fn : Func} {p u : Tmp} {ty : TypeId} (h : fn.results = #[.cell p ty, .tmp u]) (tmps : Array Value) (w : World) (g : Nat) (t : TypeId) (cs : Array Value) (fr : Nat × Nat) (d : TypeDesc)
    (hp : tmps.getD p undef = .pointer (some ⟨g, 0, none⟩)) (hg : w.heap[g]? = some (.cells cs t fr))
    (hu : P.underlying ty = some d) (hd : (match d with | .struct _ | .array _ _ => true | _ => false) = true) (hi : (P.info? ty).map (·.size) = some cs.size) :
    (results fn tmps).run P w = .ok (.tuple #[.agg cs, tmps.getD u undef]) w := by
  have hp' : tmps[p]?.getD undef = .pointer (some ⟨g, 0, none⟩) := by simpa using hp
  simp [results, h, hp', asAddr, run_loadVar_row w g t ty cs fr d hg hu hd hi]
theorem sizeSt : (Try.prog.info? 131).map (·.size) = some 3 := by kernel_rfl
/-- The preferred way from a state: is it possible, the offset, the flag. -/
def posS (x : InsV) (text : ByteArray) (p : Nat) (mv : Bool) : Bool :=
  match x.op with
  | 1 => if h : p < text.size then (x.set (text[p].toNat / 64)).testBit (text[p].toNat % 64) else false
  | 2 => p == 0
  | 3 => p == text.size
  | 8 => mv
  | _ => true
def atS (x : InsV) (p : Nat) : Nat := if x.op = 1 then p + 1 else p
def mvS (x : InsV) (mv : Bool) : Bool := match x.op with
  | 1 => true
  | 7 => false
  | _ => mv
def staA (pc p : Nat) (mv : Bool) : Array Value := #[.int .i64 (pc : Int), .int .i64 (p : Int), .bool mv]
structure CodeW (W : World) (sb gc n c : Nat) (code : List InsV) (nv tv pv : Value) (text : ByteArray) (start fr : Nat) : Prop where
  s : BkAt sb 121 (srA (.slice (some ⟨gc, 0, none⟩) n c) nv tv pv text start fr) W
  c : CodeAt W gc code
  n : code.length = n
  lt : gc < W.heap.size
  w : ∀ x ∈ code, ∀ k, x.set k < 18446744073709551616
theorem CodeW.below {W W' : World} {sb gc n c : Nat} {code : List InsV} {nv tv pv : Value} {text : ByteArray} {start fr : Nat} (h : CodeW W sb gc n c code nv tv pv text start fr) (k : Below W.heap.size W W') : CodeW W' sb gc n c code nv tv pv text start fr :=
  ⟨h.s.below k, fun i hi j v hv => (World.cell?_of_block (a := ⟨gc, i * 8 + j, none⟩) (k.block gc h.lt)).trans (h.c i hi j v hv), h.n, Nat.lt_of_lt_of_le h.lt k.size, h.w⟩
def StepOut (x : InsV) (text : ByteArray) (p : Nat) (mv : Bool) (w : World) (e : Ending) (w' : World) : Prop :=
  e = .returned (.tuple #[.agg (staA x.next (atS x p) (mvS x mv)), .bool (posS x text p mv)]) ∧ Below w.heap.size w w'
theorem step_end {w V : World} {B : Nat} (y z : Nat) (b1 : Bool) (h : Below w.heap.size w V) (hk : BkAt (B + 1) 131 (staA 0 0 false) V) (hB : w.heap.size = B) :
    BkAt (B + 1) 131 (staA y z b1) (((V.setCell ⟨B + 1, 0, none⟩ (.int .i64 (y : Int))).setCell ⟨B + 1, 1, none⟩ (.int .i64 (z : Int))).setCell ⟨B + 1, 2, none⟩ (.bool b1)) ∧ Below w.heap.size w (((V.setCell ⟨B + 1, 0, none⟩ (.int .i64 (y : Int))).setCell ⟨B + 1, 1, none⟩ (.int .i64 (z : Int))).setCell ⟨B + 1, 2, none⟩ (.bool b1)) :=
  ⟨((hk.set 0 (.int .i64 (y : Int))).set 1 (.int .i64 (z : Int))).set 2 (.bool b1),
    ((h.setCell (p := ⟨B + 1, 0, none⟩) (show w.heap.size ≤ B + 1 by omega) _).setCell (p := ⟨B + 1, 1, none⟩) (show w.heap.size ≤ B + 1 by omega) _).setCell (p := ⟨B + 1, 2, none⟩) (show w.heap.size ≤ B + 1 by omega) _⟩
theorem beq_cast (a b : Nat) : ((a : Int) == (b : Int)) = (a == b) := by
  rw [Bool.eq_iff_iff, beq_iff_eq, beq_iff_eq]
  omega
def StI (w W : World) (B : Nat) (V : World) : Prop := Below w.heap.size w V ∧ BkAt (B + 1) 131 (staA 0 0 false) V ∧ w.heap.size = B ∧ W = W
theorem StI.set {w W V : World} {B : Nat} (h : StI w W B V) (i : Nat) (u : Value) : StI w W B (V.setCell ⟨B, i, none⟩ u) :=
  ⟨h.1.setCell (p := ⟨B, i, none⟩) (show w.heap.size ≤ B by have := h.2.2.1; omega) _, h.2.1.other i u (by omega), h.2.2.1, rfl⟩
theorem StI.drewN {w W V : World} {B : Nat} (h : StI w W B V) (m : Nat) : StI w W B (V.drewN m) :=
  ⟨h.1.trans (⟨rfl, rfl, rfl, Nat.le_refl _, fun _ _ => rfl⟩ : Below w.heap.size V (V.drewN m)), h.2.1, h.2.2.1, rfl⟩
set_option maxRecDepth 100000 in
set_option maxHeartbeats 8000000 in
theorem step_any (sb gc n c pc p start fr : Nat) (mv : Bool) (code : List InsV) (nv tv pv : Value) (text : ByteArray) (w : World) (h : CodeW w sb gc n c code nv tv pv text start fr) (hpc : pc < code.length) (ht : text.size ≤ 1000000) (hp : p ≤ text.size) :
    Calls Try.prog 68 #[.pointer (some ⟨sb, 0, none⟩), .agg (staA pc p mv)] w (StepOut code[pc] text p mv w) := by
  have hb1 := below_new w (.cells (staA pc p mv) 131)
  have hb2 := below_new (w.alloc (.cells (staA pc p mv) 131)) (.cells (staA 0 0 false) 131)
  have hb := bl_trans' hb1 hb2
  obtain ⟨x, hx⟩ : ∃ x, code[pc] = x := ⟨_, rfl⟩
  rw [hx]
  obtain ⟨W, hW⟩ : ∃ W, (w.alloc (.cells (staA pc p mv) 131)).alloc (.cells (staA 0 0 false) 131) = W := ⟨_, rfl⟩
  obtain ⟨B, hB⟩ : ∃ B, w.heap.size = B := ⟨_, rfl⟩
  have hk0 : BkAt B 131 (staA pc p mv) W := by rw [← hW, ← hB]; exact (BkAt.new _ _ w).below hb2
  have hk1 : BkAt (B + 1) 131 (staA 0 0 false) W := by
    have := BkAt.new 131 (staA 0 0 false) (w.alloc (.cells (staA pc p mv) 131))
    rw [← hW, ← hB]; simpa using this
  rw [hW] at hb
  have hC := h.below hb
  have hcc := fun j v => hC.c pc hpc j v
  rw [hx] at hcc
  obtain ⟨s0, s3⟩ : W.cell? ⟨sb, 0, none⟩ = some (.slice (some ⟨gc, 0, none⟩) n c) ∧ W.cell? ⟨sb, 3, none⟩ = some (.string text) := ⟨hC.s.cell 0, hC.s.cell 3⟩
  obtain ⟨a0, a1, a2⟩ : W.cell? ⟨B, 0, none⟩ = some (.int .i64 (pc : Int)) ∧ W.cell? ⟨B, 1, none⟩ = some (.int .i64 (p : Int)) ∧ W.cell? ⟨B, 2, none⟩ = some (.bool mv) := ⟨hk0.cell 0, hk0.cell 1, hk0.cell 2⟩
  obtain ⟨f0, f1, f2⟩ : W.frozen? ⟨B, 0, none⟩ = false ∧ W.frozen? ⟨B, 1, none⟩ = false ∧ W.frozen? ⟨B, 2, none⟩ = false := ⟨hk0.free 0, hk0.free 1, hk0.free 2⟩
  obtain ⟨g0, g1, g2⟩ : W.frozen? ⟨B + 1, 0, none⟩ = false ∧ W.frozen? ⟨B + 1, 1, none⟩ = false ∧ W.frozen? ⟨B + 1, 2, none⟩ = false := ⟨hk1.free 0, hk1.free 1, hk1.free 2⟩
  obtain ⟨r0, r1, r2⟩ : W.cell? ⟨B + 1, 0, none⟩ = some (.int .i64 0) ∧ W.cell? ⟨B + 1, 1, none⟩ = some (.int .i64 0) ∧ W.cell? ⟨B + 1, 2, none⟩ = some (.bool false) := ⟨hk1.cell 0, hk1.cell 1, hk1.cell 2⟩
  have k0 : W.cell? ⟨gc, pc * 8, none⟩ = some (.int .i64 (x.op : Int)) := hcc 0 _ rfl
  have k1 : W.cell? ⟨gc, pc * 8 + 1, none⟩ = some (.int .i64 (x.next : Int)) := hcc 1 _ rfl
  have hpcn : pc < n := by have := h.n; omega
  have i0 : (0 : Int) ≤ (pc : Int) := by omega
  have i1 : (pc : Int) < (n : Int) := by omega
  have HW := Lib.hid (And.intro hW hB)
  have HC := Lib.hid (And.intro hC (And.intro hcc (And.intro hb (And.intro hk0 (And.intro hk1 hx)))))
  clear hW hB hk0 hk1 hC hcc hb hb1 hb2 hx hpcn
  go_enter Try.func68, Try.ntmps68
  go_upto_region 1 with (fail)
  have e := HW.out.1
  unfold staA at e
  rw [show (Value.int .i64 ((0 : Nat) : Int)) = .int .i64 0 from rfl] at e
  rw [show staA pc p mv = #[.int .i64 (pc : Int), .int .i64 (p : Int), .bool mv] from rfl, e, HW.out.2]
  clear e
  go_quiet (fail)
  obtain ⟨m1, hm1⟩ : ∃ k, nq = k := ⟨_, rfl⟩
  rw [hm1]
  clear hm1
  clear nq
  have HI : ∀ m, StI w W B (W.drewN m) := fun m => (show StI w W B W from ⟨HC.out.2.2.1, HC.out.2.2.2.2.1, HW.out.2, rfl⟩).drewN m
  have hneB : gc ≠ B := by have := h.lt; have := HW.out.2; omega
  have hneB2 : B ≠ gc := hneB.symm
  have HH := Lib.hid HI
  clear HI
  have hop : x.op = 1 ∨ x.op = 2 ∨ x.op = 3 ∨ x.op = 7 ∨ x.op = 8 ∨ (x.op ≠ 1 ∧ x.op ≠ 2 ∧ x.op ≠ 3 ∧ x.op ≠ 7 ∧ x.op ≠ 8) := by omega
  rcases hop with h1 | h1 | h1 | h1 | h1 | h1
  · rw [h1] at k0
    have k0' : W.cell? ⟨gc, pc * 8, none⟩ = some (.int .i64 1) := k0
    clear k0
    go_wp2_with fail
    by_cases hlt : p < text.size
    · have dl : decide ((p : Int) < (text.size : Int)) = true := decide_eq_true (by omega)
      have dn : decide (p < text.size) = true := decide_eq_true hlt
      have p0 : (0 : Int) ≤ (p : Int) := by omega
      have p1 : (p : Int) < (text.size : Int) := by omega
      obtain ⟨by', hby⟩ : ∃ by' : UInt8, text[p] = by' := ⟨_, rfl⟩
      have hq := fun m => has_any gc (pc * 8 + 3) x.set by'.toNat by'.toNat_lt (W.drewN m) (fun k => HC.out.1.w x (by rw [← HC.out.2.2.2.2.2]; exact List.getElem_mem _) k) (fun k hk => by
        have h4 : k = 0 ∨ k = 1 ∨ k = 2 ∨ k = 3 := (by omega)
        rcases h4 with rfl | rfl | rfl | rfl
        · exact HC.out.2.1 3 _ rfl
        · exact HC.out.2.1 4 _ rfl
        · exact HC.out.2.1 5 _ rfl
        · exact HC.out.2.1 6 _ rfl)
      obtain ⟨yes, hyes⟩ : ∃ b, (x.set (by'.toNat / 64)).testBit (by'.toNat % 64) = b := ⟨_, rfl⟩
      rw [hyes] at hq
      have HQ := Lib.hid hq
      have HB := Lib.hid (And.intro hyes hby)
      clear hq hyes
      go_quiet ((go_at_call 81; exact (HQ.out _).mono fun _ _ h => ⟨h.1, _, h.2.symm⟩))
      clear hby
      go_wp2_with fail
      have hE := step_end x.next (p + 1) true ((((HH.out (m1 + nq)).set 1 (.int .i64 ((p : Int) + 1))).set 2 (.bool true)).set 0 (.int .i64 (x.next : Int))).1 ((((HH.out (m1 + nq)).set 1 (.int .i64 ((p : Int) + 1))).set 2 (.bool true)).set 0 (.int .i64 (x.next : Int))).2.1 HW.out.2
      refine bodyPost_ret (results_cell_row2 rfl _ _ (B + 1) 131 (staA x.next (p + 1) true) (0, 0) _ rfl hE.1 Try.underlying131 rfl sizeSt) rfl ⟨?_, hE.2⟩
      unfold atS mvS posS
      rw [h1, dif_pos hlt, HB.out.2, HB.out.1]
      rfl
    · have dl : decide ((p : Int) < (text.size : Int)) = false := decide_eq_false (by omega)
      have dn : decide (p < text.size) = false := decide_eq_false hlt
      go_quiet (fail)
      go_wp2_with fail
      have hE := step_end x.next (p + 1) true ((((HH.out (m1 + nq)).set 1 (.int .i64 ((p : Int) + 1))).set 2 (.bool true)).set 0 (.int .i64 (x.next : Int))).1 ((((HH.out (m1 + nq)).set 1 (.int .i64 ((p : Int) + 1))).set 2 (.bool true)).set 0 (.int .i64 (x.next : Int))).2.1 HW.out.2
      refine bodyPost_ret (results_cell_row2 rfl _ _ (B + 1) 131 (staA x.next (p + 1) true) (0, 0) _ rfl hE.1 Try.underlying131 rfl sizeSt) rfl ⟨?_, hE.2⟩
      unfold atS mvS posS
      rw [h1, dif_neg hlt]
      rfl
  · rw [h1] at k0
    have k0' : W.cell? ⟨gc, pc * 8, none⟩ = some (.int .i64 2) := k0
    clear k0
    go_wp2_with fail
    have hE := step_end x.next p mv ((HH.out m1).set 0 (.int .i64 (x.next : Int))).1 ((HH.out m1).set 0 (.int .i64 (x.next : Int))).2.1 HW.out.2
    refine bodyPost_ret (results_cell_row2 rfl _ _ (B + 1) 131 (staA x.next p mv) (0, 0) _ rfl hE.1 Try.underlying131 rfl sizeSt) rfl ⟨?_, hE.2⟩
    unfold atS mvS posS
    rw [h1]
    show Ending.returned (.tuple #[.agg (staA x.next p mv), .bool ((p : Int) == ((0 : Nat) : Int))]) = Ending.returned (.tuple #[.agg (staA x.next p mv), .bool (p == 0)])
    rw [beq_cast]
  · rw [h1] at k0
    have k0' : W.cell? ⟨gc, pc * 8, none⟩ = some (.int .i64 3) := k0
    clear k0
    go_wp2_with fail
    go_quiet (fail)
    go_wp2_with fail
    have hE := step_end x.next p mv ((HH.out (m1 + nq)).set 0 (.int .i64 (x.next : Int))).1 ((HH.out (m1 + nq)).set 0 (.int .i64 (x.next : Int))).2.1 HW.out.2
    refine bodyPost_ret (results_cell_row2 rfl _ _ (B + 1) 131 (staA x.next p mv) (0, 0) _ rfl hE.1 Try.underlying131 rfl sizeSt) rfl ⟨?_, hE.2⟩
    unfold atS mvS posS
    rw [h1]
    show Ending.returned (.tuple #[.agg (staA x.next p mv), .bool ((p : Int) == (text.size : Int))]) = Ending.returned (.tuple #[.agg (staA x.next p mv), .bool (p == text.size)])
    rw [beq_cast]
  · rw [h1] at k0
    have k0' : W.cell? ⟨gc, pc * 8, none⟩ = some (.int .i64 7) := k0
    clear k0
    go_wp2_with fail
    have hE := step_end x.next p false (((HH.out m1).set 2 (.bool false)).set 0 (.int .i64 (x.next : Int))).1 (((HH.out m1).set 2 (.bool false)).set 0 (.int .i64 (x.next : Int))).2.1 HW.out.2
    refine bodyPost_ret (results_cell_row2 rfl _ _ (B + 1) 131 (staA x.next p false) (0, 0) _ rfl hE.1 Try.underlying131 rfl sizeSt) rfl ⟨?_, hE.2⟩
    unfold atS mvS posS
    rw [h1]
    rfl
  · rw [h1] at k0
    have k0' : W.cell? ⟨gc, pc * 8, none⟩ = some (.int .i64 8) := k0
    clear k0
    go_wp2_with fail
    have hE := step_end x.next p mv ((HH.out m1).set 0 (.int .i64 (x.next : Int))).1 ((HH.out m1).set 0 (.int .i64 (x.next : Int))).2.1 HW.out.2
    refine bodyPost_ret (results_cell_row2 rfl _ _ (B + 1) 131 (staA x.next p mv) (0, 0) _ rfl hE.1 Try.underlying131 rfl sizeSt) rfl ⟨?_, hE.2⟩
    unfold atS mvS posS
    rw [h1]
    rfl
  · obtain ⟨n1, n2, n3, n7, n8⟩ := h1
    obtain ⟨y, hy⟩ : ∃ y : Int, (x.op : Int) = y := ⟨_, rfl⟩
    rw [hy] at k0
    have d1 : (y == 1) = false := by rw [beq_eq_false_iff_ne]; omega
    have d2 : (y == 2) = false := by rw [beq_eq_false_iff_ne]; omega
    have d3 : (y == 3) = false := by rw [beq_eq_false_iff_ne]; omega
    have d7 : (y == 7) = false := by rw [beq_eq_false_iff_ne]; omega
    have d8 : (y == 8) = false := by rw [beq_eq_false_iff_ne]; omega
    have q1 : decide (y = 1) = false := decide_eq_false (by omega)
    have q2 : decide (y = 2) = false := decide_eq_false (by omega)
    have q3 : decide (y = 3) = false := decide_eq_false (by omega)
    have q7 : decide (y = 7) = false := decide_eq_false (by omega)
    have q8 : decide (y = 8) = false := decide_eq_false (by omega)
    have HN := Lib.hid (And.intro n1 (And.intro n2 (And.intro n3 (And.intro n7 n8))))
    clear n1 n2 n3 n7 n8 hy
    go_wp2_with fail
    have hE := step_end x.next p mv ((HH.out m1).set 0 (.int .i64 (x.next : Int))).1 ((HH.out m1).set 0 (.int .i64 (x.next : Int))).2.1 HW.out.2
    refine bodyPost_ret (results_cell_row2 rfl _ _ (B + 1) 131 (staA x.next p mv) (0, 0) _ rfl hE.1 Try.underlying131 rfl sizeSt) rfl ⟨?_, hE.2⟩
    obtain ⟨n1, n2, n3, n7, n8⟩ := HN.out
    have e1 : atS x p = p := if_neg n1
    have e2 : mvS x mv = mv := by unfold mvS; split <;> first | contradiction | rfl
    have e3 : posS x text p mv = true := by unfold posS; split <;> first | contradiction | rfl
    rw [e1, e2, e3]
    rfl
end Go.Proofs.Ytfkgicakiapmaaa

namespace Go.Proofs.Ytfkgicakiapmaaa
open Go.RowKit

set_option maxRecDepth 100000 in
set_option maxHeartbeats 4000000 in
theorem numbered_any (sb g c n fr pc p start : Nat) (mv : Bool) (nv tv pv : Value) (text : ByteArray) (w : World) (h : BkAt sb 121 (srA (.slice (some ⟨g, 0, none⟩) n c) nv tv pv text start fr) w) (hf : fr ≤ p) (hp : p ≤ 1000000) (hn : n ≤ 1000000) (hpc : pc < n) :
    Calls Try.prog 80 #[.pointer (some ⟨sb, 0, none⟩), .int .i64 (numS n fr pc p mv : Int)] w fun e w' => e = .returned (.agg (staA pc p mv)) ∧ Below w.heap.size w w' := by
  have hbn := below_new w (.cells (staA 0 0 false) 131)
  have hb := h.below hbn
  have hk := BkAt.new 131 (staA 0 0 false) w
  obtain ⟨W, hW⟩ : ∃ W, w.alloc (.cells (staA 0 0 false) 131) = W := ⟨_, rfl⟩
  obtain ⟨B, hB⟩ : ∃ B, w.heap.size = B := ⟨_, rfl⟩
  rw [hW] at hb hk hbn
  rw [hB] at hk
  obtain ⟨c0, c4⟩ : W.cell? ⟨sb, 0, none⟩ = some (.slice (some ⟨g, 0, none⟩) n c) ∧ W.cell? ⟨sb, 4, none⟩ = some (.int .i64 (fr : Int)) := ⟨hb.cell 0, hb.cell 4⟩
  obtain ⟨g0, g1, g2⟩ : W.frozen? ⟨B, 0, none⟩ = false ∧ W.frozen? ⟨B, 1, none⟩ = false ∧ W.frozen? ⟨B, 2, none⟩ = false := ⟨hk.free 0, hk.free 1, hk.free 2⟩
  obtain ⟨r0, r1, r2⟩ : W.cell? ⟨B, 0, none⟩ = some (.int .i64 0) ∧ W.cell? ⟨B, 1, none⟩ = some (.int .i64 0) ∧ W.cell? ⟨B, 2, none⟩ = some (.bool false) := ⟨hk.cell 0, hk.cell 1, hk.cell 2⟩
  have hmul : (p - fr) * n ≤ 1000000 * 1000000 := Nat.mul_le_mul (by omega) hn
  obtain ⟨half, hh⟩ : ∃ half, (p - fr) * n + pc = half := ⟨_, rfl⟩
  have hdiv : half / n = p - fr := by rw [← hh, Nat.add_comm, Nat.add_mul_div_right _ _ (by omega), Nat.div_eq_of_lt hpc, Nat.zero_add]
  have hmod : half % n = pc := by rw [← hh, Nat.add_comm, Nat.add_mul_mod_self_right, Nat.mod_eq_of_lt hpc]
  obtain ⟨num, hnum⟩ : ∃ num, numS n fr pc p mv = num := ⟨_, rfl⟩
  have hnv : num = 2 * half + if mv then 1 else 0 := by rw [← hnum, ← hh]; rfl
  rw [hnum]
  have hbd : half ≤ 1000001000000 := by omega
  have v1 : (num : Int) / 2 = (half : Int) := by cases mv <;> simp at hnv <;> omega
  have v2 : ((num : Int) % 2 == 1) = mv := by cases mv <;> simp at hnv <;> rw [hnv] <;> simp <;> omega
  have v3 : (half : Int) / (n : Int) = ((p - fr : Nat) : Int) := by rw [← hdiv]; rfl
  have v4 : (half : Int) % (n : Int) = (pc : Int) := by rw [← hmod]; rfl
  have v5 : Int.tdiv (half : Int) (n : Int) = ((p - fr : Nat) : Int) := by rw [Int.tdiv_eq_ediv_of_nonneg (by omega), v3]
  have v6 : Int.tmod (half : Int) (n : Int) = (pc : Int) := by rw [Int.tmod_eq_emod_of_nonneg (by omega), v4]
  have v7 : (fr : Int) + ((p - fr : Nat) : Int) = (p : Int) := by omega
  have n0 : ((n : Int) == 0) = false := by rw [beq_eq_false_iff_ne]; omega
  have n2 : ¬ n = 0 := by omega
  have n3 : (n == 0) = false := by rw [beq_eq_false_iff_ne]; omega
  have n4 : decide (n = 0) = false := decide_eq_false (by omega)
  have w4 : IntKind.i64.wrap (Int.tmod (half : Int) (n : Int)) = (pc : Int) := by rw [v6]; exact IntWalk.i64_in _ (by omega)
  have n1 : decide ((n : Int) = 0) = false := decide_eq_false (by omega)
  obtain ⟨d, hd⟩ : ∃ d, p - fr = d := ⟨_, rfl⟩
  have w5 : IntKind.i64.wrap (Int.tdiv (half : Int) (n : Int)) = (d : Int) := by rw [v5, hd]; exact IntWalk.i64_in _ (by omega)
  rw [hd] at v3 v5 v7
  have w1 : IntKind.i64.wrap (d : Int) = (d : Int) := IntWalk.i64_in _ (by omega)
  have w2 : IntKind.i64.wrap (pc : Int) = (pc : Int) := IntWalk.i64_in _ (by omega)
  have w3 : IntKind.i64.wrap ((fr : Int) + (d : Int)) = (p : Int) := by rw [v7]; exact IntWalk.i64_in _ (by omega)
  have w6 : IntKind.i64.wrap (p : Int) = (p : Int) := IntWalk.i64_in _ (by omega)
  have v8 : (Int.tmod (num : Int) 2 == 1) = mv := by rw [Int.tmod_eq_emod_of_nonneg (by omega)]; exact v2
  have hn0 : (0 : Int) < (n : Int) := by omega
  have hnum2 : (num : Int) ≤ 3000002000000 := by cases mv <;> simp at hnv <;> omega
  have HB := Lib.hid (And.intro hbn (And.intro hk (And.intro hW hB)))
  clear hbn h hb hk hh hdiv hmod hnum hnv hmul hW hB
  go_enter Try.func80, Try.ntmps80
  go_upto_region 2 with (fail)
  have e := HB.out.2.2.1
  unfold staA at e
  rw [show (Value.int .i64 ((0 : Nat) : Int)) = .int .i64 0 from rfl] at e
  rw [e, HB.out.2.2.2]
  clear e
  go_still_tail 25, (by kernel_rfl)
  have hE := (((HB.out.2.1.set 0 (.int .i64 (pc : Int))).set 1 (.int .i64 (p : Int))).set 2 (.bool mv) : BkAt B 131 (staA pc p mv) _)
  have hz := HB.out.2.2.2
  have hE2 := ((HB.out.1.setCell (p := ⟨B, 0, none⟩) (show w.heap.size ≤ B by omega) (.int .i64 (pc : Int))).setCell (p := ⟨B, 1, none⟩) (show w.heap.size ≤ B by omega) (.int .i64 (p : Int))).setCell (p := ⟨B, 2, none⟩) (show w.heap.size ≤ B by omega) (.bool mv)
  have HE := Lib.hid (And.intro hE hE2)
  clear hE hE2 hz
  change wpList _ _ _ _ _ W.drew
  go_wp2_with fail
  exact bodyPost_ret (results_cell_row rfl _ _ B 131 (staA pc p mv) (0, 0) _ rfl HE.out.1 Try.underlying131 rfl sizeSt) rfl ⟨rfl, HE.out.2.os, HE.out.2.tape, HE.out.2.output, HE.out.2.size, HE.out.2.block⟩
end Go.Proofs.Ytfkgicakiapmaaa
