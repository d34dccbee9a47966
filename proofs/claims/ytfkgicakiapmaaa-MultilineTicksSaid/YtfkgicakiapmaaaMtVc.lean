/- Package matcher: back. Package matcher: back where no way is left. -/
import Derived.Test.YtfkgicakiapmaaaMtVb
import Derived.Test.YtfkgicakiapmaaaMtH
namespace Go.Proofs.Ytfkgicakiapmaaa
open Go.RowKit

theorem rowM_short {base : Nat} {e : TypeId} {size : Nat} {g n cap m : Nat} {xs : List Value} {w : World} (h : w.ownsRow base e size (.slice (some ⟨g, 0, none⟩) n cap) n xs) (hm : m ≤ n) : w.ownsRow base e size (.slice (some ⟨g, 0, none⟩) m cap) m (xs.take (m * size)) := by
  obtain ⟨h1, h2⟩ := h
  rcases h2 with ⟨q, -⟩ | ⟨g', cap', cur, q1, q2, q3, q4, q5, q6, q7⟩
  · cases q
  · cases q1
    have hms : m * size ≤ n * size := Nat.mul_le_mul_right _ hm
    refine ⟨by rw [List.length_take, h1]; omega, .inr ⟨g, cap, cur, rfl, q2, q3, by omega, q5, q6, ?_⟩⟩
    rw [← q7, List.take_take, Nat.min_eq_left hms]
def BackOut (base sb gc n c : Nat) (code : List InsV) (nv tv pv : Value) (text : ByteArray) (start fr : Nat) (f : Nat → Nat) (pd : List Nat) (pc p : Nat) (mv : Bool) (w : World) (e : Ending) (w' : World) : Prop :=
  ∃ pv' x, code[pc]? = some x ∧ e = .returned (.tuple #[.agg (staA x.other p mv), .bool true]) ∧ EnterI base sb gc n c code nv pv' text start fr f pd tv w' ∧ ChP (fun i => i = sb) w w' ∧ pv'.ownBlock = pv.ownBlock
set_option maxRecDepth 100000 in
set_option maxHeartbeats 8000000 in
theorem back_some (base sb gc n c pc p start fr : Nat) (mv : Bool) (code : List InsV) (nv tv pv : Value) (text : ByteArray) (f : Nat → Nat) (pd : List Nat) (num : Nat) (w : World) (h : EnterI base sb gc n c code nv pv text start fr f (pd ++ [num]) tv w) (hpc : pc < code.length) (hn : n ≤ 1000000) (hf : fr ≤ p) (hp : p ≤ 1000000) (hnum : numS n fr pc p mv = num) (hn6 : num < 60000000) (hgs : gc ≠ sb) (hpd : pd.length ≤ 60000000) :
    Calls Try.prog 65 #[.pointer (some ⟨sb, 0, none⟩)] w (BackOut base sb gc n c code nv tv pv text start fr f pd pc p mv w) := by
  have hb1 := below_new w (.cells (staA 0 0 false) 131)
  have hkn := BkAt.new 131 (staA 0 0 false) w
  obtain ⟨W, hW⟩ : ∃ W, w.alloc (.cells (staA 0 0 false) 131) = W := ⟨_, rfl⟩
  obtain ⟨B, hB⟩ : ∃ B, w.heap.size = B := ⟨_, rfl⟩
  rw [hW] at hb1 hkn
  rw [hB] at hkn
  have hI := h.below hb1
  have hprow : w.ownsRow base 21 1 pv (pd.length + 1) ((pd ++ [num]).map fun k : Nat => Value.int .i32 (k : Int)) := by
    have := h.p
    unfold PdAt at this
    rwa [List.length_append] at this
  obtain ⟨g, cap, rfl, hgb, hgl, hgc2, -⟩ := row_someM hprow (by omega)
  obtain ⟨s0, s6, f6⟩ : W.cell? ⟨sb, 0, none⟩ = some (.slice (some ⟨gc, 0, none⟩) n c) ∧ W.cell? ⟨sb, 6, none⟩ = some (.slice (some ⟨g, 0, none⟩) (pd.length + 1) cap) ∧ W.frozen? ⟨sb, 6, none⟩ = false := ⟨hI.c.s.cell 0, hI.c.s.cell 6, hI.c.s.free 6⟩
  have hcell : W.cell? ⟨g, pd.length, none⟩ = some (.int .i32 (num : Int)) := by
    have := (row_below hprow hb1).cells (g := g) rfl pd.length (.int .i32 (num : Int)) (by simp)
    rwa [Addr.add_lit, Nat.zero_add] at this
  obtain ⟨L, hL⟩ : ∃ L, pd.length = L := ⟨_, rfl⟩
  have HC := Lib.hid (And.intro hI (And.intro hkn (And.intro hb1 (And.intro h (And.intro hprow hL)))))
  rw [hL] at s6 hcell hgc2 hpd
  have HW := Lib.hid (And.intro hW hB)
  have hl1 : ((L : Int) + 1 == 0) = false := by rw [beq_eq_false_iff_ne]; omega
  have hl2 : (((L + 1 : Nat) : Int) == 0) = false := by rw [beq_eq_false_iff_ne]; omega
  have hwn : IntKind.i64.wrap (num : Int) = (num : Int) := IntWalk.i64_in _ (by omega)
  have hl0 : (0 : Int) ≤ (L : Int) := by omega
  clear hW hB hI hkn hb1 h hprow hL hgb hgl
  go_enter Try.func65, Try.ntmps65
  go_upto_region 1 with (fail)
  have e := HW.out.1
  unfold staA at e
  rw [show (Value.int .i64 ((0 : Nat) : Int)) = .int .i64 0 from rfl] at e
  rw [e, HW.out.2]
  clear e
  go_wp2_with fail
  have hpcn : pc < n := by have := HC.out.1.c.n; omega
  have hnb := numbered_any sb gc c n fr pc p start mv nv tv (.slice (some ⟨g, 0, none⟩) (L + 1) cap) text W (by have := HC.out.1.c.s; rw [HC.out.2.2.2.2.2] at this; exact this) hf hp hn hpcn
  rw [hnum] at hnb
  refine hnb.mono ?_
  rintro e w1 ⟨rfl, hb1⟩
  have hb2 := bl_trans' hb1 (below_new w1 (.cells (staA pc p mv) 131))
  have hkn := BkAt.new 131 (staA pc p mv) w1
  obtain ⟨C, hC⟩ : ∃ C, w1.heap.size = C := ⟨_, rfl⟩
  have hCW : W.heap.size ≤ C := by rw [← hC]; exact hb1.size
  obtain ⟨W5, hW5⟩ : ∃ X, w1.alloc (.cells (staA pc p mv) 131) = X := ⟨_, rfl⟩
  rw [hW5] at hb2 hkn
  rw [hC] at hkn
  have hI := HC.out.1
  have hI5 := hI.below hb2
  have hB5 := HC.out.2.1.below hb2
  have hsW := hI.c.s.lt
  have hBW := HC.out.2.1.lt
  have hrow5 : W5.ownsRow base 21 1 (.slice (some ⟨g, 0, none⟩) (L + 1) cap) (L + 1) ((pd ++ [num]).map fun k : Nat => Value.int .i32 (k : Int)) := by
    have := row_below (row_below HC.out.2.2.2.2.1 HC.out.2.2.1) hb2
    rwa [HC.out.2.2.2.2.2] at this
  have hs5 := hI5.c.s
  rw [HC.out.2.2.2.2.2] at hs5
  have hs6 : BkAt sb 121 (srA (.slice (some ⟨gc, 0, none⟩) n c) nv tv (.slice (some ⟨g, 0, none⟩) L cap) text start fr) (W5.setCell ⟨sb, 6, none⟩ (.slice (some ⟨g, 0, none⟩) L cap)) := hs5.set 6 _
  have hch : ChP (fun i => i = sb) W5 (W5.setCell ⟨sb, 6, none⟩ (.slice (some ⟨g, 0, none⟩) L cap)) := (ChP.refl _ W5).set sb 6 _ rfl
  have hI6 : EnterI base sb gc n c code nv (.slice (some ⟨g, 0, none⟩) L cap) text start fr f pd tv (W5.setCell ⟨sb, 6, none⟩ (.slice (some ⟨g, 0, none⟩) L cap)) := by
    refine ⟨hI5.c.ch hch (fun e => hgs e) hs6, ?_, ?_⟩
    · obtain ⟨m, t1, t2⟩ := hI5.t
      exact ⟨m, row_ch t1 hch (fun g' hg e => row_ne t1 hs5 (by decide) hg e), t2⟩
    · have h5 := rowM_short (ownsRow_setCell_other hrow5 (a := ⟨sb, 6, none⟩) (fun e => row_ne hrow5 hs5 (by decide) e rfl) (.slice (some ⟨g, 0, none⟩) L cap)) (m := L) (by omega)
      unfold PdAt
      have e1 : ((pd ++ [num]).map fun k : Nat => Value.int .i32 (k : Int)).take (L * 1) = pd.map fun k : Nat => Value.int .i32 (k : Int) := by
        rw [List.map_append, Nat.mul_one, ← HC.out.2.2.2.2.2]
        exact List.take_left' (List.length_map ..)
      rw [e1] at h5
      rw [HC.out.2.2.2.2.2]
      exact h5
  have hk6 : BkAt C 131 (staA pc p mv) (W5.setCell ⟨sb, 6, none⟩ (.slice (some ⟨g, 0, none⟩) L cap)) := hkn.other 6 _ (by omega)
  have hB6 : BkAt B 131 (staA 0 0 false) (W5.setCell ⟨sb, 6, none⟩ (.slice (some ⟨g, 0, none⟩) L cap)) := hB5.other 6 _ (by have := HC.out.2.2.2.1.c.s.lt; have := HW.out.2; omega)
  have hcw : ChP (fun i => i = sb) w (W5.setCell ⟨sb, 6, none⟩ (.slice (some ⟨g, 0, none⟩) L cap)) := (ChP.ofBelow (bl_trans' HC.out.2.2.1 hb2)).trans hch (fun i _ h => h)
  obtain ⟨s6, f6⟩ : W5.cell? ⟨sb, 6, none⟩ = some (.slice (some ⟨g, 0, none⟩) (L + 1) cap) ∧ W5.frozen? ⟨sb, 6, none⟩ = false := ⟨hs5.cell 6, hs5.free 6⟩
  have H6 := Lib.hid (And.intro hI6 (And.intro hk6 (And.intro hB6 hcw)))
  have HX := Lib.hid (And.intro hW5 (And.intro hC hgs))
  have hcL : (L : Int) ≤ (cap : Int) := by omega
  clear hI6 hk6 hB6 hcw hch hs6 hs5 hrow5 hB5 hI5 hI hb2 hkn hW5 hC hnb hb1 hsW hBW
  rw [show staA pc p mv = #[.int .i64 (pc : Int), .int .i64 (p : Int), .bool mv] from rfl]
  go_upto_region 5 with (fail)
  have e := HX.out.1
  unfold staA at e
  rw [e, HX.out.2.1]
  clear e
  go_upto_region 6 with (fail)
  obtain ⟨W6, hW6⟩ : ∃ X, W5.setCell ⟨sb, 6, none⟩ (.slice (some ⟨g, 0, none⟩) L cap) = X := ⟨_, rfl⟩
  rw [hW6] at H6 ⊢
  clear hW6 s6 f6
  have hk6 := H6.out.2.1
  obtain ⟨a0, a1, a2⟩ : W6.cell? ⟨C, 0, none⟩ = some (.int .i64 (pc : Int)) ∧ W6.cell? ⟨C, 1, none⟩ = some (.int .i64 (p : Int)) ∧ W6.cell? ⟨C, 2, none⟩ = some (.bool mv) := ⟨hk6.cell 0, hk6.cell 1, hk6.cell 2⟩
  have hoth := otherWay_any sb gc n c pc p start fr mv code nv tv (.slice (some ⟨g, 0, none⟩) L cap) text W6 H6.out.1.c hpc
  obtain ⟨x, hx⟩ : ∃ x, code[pc] = x := ⟨_, rfl⟩
  rw [hx] at hoth
  have HO := Lib.hid (And.intro hoth hx)
  clear hoth hx hk6
  go_wp2_with fail
  refine HO.out.1.mono ?_
  rintro e w7 ⟨rfl, hb7⟩
  have hB7 := H6.out.2.2.1.below hb7
  obtain ⟨g0, g1, g2⟩ : w7.frozen? ⟨B, 0, none⟩ = false ∧ w7.frozen? ⟨B, 1, none⟩ = false ∧ w7.frozen? ⟨B, 2, none⟩ = false := ⟨hB7.free 0, hB7.free 1, hB7.free 2⟩
  obtain ⟨r0, r1, r2⟩ : w7.cell? ⟨B, 0, none⟩ = some (.int .i64 0) ∧ w7.cell? ⟨B, 1, none⟩ = some (.int .i64 0) ∧ w7.cell? ⟨B, 2, none⟩ = some (.bool false) := ⟨hB7.cell 0, hB7.cell 1, hB7.cell 2⟩
  have H7 := Lib.hid (And.intro hb7 hB7)
  clear hb7 hB7 a0 a1 a2
  rw [show staA x.other p mv = #[.int .i64 (x.other : Int), .int .i64 (p : Int), .bool mv] from rfl]
  go_wp2_with fail
  obtain ⟨hb7, hB7⟩ := H7.out
  have hBe := HW.out.2
  have hBg : B ≠ gc := by have := HC.out.2.2.2.1.c.lt; omega
  have hI7 := H6.out.1.below hb7
  have hE := ((hI7.set hB7 hBg 0 (.int .i64 (x.other : Int))).set (hB7.set 0 (.int .i64 (x.other : Int))) hBg 1 (.int .i64 (p : Int))).set ((hB7.set 0 (.int .i64 (x.other : Int))).set 1 (.int .i64 (p : Int))) hBg 2 (.bool mv)
  have hkE : BkAt B 131 (staA x.other p mv) _ := ((hB7.set 0 (.int .i64 (x.other : Int))).set 1 (.int .i64 (p : Int))).set 2 (.bool mv)
  have hcE := (((H6.out.2.2.2.below hb7).setNew B 0 (.int .i64 (x.other : Int)) (.inr (by omega))).setNew B 1 (.int .i64 (p : Int)) (.inr (by omega))).setNew B 2 (.bool mv) (.inr (by omega))
  refine bodyPost_ret (results_cell_row2 rfl _ _ B 131 (staA x.other p mv) (0, 0) _ rfl hkE Try.underlying131 rfl sizeSt) rfl ?_
  exact ⟨.slice (some ⟨g, 0, none⟩) L cap, x, by rw [List.getElem?_eq_getElem hpc, HO.out.2], rfl, hE, hcE, rfl⟩
end Go.Proofs.Ytfkgicakiapmaaa

namespace Go.Proofs.Ytfkgicakiapmaaa
open Go.RowKit

set_option maxRecDepth 100000 in
theorem back_none (sb : Nat) (cv nv tv : Value) (pa : Option Addr) (cap : Nat) (text : ByteArray) (start fr : Nat) (w : World) (h : BkAt sb 121 (srA cv nv tv (.slice pa 0 cap) text start fr) w) :
    Calls Try.prog 65 #[.pointer (some ⟨sb, 0, none⟩)] w fun e w' => e = .returned (.tuple #[.agg (staA 0 0 false), .bool false]) ∧ Below w.heap.size w w' := by
  have hb1 := below_new w (.cells (staA 0 0 false) 131)
  have hkn := BkAt.new 131 (staA 0 0 false) w
  obtain ⟨W, hW⟩ : ∃ W, w.alloc (.cells (staA 0 0 false) 131) = W := ⟨_, rfl⟩
  obtain ⟨B, hB⟩ : ∃ B, w.heap.size = B := ⟨_, rfl⟩
  rw [hW] at hb1 hkn
  rw [hB] at hkn
  have s6 : W.cell? ⟨sb, 6, none⟩ = some (.slice pa 0 cap) := (h.below hb1).cell 6
  obtain ⟨g0, g1, g2⟩ : W.frozen? ⟨B, 0, none⟩ = false ∧ W.frozen? ⟨B, 1, none⟩ = false ∧ W.frozen? ⟨B, 2, none⟩ = false := ⟨hkn.free 0, hkn.free 1, hkn.free 2⟩
  obtain ⟨r0, r1, r2⟩ : W.cell? ⟨B, 0, none⟩ = some (.int .i64 0) ∧ W.cell? ⟨B, 1, none⟩ = some (.int .i64 0) ∧ W.cell? ⟨B, 2, none⟩ = some (.bool false) := ⟨hkn.cell 0, hkn.cell 1, hkn.cell 2⟩
  have HC := Lib.hid (And.intro hb1 hkn)
  have HW := Lib.hid (And.intro hW hB)
  clear hW hB hb1 hkn h
  go_enter Try.func65, Try.ntmps65
  go_upto_region 1 with (fail)
  have e := HW.out.1
  unfold staA at e
  rw [show (Value.int .i64 ((0 : Nat) : Int)) = .int .i64 0 from rfl] at e
  rw [e, HW.out.2]
  clear e
  go_wp2_with fail
  have hkE : BkAt B 131 (staA 0 0 false) (((W.setCell ⟨B, 0, none⟩ (.int .i64 0)).setCell ⟨B, 1, none⟩ (.int .i64 0)).setCell ⟨B, 2, none⟩ (.bool false)) := ((HC.out.2.set 0 (.int .i64 0)).set 1 (.int .i64 0)).set 2 (.bool false)
  have hBe := HW.out.2
  have hE2 := ((HC.out.1.setCell (p := ⟨B, 0, none⟩) (show w.heap.size ≤ B by omega) (.int .i64 0)).setCell (p := ⟨B, 1, none⟩) (show w.heap.size ≤ B by omega) (.int .i64 0)).setCell (p := ⟨B, 2, none⟩) (show w.heap.size ≤ B by omega) (.bool false)
  exact bodyPost_ret (results_cell_row2 rfl _ _ B 131 (staA 0 0 false) (0, 0) _ rfl hkE Try.underlying131 rfl sizeSt) rfl ⟨rfl, hE2⟩
end Go.Proofs.Ytfkgicakiapmaaa
