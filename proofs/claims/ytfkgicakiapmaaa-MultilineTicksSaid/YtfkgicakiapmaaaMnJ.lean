/- Package matcher: match at one instruction; Match at a pattern without kids. -/
import Derived.Test.YtfkgicakiapmaaaMnVd
namespace Go.Proofs.Ytfkgicakiapmaaa
open Go Go.RowKit

theorem results_ctm {P : Program} {fn : Func} {p u : Tmp} {ty : TypeId} (h : fn.results = #[.cell p ty, .tmp u]) (tmps : Array Value) (w : World) (g : Nat) (t : TypeId) (cs : Array Value) (fr : Nat × Nat) (d : TypeDesc)
    (hp : tmps.getD p undef = .pointer (some ⟨g, 0, none⟩)) (hg : w.heap[g]? = some (.cells cs t fr))
    (hu : P.underlying ty = some d) (hd : (match d with | .struct _ | .array _ _ => true | _ => false) = true) (hi : (P.info? ty).map (·.size) = some cs.size) :
    (results fn tmps).run P w = .ok (.tuple #[.agg cs, tmps.getD u undef]) w := results_cell_row2 h tmps w g t cs fr d hp hg hu hd hi
theorem enter0 (base : Nat) {sb gc c : Nat} {x : InsV} {text : ByteArray} {w : World} (h : CodeW w sb gc 2 c [accI, x] (.slice none 0 0) (.slice none 0 0) (.slice none 0 0) text 1 0) : EnterI base sb gc 2 c [accI, x] (.slice none 0 0) (.slice none 0 0) text 1 0 (fun _ => 0) [] (.slice none 0 0) w :=
  ⟨h, ⟨0, World.ownsRow_nil _ _ _ _, fun _ _ => rfl, fun _ => by show (0 : Nat) < _; decide, by omega⟩, World.ownsRow_nil _ _ _ _⟩
theorem CodeW.below2 {W W' : World} {sb gc n c : Nat} {code : List InsV} {nv tv pv : Value} {text : ByteArray} {start fr : Nat} (h : CodeW W sb gc n c code nv tv pv text start fr) (k : Below W.heap.size W W') : CodeW W' sb gc n c code nv tv pv text start fr := h.below k

set_option maxRecDepth 100000 in
set_option maxHeartbeats 4000000 in
theorem match_two (sb gc c : Nat) (x : InsV) (hx : x.op = 1 ∨ x.op = 2 ∨ x.op = 3) (hn : x.next = 0) (text : ByteArray) (ht : text.size ≤ 1000000) (w : World) (h : CodeW w sb gc 2 c [accI, x] (.slice none 0 0) (.slice none 0 0) (.slice none 0 0) text 1 0) (hgs : gc ≠ sb) :
    Calls Try.prog 49 #[.pointer (some ⟨sb, 0, none⟩), .int .i64 0] w fun e w' => (∃ a b y n k, e = .returned (.tuple #[.agg #[.int .i64 a, .int .i64 b, .slice y n k], .bool (posS x text 0 true)])) ∧ ChP (fun i => i = sb) w w' := by
  obtain ⟨rb, hrb⟩ : ∃ q, w.heap.size = q := ⟨_, rfl⟩
  have hb1 := below_new w (.cells #[.int .i64 0, .int .i64 0, .slice none 0 0] 54)
  have hb2 := bl_trans' hb1 (below_new _ (.cells (staA 1 0 true) 131))
  have hr0 : BkAt rb 54 #[.int .i64 0, .int .i64 0, .slice none 0 0] ((w.alloc (.cells #[.int .i64 0, .int .i64 0, .slice none 0 0] 54)).alloc (.cells (staA 1 0 true) 131)) := by rw [← hrb]; exact (BkAt.new _ _ _).below (below_new _ _)
  have hk0 : BkAt (rb + 1) 131 (staA 1 0 true) ((w.alloc (.cells #[.int .i64 0, .int .i64 0, .slice none 0 0] 54)).alloc (.cells (staA 1 0 true) 131)) := by
    have q := BkAt.new 131 (staA 1 0 true) (w.alloc (.cells #[.int .i64 0, .int .i64 0, .slice none 0 0] 54))
    rw [World.size_alloc, hrb] at q
    exact q
  have c1 : w.cell? ⟨sb, 1, none⟩ = some (.int .i64 1) := h.s.cell 1
  have hsl := h.s.lt
  obtain ⟨W, hW⟩ : ∃ y, (w.alloc (.cells #[.int .i64 0, .int .i64 0, .slice none 0 0] 54)).alloc (.cells (staA 1 0 true) 131) = y := ⟨_, rfl⟩
  rw [hW] at hb2 hr0 hk0
  have hc := h.below hb2
  have hgl : gc < W.heap.size := hc.lt
  have hrun := run_two sb gc c x hx hn text ht W (enter0 W.heap.size hc) hgs
  have HW := Lib.hid (And.intro hW hrb)
  have H := Lib.hid (And.intro hrun (And.intro hr0 (And.intro hk0 (And.intro hb2 hgl))))
  clear hW hrb hrun hr0 hk0 hb2 hb1 hc h
  obtain ⟨pos, hps⟩ : ∃ b, posS x text 0 true = b := ⟨_, rfl⟩
  rw [hps] at H ⊢
  unfold staA at HW H
  rw [show (Value.int .i64 ((1 : Nat) : Int)) = .int .i64 1 from rfl, show (Value.int .i64 ((0 : Nat) : Int)) = .int .i64 0 from rfl] at HW H
  go_enter Try.func49, Try.ntmps49
  go_wp2_with fail
  rw [HW.out.1, HW.out.2]
  refine H.out.1.mono ?_
  rintro e w1 ⟨rfl, hrn, hc1⟩
  have hrs : rb ≠ sb := by have := HW.out.2; omega
  have hr1 := H.out.2.1.ch hc1 hrs
  have hk1 := H.out.2.2.1.ch hc1 (by have := HW.out.2; omega)
  have hcw : ChP (fun i => i = sb) w w1 := (ChP.ofBelow H.out.2.2.2.1 : ChP (fun i => i = sb) w W).trans hc1 (fun _ _ q => q)
  have hrw : w.heap.size ≤ rb := by have := HW.out.2; omega
  cases pos with
  | false =>
    obtain ⟨p0, p1, p2⟩ : w1.cell? ⟨rb, 0, none⟩ = some (.int .i64 0) ∧ w1.cell? ⟨rb, 1, none⟩ = some (.int .i64 0) ∧ w1.cell? ⟨rb, 2, none⟩ = some (.slice none 0 0) := ⟨hr1.cell 0, hr1.cell 1, hr1.cell 2⟩
    obtain ⟨y0, y1, y2⟩ : w1.frozen? ⟨rb, 0, none⟩ = false ∧ w1.frozen? ⟨rb, 1, none⟩ = false ∧ w1.frozen? ⟨rb, 2, none⟩ = false := ⟨hr1.free 0, hr1.free 1, hr1.free 2⟩
    have hr2 := ((hr1.set 0 (.int .i64 0)).set 1 (.int .i64 0)).set 2 (.slice none 0 0)
    have hc2 := ((hcw.setNew rb 0 (.int .i64 0) (.inr hrw)).setNew rb 1 (.int .i64 0) (.inr hrw)).setNew rb 2 (.slice none 0 0) (.inr hrw)
    have HZ := Lib.hid (And.intro hr2 hc2)
    clear hr2 hc2 hr1 hk1 hcw hc1 hrn
    go_wp2_with fail
    refine bodyPost_ret (results_ctm rfl _ _ rb 54 #[.int .i64 0, .int .i64 0, .slice none 0 0] (0, 0) _ rfl HZ.out.1 Try.underlying54 rfl sizeMt) rfl ?_
    exact ⟨⟨_, _, _, _, _, rfl⟩, HZ.out.2⟩
  | true =>
    obtain ⟨tv, pa, pc, hE⟩ := (hrn rfl).e
    have htv : ∀ g, tv.ownBlock = some g → g ≠ sb ∧ W.heap.size ≤ g := fun g hg => by
      obtain ⟨m, t1, -⟩ := hE.t
      obtain ⟨-, -, -, q⟩ := row_type t1 hg
      exact ⟨row_ne t1 hE.c.s (by decide) hg, q⟩
    have hrt := retrace_two inOrder0 W.heap.size sb gc c x hx hn text ht tv pa pc w1 hE H.out.2.2.2.2 (fun g hg => (htv g hg).1)
    obtain ⟨s0, s1, s2⟩ : w1.cell? ⟨rb + 1, 0, none⟩ = some (.int .i64 1) ∧ w1.cell? ⟨rb + 1, 1, none⟩ = some (.int .i64 0) ∧ w1.cell? ⟨rb + 1, 2, none⟩ = some (.bool true) := ⟨hk1.cell 0, hk1.cell 1, hk1.cell 2⟩
    have hWr : rb < W.heap.size := H.out.2.1.lt
    have hWw : w.heap.size ≤ W.heap.size := H.out.2.2.2.1.size
    unfold staA at hrt
    rw [show (Value.int .i64 ((1 : Nat) : Int)) = .int .i64 1 from rfl, show (Value.int .i64 ((0 : Nat) : Int)) = .int .i64 0 from rfl] at hrt
    have HT := Lib.hid hrt
    have H1 := Lib.hid (And.intro hr1 (And.intro hcw htv))
    clear hrt hr1 hk1 hcw hc1 hrn hE htv
    go_wp2_with fail
    refine HT.out.mono ?_
    rintro e w2 ⟨a, n, k, rfl, hc2⟩
    have hr2 := H1.out.1.ch hc2 (fun e => by have := (H1.out.2.2 _ e).2; omega)
    have hcw2 : ChP (fun i => i = sb) w w2 := ⟨hc2.os.trans H1.out.2.1.os, hc2.tape.trans H1.out.2.1.tape, hc2.output.trans H1.out.2.1.output, Nat.le_trans H1.out.2.1.size hc2.size, fun i hi hq => (hc2.block i (Nat.lt_of_lt_of_le hi H1.out.2.1.size) (fun e => by have := (H1.out.2.2 _ e).2; omega)).trans (H1.out.2.1.block i hi hq)⟩
    obtain ⟨p0, p1, p2⟩ : w2.cell? ⟨rb, 0, none⟩ = some (.int .i64 0) ∧ w2.cell? ⟨rb, 1, none⟩ = some (.int .i64 0) ∧ w2.cell? ⟨rb, 2, none⟩ = some (.slice none 0 0) := ⟨hr2.cell 0, hr2.cell 1, hr2.cell 2⟩
    obtain ⟨y0, y1, y2⟩ : w2.frozen? ⟨rb, 0, none⟩ = false ∧ w2.frozen? ⟨rb, 1, none⟩ = false ∧ w2.frozen? ⟨rb, 2, none⟩ = false := ⟨hr2.free 0, hr2.free 1, hr2.free 2⟩
    obtain ⟨z, hz⟩ : ∃ z : Int, (atS x 0 : Int) = z := ⟨_, rfl⟩
    rw [hz]
    have hr3 := ((hr2.set 0 (.int .i64 0)).set 1 (.int .i64 z)).set 2 (.slice a n k)
    have hc3 := ((hcw2.setNew rb 0 (.int .i64 0) (.inr hrw)).setNew rb 1 (.int .i64 z) (.inr hrw)).setNew rb 2 (.slice a n k) (.inr hrw)
    have HZ := Lib.hid (And.intro hr3 hc3)
    clear hr3 hc3 hr2 hcw2 hc2 hz s0 s1 s2
    go_wp2_with fail
    refine bodyPost_ret (results_ctm rfl _ _ rb 54 #[.int .i64 0, .int .i64 z, .slice a n k] (0, 0) _ rfl HZ.out.1 Try.underlying54 rfl sizeMt) rfl ?_
    exact ⟨⟨_, _, _, _, _, rfl⟩, HZ.out.2⟩
end Go.Proofs.Ytfkgicakiapmaaa
