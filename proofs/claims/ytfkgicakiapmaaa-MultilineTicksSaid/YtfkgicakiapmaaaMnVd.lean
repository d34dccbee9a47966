/- Package matcher: run at a program of one instruction that does not part. Package matcher: retrace at a program of one instruction that does not part. Package matcher: inOrder without a group; match at one instruction; Match at a pattern without kids. -/
import Derived.Test.YtfkgicakiapmaaaMnVc
namespace Go.Proofs.Ytfkgicakiapmaaa
open Go Go.RowKit

/-- What a search of one instruction has tried. -/
def tr3 : Nat → Nat := putT (fun _ => 0) 3
/-- The search behind run. -/
structure RnO (base sb gc c : Nat) (x : InsV) (text : ByteArray) (w W : World) : Prop where
  e : ∃ tv pa pc, EnterI base sb gc 2 c [accI, x] (.slice none 0 0) (.slice pa 0 pc) text 1 0 tr3 [] tv W
  c : ChP (fun i => i = sb) w W
theorem pushS_lf {x : InsV} (hx : x.op = 1 ∨ x.op = 2 ∨ x.op = 3) (pd : List Nat) (k : Nat) : pushS x pd k = pd := by unfold pushS; rw [if_neg (by omega)]
theorem has0 : hasT (fun _ => 0) 3 = false := by decide
theorem num3 : numS 2 0 1 0 true = 3 := by decide
theorem EnterI.set2 {base sb gc n c : Nat} {code : List InsV} {nv pv : Value} {text : ByteArray} {start fr : Nat} {f : Nat → Nat} {pd : List Nat} {tv : Value} {w : World} (h : EnterI base sb gc n c code nv pv text start fr f pd tv w) (pv' : Value) (pd' : List Nat) (hp : PdAt base pv' pd' w) (hg : gc ≠ sb) (hsg : ∀ g, tv.ownBlock = some g → g ≠ sb) (hsp : ∀ g, pv'.ownBlock = some g → g ≠ sb) : EnterI base sb gc n c code nv pv' text start fr f pd' tv (w.setCell ⟨sb, 6, none⟩ pv') := by
  have hs : BkAt sb 121 (srA (.slice (some ⟨gc, 0, none⟩) n c) nv tv pv' text start fr) (w.setCell ⟨sb, 6, none⟩ pv') := h.c.s.set 6 pv'
  have hc : ChP (fun k => k = sb) w (w.setCell ⟨sb, 6, none⟩ pv') := (ChP.refl (fun k => k = sb) w).set sb 6 pv' rfl
  obtain ⟨m, t1, t2⟩ := h.t
  exact ⟨h.c.ch hc hg hs, ⟨m, row_ch t1 hc (fun g hg' e => hsg g hg' e), t2⟩, row_ch hp hc (fun g hg' e => hsp g hg' e)⟩

theorem enter_two (base sb gc c : Nat) (x : InsV) (hx : x.op = 1 ∨ x.op = 2 ∨ x.op = 3) (hn : x.next = 0) (text : ByteArray) (ht : text.size ≤ 1000000) (w : World) (h : EnterI base sb gc 2 c [accI, x] (.slice none 0 0) (.slice none 0 0) text 1 0 (fun _ => 0) [] (.slice none 0 0) w) (hgs : gc ≠ sb) (hb : base ≤ w.heap.size) (hgb : gc < base) :
    Calls Try.prog 64 #[.pointer (some ⟨sb, 0, none⟩), .agg (staA 1 0 true)] w fun e w' => e = .returned (.tuple #[.agg (staA 0 (atS x 0) (mvS x true)), .bool (posS x text 0 true)]) ∧ (∃ tv pa pc, EnterI base sb gc 2 c [accI, x] (.slice none 0 0) (.slice pa 0 pc) text 1 0 tr3 [] tv w') ∧ ChP (fun i => i = sb) w w' := by
  have he := enter_any base sb gc 2 c 1 0 1 0 true [accI, x] (.slice none 0 0) (.slice none 0 0) (.slice none 0 0) text (fun _ => 0) [] w h (by simp) (by omega) ht (by omega) (by omega) hb (by rw [num3]; omega) hgb hgs (by simp)
  refine he.mono ?_
  rintro e w' ⟨tv', pv', hE, hc, he⟩
  rw [num3, has0] at hE he
  have hxe : ([accI, x][1]'(by simp)) = x := rfl
  rw [hxe] at hE he
  rw [if_neg (by simp), pushS_lf hx] at hE
  rw [if_neg (by simp), hn] at he
  refine ⟨by rw [he]; simp, ?_, hc.mono (fun i _ q => by rcases q with q | q | q; exact q; cases q; cases q)⟩
  obtain ⟨pa, pn, pc, rfl⟩ := row_slice hE.p
  have : pn = 0 := by
    rcases row_form hE.p with ⟨q, -⟩ | ⟨g, k, q, -⟩
    · cases q; rfl
    · cases q; rfl
  subst this
  exact ⟨tv', pa, pc, hE⟩
/-- Between the rounds of run. -/
def RnR (base sb gc c tb : Nat) (x : InsV) (text : ByteArray) (w W2 : World) (_ : Value) (wr : World) : Prop :=
  (wr = W2) ∨ (posS x text 0 true = true ∧ BkAt tb 131 (staA 0 (atS x 0) (mvS x true)) wr ∧ RnO base sb gc c x text w wr)
set_option maxRecDepth 100000 in
set_option maxHeartbeats 8000000 in
theorem run_two (sb gc c : Nat) (x : InsV) (hx : x.op = 1 ∨ x.op = 2 ∨ x.op = 3) (hn : x.next = 0) (text : ByteArray) (ht : text.size ≤ 1000000) (w : World) (h : EnterI w.heap.size sb gc 2 c [accI, x] (.slice none 0 0) (.slice none 0 0) text 1 0 (fun _ => 0) [] (.slice none 0 0) w) (hgs : gc ≠ sb) :
    Calls Try.prog 55 #[.pointer (some ⟨sb, 0, none⟩), .agg (staA 1 0 true)] w fun e w' => e = .returned (.bool (posS x text 0 true)) ∧ (posS x text 0 true = true → RnO w.heap.size sb gc c x text w w') ∧ ChP (fun i => i = sb) w w' := by
  obtain ⟨tb, htb⟩ : ∃ q, w.heap.size = q := ⟨_, rfl⟩
  have hb1 := below_new w (.cells (staA 1 0 true) 131)
  have hk0 : BkAt tb 131 (staA 1 0 true) (w.alloc (.cells (staA 1 0 true) 131)) := by rw [← htb]; exact BkAt.new _ _ _
  have h1 := h.below hb1
  have hsl := h.c.s.lt
  have hst : tb ≠ sb := by omega
  have s6 : (w.alloc (.cells (staA 1 0 true) 131)).cell? ⟨sb, 6, none⟩ = some (.slice none 0 0) := h1.c.s.cell 6
  have f6 : (w.alloc (.cells (staA 1 0 true) 131)).frozen? ⟨sb, 6, none⟩ = false := h1.c.s.free 6
  have h2 := h1.set2 (.slice none 0 0) [] h1.p hgs (fun g e => by cases e) (fun g e => by cases e)
  have hk2 := hk0.other (c := sb) 6 (.slice none 0 0) hst
  have hc2 : ChP (fun i => i = sb) w ((w.alloc (.cells (staA 1 0 true) 131)).setCell ⟨sb, 6, none⟩ (.slice none 0 0)) := (ChP.ofBelow hb1 : ChP (fun i => i = sb) w _).set sb 6 _ rfl
  obtain ⟨W, hW⟩ : ∃ y, w.alloc (.cells (staA 1 0 true) 131) = y := ⟨_, rfl⟩
  rw [hW] at s6 f6 h2 hk2 hc2
  obtain ⟨W2, hW2⟩ : ∃ y, W.setCell ⟨sb, 6, none⟩ (.slice none 0 0) = y := ⟨_, rfl⟩
  rw [hW2] at h2 hk2 hc2
  have hgl := h.c.lt
  have HW := Lib.hid (And.intro hW (And.intro hW2 htb))
  have H := Lib.hid (And.intro h2 (And.intro hk2 (And.intro hc2 (And.intro hgl hsl))))
  clear hW hW2 htb h2 hk2 hc2 h h1 hb1 hk0
  unfold staA at HW
  go_enter Try.func55, Try.ntmps55
  unfold staA
  go_upto_region 1 with (fail)
  rw [show (Value.int .i64 ((1 : Nat) : Int)) = .int .i64 1 from rfl, show (Value.int .i64 ((0 : Nat) : Int)) = .int .i64 0 from rfl] at HW
  rw [HW.out.1, HW.out.2.2]
  go_wp2_with fail
  rw [HW.out.2.1]
  clear s6 f6
  go_loopw [15] (fun v wr => RnR w.heap.size sb gc c tb x text w W2 v wr) (fun _ wr => (intOf ((wr.cell? ⟨tb, 0, none⟩).getD undef)).toNat)
  case atStart => exact .inl rfl
  case round =>
    rcases hrel with rfl | ⟨hpos, hkb, hrn⟩
    · have q0 : wr.cell? ⟨sb, 0, none⟩ = some (.slice (some ⟨gc, 0, none⟩) 2 c) := H.out.1.c.s.cell 0
      have t0 : wr.cell? ⟨tb, 0, none⟩ = some (.int .i64 1) := H.out.2.1.cell 0
      have t1 : wr.cell? ⟨tb, 1, none⟩ = some (.int .i64 0) := H.out.2.1.cell 1
      have t2 : wr.cell? ⟨tb, 2, none⟩ = some (.bool true) := H.out.2.1.cell 2
      obtain ⟨xo, hxo⟩ : ∃ z : Int, (x.op : Int) = z := ⟨_, rfl⟩
      have i0 : wr.cell? ⟨gc, 8, none⟩ = some (.int .i64 xo) := by rw [← hxo]; exact H.out.1.c.c 1 (by simp) 0 _ rfl
      have z1 : (xo != 0) = true := by rw [bne_iff_ne]; omega
      have z2 : (xo == 0) = false := by rw [beq_eq_false_iff_ne]; omega
      have z3 : decide (xo = 0) = false := decide_eq_false (by omega)
      clear hxo
      go_wp2_with fail
      go_quiet (fail)
      go_wp2_with fail
      have hdw : Below wr.heap.size wr (wr.drewN nq) := ⟨rfl, rfl, rfl, Nat.le_refl _, fun _ _ => rfl⟩
      have hEn := enter_two w.heap.size sb gc c x hx hn text ht (wr.drewN nq) (H.out.1.below hdw) hgs (Nat.le_trans H.out.2.2.1.size hdw.size) H.out.2.2.2.1
      refine hEn.mono ?_
      rintro e w3 ⟨rfl, hE3, hc3⟩
      have hk3 : BkAt tb 131 (staA 1 0 true) w3 := (H.out.2.1.below hdw).ch hc3 hst
      have hc03 : ChP (fun i => i = sb) w w3 := (H.out.2.2.1.below hdw).trans hc3 (fun _ _ q => q)
      have s0 : w3.cell? ⟨tb, 0, none⟩ = some (.int .i64 1) := hk3.cell 0
      have s1 : w3.cell? ⟨tb, 1, none⟩ = some (.int .i64 0) := hk3.cell 1
      have s2 : w3.cell? ⟨tb, 2, none⟩ = some (.bool true) := hk3.cell 2
      have y0 : w3.frozen? ⟨tb, 0, none⟩ = false := hk3.free 0
      have y1 : w3.frozen? ⟨tb, 1, none⟩ = false := hk3.free 1
      have y2 : w3.frozen? ⟨tb, 2, none⟩ = false := hk3.free 2
      have hlt3 := hk3.lt
      obtain ⟨pos, hps⟩ : ∃ b, posS x text 0 true = b := ⟨_, rfl⟩
      obtain ⟨p1, hp1⟩ : ∃ b : Int, (atS x 0 : Int) = b := ⟨_, rfl⟩
      obtain ⟨m1, hm1⟩ : ∃ b, mvS x true = b := ⟨_, rfl⟩
      have H3 := Lib.hid (And.intro hE3 (And.intro hk3 (And.intro hc03 (And.intro hps (And.intro hp1 hm1)))))
      unfold staA
      rw [hps, hp1, hm1, show (Value.int .i64 ((0 : Nat) : Int)) = .int .i64 0 from rfl]
      clear hE3 hk3 hc03 hc3 hEn hps hp1 hm1 q0 i0 t0 t1 t2 z1 z2 z3 hdw
      cases pos with
      | true =>
        go_wp2_with fail
        refine ⟨?rr, ?measure⟩
        case rr =>
          (repeat apply Exists.intro)
          refine ⟨?_, rfl⟩
          have k1 := H3.out.2.1.set 0 (.int .i64 0)
          have k2 := k1.set 1 (.int .i64 p1)
          have k3 := k2.set 2 (.bool m1)
          have hgt : tb ≠ gc := by have h1 := HW.out.2.2; omega
          obtain ⟨tv, pa, pc, hE⟩ := H3.out.1
          have hE1 := (((hE.set H3.out.2.1 hgt 0 (.int .i64 0)).set k1 hgt 1 (.int .i64 p1)).set k2 hgt 2 (.bool m1)).below (below_new _ (.cells #[.int .i64 0, .int .i64 p1, .bool m1] 131))
          have hc1 := (((H3.out.2.2.1.setNew tb 0 (.int .i64 0) (.inr (by have h1 := HW.out.2.2; omega))).setNew tb 1 (.int .i64 p1) (.inr (by have h1 := HW.out.2.2; omega))).setNew tb 2 (.bool m1) (.inr (by have h1 := HW.out.2.2; omega))).below (below_new _ (.cells #[.int .i64 0, .int .i64 p1, .bool m1] 131))
          have k4 := k3.below (below_new _ (.cells #[.int .i64 0, .int .i64 p1, .bool m1] 131))
          refine .inr ⟨H3.out.2.2.2.1, ?_, ⟨⟨tv, pa, pc, hE1⟩, hc1⟩⟩
          rw [← H3.out.2.2.2.2.1, ← H3.out.2.2.2.2.2] at k4 ⊢
          exact k4
        case measure =>
          have k1 := ((H3.out.2.1.set 0 (.int .i64 0)).set 1 (.int .i64 p1)).set 2 (.bool m1)
          have k4 := (k1.below (below_new _ (.cells #[.int .i64 0, .int .i64 p1, .bool m1] 131))).cell 0
          rw [k4, H.out.2.1.cell 0]
          simp [staA, intOf]
      | false =>
        obtain ⟨tv, pa, pc, hE⟩ := H3.out.1
        have hb4 := below_new w3 (.cells #[.int .i64 0, .int .i64 p1, .bool m1] 131)
        have hBk := back_none sb (.slice (some ⟨gc, 0, none⟩) 2 c) (.slice none 0 0) tv pa pc text 1 0 _ (hE.c.s.below hb4)
        have hkn := BkAt.new 131 #[.int .i64 0, .int .i64 p1, .bool m1] w3
        have HB := Lib.hid (And.intro hBk (And.intro hb4 hkn))
        clear hE hb4 hBk hkn
        go_wp2_with fail
        refine HB.out.1.mono ?_
        rintro e w5 ⟨rfl, hb5⟩
        have hk5 := HB.out.2.2.below hb5
        have hb35 := bl_trans' HB.out.2.1 hb5
        obtain ⟨z0, z1, z2⟩ : w5.cell? ⟨w3.heap.size, 0, none⟩ = some (.int .i64 0) ∧ w5.cell? ⟨w3.heap.size, 1, none⟩ = some (.int .i64 p1) ∧ w5.cell? ⟨w3.heap.size, 2, none⟩ = some (.bool m1) := ⟨hk5.cell 0, hk5.cell 1, hk5.cell 2⟩
        obtain ⟨x0, x1, x2⟩ : w5.frozen? ⟨w3.heap.size, 0, none⟩ = false ∧ w5.frozen? ⟨w3.heap.size, 1, none⟩ = false ∧ w5.frozen? ⟨w3.heap.size, 2, none⟩ = false := ⟨hk5.free 0, hk5.free 1, hk5.free 2⟩
        have hc5 : ChP (fun i => i = sb) w w5 := H3.out.2.2.1.below hb35
        have hwl : w.heap.size ≤ w3.heap.size := H3.out.2.2.1.size
        have H5 := Lib.hid hc5
        unfold staA
        clear hb5 hk5 hb35 hc5 s0 s1 s2 y0 y1 y2
        go_wp2_with fail
        go_ret
        refine ⟨by rw [H3.out.2.2.2.1]; rfl, fun q => absurd (H3.out.2.2.2.1.symm.trans q) (by simp), ((H5.out.setNew w3.heap.size 0 _ (.inr hwl)).setNew w3.heap.size 1 _ (.inr hwl)).setNew w3.heap.size 2 _ (.inr hwl)⟩
    · have q0 : wr.cell? ⟨sb, 0, none⟩ = some (.slice (some ⟨gc, 0, none⟩) 2 c) := by
        obtain ⟨tv, pa, pc, hE⟩ := hrn.e
        exact hE.c.s.cell 0
      have i0 : wr.cell? ⟨gc, 0, none⟩ = some (.int .i64 0) := by
        obtain ⟨tv, pa, pc, hE⟩ := hrn.e
        exact hE.c.c 0 (by simp) 0 _ rfl
      have t0 : wr.cell? ⟨tb, 0, none⟩ = some (.int .i64 0) := hkb.cell 0
      have H3 := Lib.hid (And.intro hpos hrn)
      clear hpos hrn hkb
      go_wp2_with fail
      go_quiet (fail)
      go_wp2_with fail
      go_ret
      have hdw : Below wr.heap.size wr (wr.drewN nq) := ⟨rfl, rfl, rfl, Nat.le_refl _, fun _ _ => rfl⟩
      refine ⟨by rw [H3.out.1]; rfl, fun _ => ⟨?_, H3.out.2.c.below hdw⟩, H3.out.2.c.below hdw⟩
      obtain ⟨tv, pa, pc, hE⟩ := H3.out.2.e
      exact ⟨tv, pa, pc, hE.below hdw⟩
end Go.Proofs.Ytfkgicakiapmaaa

namespace Go.Proofs.Ytfkgicakiapmaaa
open Go Go.RowKit

/-- What the search holds while retrace walks. -/
structure RtI (sb gc c : Nat) (x : InsV) (text : ByteArray) (tv : Value) (pa : Option Addr) (pc rb : Nat) (w W : World) : Prop where
  c : CodeW W sb gc 2 c [accI, x] (.slice none 0 0) tv (.slice pa 0 pc) text 1 0
  r : BkAt rb 54 #[.int .i64 0, .int .i64 0, .slice none 0 0] W
  f : ChP (fun i => tv.ownBlock = some i) w W
theorem RtI.below {sb gc c : Nat} {x : InsV} {text : ByteArray} {tv : Value} {pa : Option Addr} {pc rb : Nat} {w W W' : World} (h : RtI sb gc c x text tv pa pc rb w W) (k : Below W.heap.size W W') : RtI sb gc c x text tv pa pc rb w W' := ⟨h.c.below k, h.r.below k, h.f.below k⟩
def RtR (sb gc c tb : Nat) (x : InsV) (text : ByteArray) (tv : Value) (pa : Option Addr) (pc rb : Nat) (w W2 : World) (v : Value) (wr : World) : Prop :=
  v = .slice pa 0 pc ∧ ((wr = W2) ∨ (BkAt tb 131 (staA 0 (atS x 0) (mvS x true)) wr ∧ RtI sb gc c x text tv pa pc rb w wr))
/-- What inOrder answers where there is no group. -/
def InO : Prop := ∀ (g c : Nat) (W : World), Calls Try.prog 69 #[.slice (some ⟨g, 0, none⟩) 0 c] W fun e w' => e = .returned (.slice (some ⟨g, 0, none⟩) 0 c) ∧ Below W.heap.size W w'
theorem infoGp : (Try.prog.info? 105).map (fun i => (i.zero, i.size, i.bytes)) = some (some (.agg #[.string ⟨#[]⟩, .int .i64 0, .int .i64 0]), 3, 32) := by kernel_rfl
theorem sizeMt : (Try.prog.info? 54).map (·.size) = some 3 := by kernel_rfl

set_option maxRecDepth 100000 in
set_option maxHeartbeats 8000000 in
theorem retrace_two (hIn : InO) (base sb gc c : Nat) (x : InsV) (hx : x.op = 1 ∨ x.op = 2 ∨ x.op = 3) (hn : x.next = 0) (text : ByteArray) (ht : text.size ≤ 1000000) (tv : Value) (pa : Option Addr) (pc : Nat) (w : World) (h : EnterI base sb gc 2 c [accI, x] (.slice none 0 0) (.slice pa 0 pc) text 1 0 tr3 [] tv w) (hgb : gc < base) (hsbb : ∀ g, tv.ownBlock = some g → g ≠ sb) :
    Calls Try.prog 56 #[.pointer (some ⟨sb, 0, none⟩), .agg (staA 1 0 true)] w fun e w' => ∃ a n k, e = .returned (.agg #[.int .i64 0, .int .i64 (atS x 0 : Int), .slice a n k]) ∧ ChP (fun i => tv.ownBlock = some i) w w' := by
  obtain ⟨i0, hi, hz0, hz1, hz2⟩ := info_parts infoGp
  obtain ⟨tb, htb⟩ : ∃ q, w.heap.size = q := ⟨_, rfl⟩
  obtain ⟨rb, hrb⟩ : ∃ q, w.heap.size + 1 = q := ⟨_, rfl⟩
  have hb1 := bl_trans' (below_new w (.cells (staA 1 0 true) 131)) (below_new _ (.cells #[.int .i64 0, .int .i64 0, .slice none 0 0] 54))
  have hk0 : BkAt tb 131 (staA 1 0 true) ((w.alloc (.cells (staA 1 0 true) 131)).alloc (.cells #[.int .i64 0, .int .i64 0, .slice none 0 0] 54)) := by rw [← htb]; exact (BkAt.new _ _ _).below (below_new _ _)
  have hr0 : BkAt rb 54 #[.int .i64 0, .int .i64 0, .slice none 0 0] ((w.alloc (.cells (staA 1 0 true) 131)).alloc (.cells #[.int .i64 0, .int .i64 0, .slice none 0 0] 54)) := by
    have q := BkAt.new 54 #[.int .i64 0, .int .i64 0, .slice none 0 0] (w.alloc (.cells (staA 1 0 true) 131))
    rw [World.size_alloc, hrb] at q
    exact q
  obtain ⟨W, hW⟩ : ∃ y, (w.alloc (.cells (staA 1 0 true) 131)).alloc (.cells #[.int .i64 0, .int .i64 0, .slice none 0 0] 54) = y := ⟨_, rfl⟩
  rw [hW] at hb1 hk0 hr0
  have h1 := h.below hb1
  have n2 : W.cell? ⟨sb, 2, none⟩ = some (.slice none 0 0) := h1.c.s.cell 2
  have n6 : W.cell? ⟨sb, 6, none⟩ = some (.slice pa 0 pc) := h1.c.s.cell 6
  have t1 : W.cell? ⟨tb, 1, none⟩ = some (.int .i64 0) := hk0.cell 1
  have hsl := h1.c.s.lt
  have htl := hk0.lt
  have hI : RtI sb gc c x text tv pa pc rb w W := ⟨h1.c, hr0, ChP.ofBelow hb1⟩
  have HW := Lib.hid (And.intro hW (And.intro htb hrb))
  have H := Lib.hid (And.intro hI (And.intro hk0 (And.intro h1.t (And.intro h.c.lt h.c.s.lt))))
  clear hW htb hrb hI hk0 hr0 hb1 h1 h
  unfold staA at HW
  go_enter Try.func56, Try.ntmps56
  unfold staA
  go_upto_region 1 with (fail)
  rw [show (Value.int .i64 ((1 : Nat) : Int)) = .int .i64 1 from rfl, show (Value.int .i64 ((0 : Nat) : Int)) = .int .i64 0 from rfl] at HW
  rw [HW.out.1, HW.out.2.2, HW.out.2.1]
  go_wp2_with (first
    | (at_make
       refine wpList_make_own _ rfl (.tmp 17) (.tmp 17) 52 rfl 0 105 i0 _ 3 Try.underlying52 hi hz0 hz1 .i64 .i64 0 0 rfl rfl rfl (by simp) (by unfold maxLen; omega) (Nat.zero_le _) ?_
       intro w2 hgr hg2
       have hb2 : Below W.heap.size W w2 := (Below.refl _ _).grown hg2 (Nat.le_refl _) (fun k e => by cases e)
       have hs2 := H.out.1.below hb2
       have n6 : w2.cell? ⟨sb, 6, none⟩ = some (.slice pa 0 pc) := hs2.c.s.cell 6
       have H2 := Lib.hid (And.intro hs2 (And.intro (H.out.2.1.below hb2) hb2))
       clear hgr hg2 hb2 hs2)
    | fail)
  obtain ⟨gb, hgb2⟩ : ∃ q, W.heap.size = q := ⟨_, rfl⟩
  rw [hgb2]
  clear n2 t1 hgb2
  go_loopw [7] (fun v wr => RtR sb gc c tb x text tv pa pc rb w w2 v wr) (fun _ wr => (intOf ((wr.cell? ⟨tb, 0, none⟩).getD undef)).toNat)
  case atStart => exact ⟨rfl, .inl rfl⟩
  case round =>
    obtain ⟨rfl, rfl | ⟨hkb, hrn⟩⟩ := hrel
    · have q0 : wr.cell? ⟨sb, 0, none⟩ = some (.slice (some ⟨gc, 0, none⟩) 2 c) := H2.out.1.c.s.cell 0
      have t0 : wr.cell? ⟨tb, 0, none⟩ = some (.int .i64 1) := H2.out.2.1.cell 0
      have t1 : wr.cell? ⟨tb, 1, none⟩ = some (.int .i64 0) := H2.out.2.1.cell 1
      have t2 : wr.cell? ⟨tb, 2, none⟩ = some (.bool true) := H2.out.2.1.cell 2
      obtain ⟨xo, hxo⟩ : ∃ z : Int, (x.op : Int) = z := ⟨_, rfl⟩
      have i0 : wr.cell? ⟨gc, 8, none⟩ = some (.int .i64 xo) := by rw [← hxo]; exact H2.out.1.c.c 1 (by simp) 0 _ rfl
      have z1 : (xo != 0) = true := by rw [bne_iff_ne]; omega
      have z2 : (xo == 0) = false := by rw [beq_eq_false_iff_ne]; omega
      have z3 : decide (xo = 0) = false := decide_eq_false (by omega)
      have z4 : (xo == 4) = false ∧ (xo == 5) = false ∧ (xo == 6) = false ∧ (xo == 7) = false := by refine ⟨?_, ?_, ?_, ?_⟩ <;> (rw [beq_eq_false_iff_ne]; omega)
      have z5 : decide (xo = 4) = false ∧ decide (xo = 5) = false ∧ decide (xo = 6) = false ∧ decide (xo = 7) = false := by refine ⟨?_, ?_, ?_, ?_⟩ <;> exact decide_eq_false (by omega)
      have HXO := Lib.hid hxo
      clear hxo
      go_wp2_with fail
      go_quiet (fail)
      have hdw : Below wr.heap.size wr (wr.drewN nq) := ⟨rfl, rfl, rfl, Nat.le_refl _, fun _ _ => rfl⟩
      have hnu := number_any sb gc c 2 0 1 0 1 true (.slice none 0 0) tv (.slice pa 0 pc) text (wr.drewN nq) (H2.out.1.c.s.below hdw) (by omega) (by omega) (by omega) (by omega)
      rw [num3] at hnu
      have HN := Lib.hid hnu
      clear hnu
      go_wp2_with fail
      refine HN.out.mono ?_
      rintro e w3 ⟨rfl, hb3⟩
      have hb23 := bl_trans' hdw hb3
      have hs3 := H2.out.1.below hb23
      have hk3 := H2.out.2.1.below hb23
      obtain ⟨m, hrow, hz, h64, hm⟩ := H.out.2.2.1
      have hb03 : Below W.heap.size W w3 := bl_trans' H2.out.2.2 hb23
      have hrow3 := row_below hrow hb03
      have hm0 : 0 < m := by
        rcases Nat.eq_zero_or_pos m with h | h
        · have := hz 0 (by omega)
          exact absurd this (by decide)
        · exact h
      obtain ⟨g, cap, rfl, hbg, hgl, hnc, hcm⟩ := row_someM hrow3 hm0
      have hcell : w3.cell? ⟨g, 0, none⟩ = some (.int .u64 8) := by
        have := hrow3.cells (g := g) rfl 0 _ (trW_get m tr3 0 hm0)
        rwa [Addr.add_lit] at this
      have hfree : w3.frozen? ⟨g, 0, none⟩ = false := by
        obtain ⟨-, hq2⟩ := hrow3
        rcases hq2 with ⟨q1, -⟩ | ⟨g', cap', cur, q1, -, q3, -⟩
        · cases q1
        · cases q1; exact Lib.frozen_of_heap q3 0
      have q5 : w3.cell? ⟨sb, 5, none⟩ = some (.slice (some ⟨g, 0, none⟩) m cap) := hs3.c.s.cell 5
      have hm1 : (0 : Int) < (m : Int) := by omega
      have H3 := Lib.hid (And.intro hs3 (And.intro hk3 (And.intro hrow3 hbg)))
      clear q0 i0 t0 t1 t2 hb3 hb23 hs3 hk3 hrow hrow3 hz h64 hm hb03 hbg hgl hnc hcm hdw n6
      go_wp2_with fail
      go_region
      all_goals
        have hgsb : g ≠ sb := hsbb g rfl
        have hggc : gc ≠ g := by have := H3.out.2.2.2; omega
        have hgtb : tb ≠ g := fun e => row_ne H3.out.2.2.1 H3.out.2.1 (by decide) rfl e.symm
        have hgrb : rb ≠ g := fun e => row_ne H3.out.2.2.1 H3.out.1.r (by decide) rfl e.symm
        have hc1 : ChP (fun k => k = g) w3 (w3.setCell ⟨g, 0, none⟩ (.int .u64 (bits BinOp.andNot .u64 8 8))).drew := ((ChP.refl (fun k => k = g) w3).set g 0 _ rfl).drew
        have hs4 : RtI sb gc c x text (.slice (some ⟨g, 0, none⟩) m cap) pa pc rb w (w3.setCell ⟨g, 0, none⟩ (.int .u64 (bits BinOp.andNot .u64 8 8))).drew :=
          ⟨H3.out.1.c.ch hc1 hggc (BkAt.ch H3.out.1.c.s hc1 (Ne.symm hgsb)), BkAt.ch H3.out.1.r hc1 hgrb, H3.out.1.f.trans hc1 (fun i _ e => by rw [e]; rfl)⟩
        have hk4 : BkAt tb 131 (staA 1 0 true) (w3.setCell ⟨g, 0, none⟩ (.int .u64 (bits BinOp.andNot .u64 8 8))).drew := BkAt.ch H3.out.2.1 hc1 hgtb
        obtain ⟨W4, hW4⟩ : ∃ y, (w3.setCell ⟨g, 0, none⟩ (.int .u64 (bits BinOp.andNot .u64 8 8))).drew = y := ⟨_, rfl⟩
        rw [hW4] at hs4 hk4 ⊢
        clear hW4 hcell hfree q5
        have q0 : W4.cell? ⟨sb, 0, none⟩ = some (.slice (some ⟨gc, 0, none⟩) 2 c) := hs4.c.s.cell 0
        have t0 : W4.cell? ⟨tb, 0, none⟩ = some (.int .i64 1) := hk4.cell 0
        have t1 : W4.cell? ⟨tb, 1, none⟩ = some (.int .i64 0) := hk4.cell 1
        have t2 : W4.cell? ⟨tb, 2, none⟩ = some (.bool true) := hk4.cell 2
        have i0 : W4.cell? ⟨gc, 8, none⟩ = some (.int .i64 xo) := by rw [← HXO.out]; exact hs4.c.c 1 (by simp) 0 _ rfl
        have H4 := Lib.hid (And.intro hs4 hk4)
        clear hs4 hk4 hc1
        go_wp2_with fail
        go_quiet (fail)
        go_wp2_with fail
        have hdw : Below W4.heap.size W4 (W4.drewN nq) := ⟨rfl, rfl, rfl, Nat.le_refl _, fun _ _ => rfl⟩
        have hstp := step_any sb gc 2 c 1 0 1 0 true [accI, x] (.slice none 0 0) (.slice (some ⟨g, 0, none⟩) m cap) (.slice pa 0 pc) text (W4.drewN nq) (H4.out.1.c.below hdw) (by simp) ht (by omega)
        refine hstp.mono ?_
        rintro e w5 ⟨rfl, hb5⟩
        have hxe : ([accI, x][1]'(by simp)) = x := rfl
        rw [hxe, hn]
        have hb45 := bl_trans' hdw hb5
        have hs5 := H4.out.1.below hb45
        have hk5 := H4.out.2.below hb45
        have s0 : w5.cell? ⟨tb, 0, none⟩ = some (.int .i64 1) := hk5.cell 0
        have s1 : w5.cell? ⟨tb, 1, none⟩ = some (.int .i64 0) := hk5.cell 1
        have s2 : w5.cell? ⟨tb, 2, none⟩ = some (.bool true) := hk5.cell 2
        have y0 : w5.frozen? ⟨tb, 0, none⟩ = false := hk5.free 0
        have y1 : w5.frozen? ⟨tb, 1, none⟩ = false := hk5.free 1
        have y2 : w5.frozen? ⟨tb, 2, none⟩ = false := hk5.free 2
        obtain ⟨pos, hps⟩ : ∃ b, posS x text 0 true = b := ⟨_, rfl⟩
        obtain ⟨p1, hp1⟩ : ∃ b : Int, (atS x 0 : Int) = b := ⟨_, rfl⟩
        obtain ⟨m1, hm1⟩ : ∃ b, mvS x true = b := ⟨_, rfl⟩
        have H5 := Lib.hid (And.intro hs5 (And.intro hk5 (And.intro hps (And.intro hp1 hm1))))
        unfold staA
        rw [hps, hp1, hm1, show (Value.int .i64 ((0 : Nat) : Int)) = .int .i64 0 from rfl]
        clear hb5 hb45 hs5 hk5 hstp hps hp1 hm1 q0 i0 t0 t1 t2 z1 z2 z3 z4 z5 hdw hxe
        go_wp2_with fail
        refine ⟨?rr, ?measure⟩
        case rr =>
          (repeat apply Exists.intro)
          have k1 := H5.out.2.1.set 0 (.int .i64 0)
          have k2 := k1.set 1 (.int .i64 p1)
          have k3 := k2.set 2 (.bool m1)
          have htw : w.heap.size ≤ tb := by have := HW.out.2.1; omega
          have htg : ¬ gc = tb := by have h1 := HW.out.2.1; have h2 := H.out.2.2.2.1; omega
          have hts : ¬ sb = tb := by have h1 := HW.out.2.1; have h2 := H.out.2.2.2.2; omega
          have htr : ¬ rb = tb := by have h1 := HW.out.2.1; have h2 := HW.out.2.2; omega
          have hc5 : ChP (fun k => k = tb) w5 (((w5.setCell ⟨tb, 0, none⟩ (.int .i64 0)).setCell ⟨tb, 1, none⟩ (.int .i64 p1)).setCell ⟨tb, 2, none⟩ (.bool m1)) := (((ChP.refl (fun k => k = tb) w5).set tb 0 _ rfl).set tb 1 _ rfl).set tb 2 _ rfl
          refine ⟨rfl, .inr ⟨?_, H5.out.1.c.ch hc5 htg (BkAt.ch H5.out.1.c.s hc5 hts), BkAt.ch H5.out.1.r hc5 htr, ((H5.out.1.f.setNew tb 0 _ (.inr htw)).setNew tb 1 _ (.inr htw)).setNew tb 2 _ (.inr htw)⟩⟩
          rw [← H5.out.2.2.2.1, ← H5.out.2.2.2.2] at k3 ⊢
          exact k3
        case measure =>
          have k3 := (((H5.out.2.1.set 0 (.int .i64 0)).set 1 (.int .i64 p1)).set 2 (.bool m1)).cell 0
          rw [k3, H2.out.2.1.cell 0]
          simp [staA, intOf]
    · have q0 : wr.cell? ⟨sb, 0, none⟩ = some (.slice (some ⟨gc, 0, none⟩) 2 c) := hrn.c.s.cell 0
      have i0 : wr.cell? ⟨gc, 0, none⟩ = some (.int .i64 0) := hrn.c.c 0 (by simp) 0 _ rfl
      have t0 : wr.cell? ⟨tb, 0, none⟩ = some (.int .i64 0) := hkb.cell 0
      obtain ⟨p1, hp1⟩ : ∃ b : Int, (atS x 0 : Int) = b := ⟨_, rfl⟩
      have t1 : wr.cell? ⟨tb, 1, none⟩ = some (.int .i64 p1) := by rw [← hp1]; exact hkb.cell 1
      have H3 := Lib.hid (And.intro hkb (And.intro hrn hp1))
      clear hkb hrn hp1 n6
      go_wp2_with fail
      go_quiet (fail)
      go_wp2_with fail
      have hdw : Below wr.heap.size wr (wr.drewN nq).drew := ⟨rfl, rfl, rfl, Nat.le_refl _, fun _ _ => rfl⟩
      have HI2 := Lib.hid (fun W => hIn gb 0 W)
      have t1 : (wr.drewN nq).drew.cell? ⟨tb, 1, none⟩ = some (.int .i64 p1) := t1
      have hst : ∀ W', Below wr.heap.size wr W' → (W'.cell? ⟨tb, 1, none⟩ = some (.int .i64 p1)) ∧ (W'.cell? ⟨rb, 0, none⟩ = some (.int .i64 0) ∧ W'.cell? ⟨rb, 1, none⟩ = some (.int .i64 0) ∧ W'.cell? ⟨rb, 2, none⟩ = some (.slice none 0 0)) ∧ W'.frozen? ⟨rb, 0, none⟩ = false ∧ W'.frozen? ⟨rb, 1, none⟩ = false ∧ W'.frozen? ⟨rb, 2, none⟩ = false := fun W' hb => by
        have hr := H3.out.2.1.r.below hb
        have hk := H3.out.1.below hb
        exact ⟨by rw [← H3.out.2.2]; exact hk.cell 1, ⟨hr.cell 0, hr.cell 1, hr.cell 2⟩, hr.free 0, hr.free 1, hr.free 2⟩
      have HS := Lib.hid hst
      have HDW := Lib.hid hdw
      clear hst hdw q0 i0 t0
      go_region_with (first
        | (go_at_call 69; refine (HI2.out _).mono ?_; rintro e w6 ⟨rfl, hb6⟩
           have hb7 := bl_trans' HDW.out hb6
           obtain ⟨a1, ⟨a2, a3, a4⟩, a5, a6, a7⟩ := HS.out _ hb7
           have H7 := Lib.hid hb7
           clear hb6 hb7))
      all_goals
        have hr7 := ((H3.out.2.1.r.below H7.out).set 0 (.int .i64 0)).set 1 (.int .i64 p1) |>.set 2 (.slice (some ⟨gb, 0, none⟩) 0 0)
        have hrw : w.heap.size ≤ rb := by have := HW.out.2.2; omega
        have hf7 := (((H3.out.2.1.f.below H7.out).setNew rb 0 (.int .i64 0) (.inr hrw)).setNew rb 1 (.int .i64 p1) (.inr hrw)).setNew rb 2 (.slice (some ⟨gb, 0, none⟩) 0 0) (.inr hrw)
        have HZ := Lib.hid (And.intro hr7 hf7)
        clear hr7 hf7
        go_wp2_with fail
        refine bodyPost_ret (results_cell_row rfl _ _ rb 54 #[.int .i64 0, .int .i64 p1, .slice (some ⟨gb, 0, none⟩) 0 0] (0, 0) _ rfl HZ.out.1 Try.underlying54 rfl sizeMt) rfl ?_
        exact ⟨some ⟨gb, 0, none⟩, 0, 0, by rw [H3.out.2.2], HZ.out.2⟩
end Go.Proofs.Ytfkgicakiapmaaa

namespace Go.Proofs.Ytfkgicakiapmaaa
open Go Go.RowKit

set_option maxRecDepth 100000 in
theorem index0 (g c : Nat) (fv : Value) (fn : Nat) (hf : fv = .func (.func fn) #[] #[]) (w : World) : Calls Try.prog 91 #[.slice (some ⟨g, 0, none⟩) 0 c, fv] w fun e w' => e = .returned (.int .i64 (-1)) ∧ w' = w := by
  subst hf
  go_enter Try.func91, Try.ntmps91
  go_wp2_with fail
  go_loopw [8] (fun i wr => i = .int .i64 0 ∧ wr = w) (fun _ _ => 0)
  case atStart => exact ⟨rfl, rfl⟩
  case round =>
    obtain ⟨rfl, rfl⟩ := hrel
    go_wp2
    go_ret
    exact ⟨rfl, rfl⟩
set_option maxRecDepth 100000 in
theorem delete0 (g c : Nat) (fv : Value) (fn : Nat) (hf : fv = .func (.func fn) #[] #[]) (w : World) : Calls Try.prog 82 #[.slice (some ⟨g, 0, none⟩) 0 c, fv] w fun e w' => e = .returned (.slice (some ⟨g, 0, none⟩) 0 c) ∧ w' = w := by
  have H := Lib.hid (index0 g c fv fn hf w)
  subst hf
  go_enter Try.func82, Try.ntmps82
  go_wp2_with fail
  refine H.out.mono ?_
  rintro e w1 ⟨rfl, rfl⟩
  go_wp2
  go_ret
  exact ⟨rfl, rfl⟩
set_option maxRecDepth 100000 in
theorem insert0 (g c : Nat) (fv : Value) (fn : Nat) (hf : fv = .func (.func fn) #[] #[]) (w : World) : Calls Try.prog 97 #[.slice (some ⟨g, 0, none⟩) 0 c, .int .i64 0, .int .i64 0, fv] w fun e w' => (∃ u, e = .returned u) ∧ w' = w := by
  subst hf
  go_enter Try.func97, Try.ntmps97
  go_wp2_with fail
  go_loopw [8] (fun i wr => i = .int .i64 1 ∧ wr = w) (fun _ _ => 0)
  case atStart => exact ⟨rfl, rfl⟩
  case round =>
    obtain ⟨rfl, rfl⟩ := hrel
    go_wp2
    go_end0
    exact ⟨⟨_, rfl⟩, rfl⟩
set_option maxRecDepth 100000 in
set_option maxHeartbeats 1000000 in
theorem stable0 (g c : Nat) (fv : Value) (fn : Nat) (hf : fv = .func (.func fn) #[] #[]) (w : World) : Calls Try.prog 92 #[.slice (some ⟨g, 0, none⟩) 0 c, .int .i64 0, fv] w fun e w' => (∃ u, e = .returned u) ∧ w' = w := by
  have H := Lib.hid (insert0 g c fv fn hf w)
  subst hf
  go_enter Try.func92, Try.ntmps92
  go_wp2_with fail
  go_loopw [7, 8] (fun i j wr => i = .int .i64 0 ∧ j = .int .i64 20 ∧ wr = w) (fun _ _ _ => 0)
  case atStart => exact ⟨rfl, rfl, rfl⟩
  case round =>
    obtain ⟨rfl, rfl, rfl⟩ := hrel
    go_wp2_with fail
    refine H.out.mono ?_
    rintro e w1 ⟨⟨u, rfl⟩, rfl⟩
    go_wp2_with fail
    go_loopw [6] (fun i wr => i = .int .i64 20 ∧ wr = w1) (fun _ _ => 0)
    case atStart => exact ⟨rfl, rfl⟩
    case round =>
      obtain ⟨rfl, rfl⟩ := hrel
      go_wp2
      go_end0
      exact ⟨⟨_, rfl⟩, rfl⟩
set_option maxRecDepth 100000 in
theorem sort0 (g c : Nat) (fv : Value) (fn : Nat) (hf : fv = .func (.func fn) #[] #[]) (w : World) : Calls Try.prog 84 #[.slice (some ⟨g, 0, none⟩) 0 c, fv] w fun e w' => (∃ u, e = .returned u) ∧ w' = w := by
  have H := Lib.hid (stable0 g c fv fn hf w)
  subst hf
  go_enter Try.func84, Try.ntmps84
  go_wp2_with fail
  refine H.out.mono ?_
  rintro e w1 ⟨⟨u, rfl⟩, rfl⟩
  go_wp2
  go_end0
  exact ⟨⟨_, rfl⟩, rfl⟩
set_option maxRecDepth 100000 in
theorem inOrder0 : InO := by
  intro g c w
  have H1 := Lib.hid (delete0 g c (.func (.func 83) #[] #[]) 83 rfl w)
  have H2 := Lib.hid (sort0 g c (.func (.func 85) #[] #[]) 85 rfl w)
  go_enter Try.func69, Try.ntmps69
  go_wp2_with fail
  refine H1.out.mono ?_
  rintro e w1 ⟨rfl, rfl⟩
  go_wp2_with fail
  refine H2.out.mono ?_
  rintro e w2 ⟨⟨u, rfl⟩, rfl⟩
  go_wp2
  go_ret
  exact ⟨rfl, Below.refl _ _⟩
end Go.Proofs.Ytfkgicakiapmaaa
