/- Package matcher: enter. -/
import Derived.Test.YtfkgicakiapmaaaMtD
import Derived.Test.YtfkgicakiapmaaaMtF
namespace Go.Proofs.Ytfkgicakiapmaaa
open Go.RowKit

/-- The numbers of the forks and loops whose other way was not taken. -/
def PdAt (base : Nat) (pv : Value) (l : List Nat) (w : World) : Prop := w.ownsRow base 21 1 pv l.length (l.map fun k : Nat => Value.int .i32 (k : Int))
theorem CodeW.ch {W W' : World} {sb gc n c : Nat} {code : List InsV} {nv tv pv tv' pv' : Value} {text : ByteArray} {start fr : Nat} {P : Nat → Prop} (h : CodeW W sb gc n c code nv tv pv text start fr) (k : ChP P W W') (hn : ¬ P gc) (hs : BkAt sb 121 (srA (.slice (some ⟨gc, 0, none⟩) n c) nv tv' pv' text start fr) W') : CodeW W' sb gc n c code nv tv' pv' text start fr :=
  ⟨hs, fun i hi j v hv => (World.cell?_of_block (a := ⟨gc, i * 8 + j, none⟩) (k.block gc h.lt hn)).trans (h.c i hi j v hv), h.n, Nat.lt_of_lt_of_le h.lt k.size, h.w⟩
def pushS (x : InsV) (pd : List Nat) (num : Nat) : List Nat := if x.op = 6 ∨ x.op = 7 then pd ++ [num] else pd
structure EnterI (base sb gc n c : Nat) (code : List InsV) (nv pv : Value) (text : ByteArray) (start fr : Nat) (f : Nat → Nat) (pd : List Nat) (tv : Value) (w : World) : Prop where
  c : CodeW w sb gc n c code nv tv pv text start fr
  t : TrAt base tv f w
  p : PdAt base pv pd w
theorem EnterI.set {base sb gc n c : Nat} {code : List InsV} {nv pv : Value} {text : ByteArray} {start fr : Nat} {f : Nat → Nat} {pd : List Nat} {tv : Value} {w : World} (h : EnterI base sb gc n c code nv pv text start fr f pd tv w) {b : Nat} {cs : Array Value} (hk : BkAt b 131 cs w) (hne : b ≠ gc) (i : Nat) (u : Value) : EnterI base sb gc n c code nv pv text start fr f pd tv (w.setCell ⟨b, i, none⟩ u) := by
  have hsb : sb ≠ b := by
    rintro rfl
    have h1 := h.c.s
    unfold BkAt at h1 hk
    rw [hk] at h1
    injection h1 with q
    injection q with q1 q2
    exact absurd q2 (by decide)
  obtain ⟨m, t1, t2⟩ := h.t
  refine ⟨h.c.ch ((ChP.refl (fun j => j = b) w).set b i u rfl) (fun e => hne e.symm) (h.c.s.other i u hsb), ⟨m, ownsRow_setCell_other t1 (a := ⟨b, i, none⟩) (fun e => row_ne t1 hk (by decide) e rfl) u, t2⟩, ownsRow_setCell_other h.p (a := ⟨b, i, none⟩) (fun e => row_ne h.p hk (by decide) e rfl) u⟩
theorem EnterI.below {base sb gc n c : Nat} {code : List InsV} {nv pv : Value} {text : ByteArray} {start fr : Nat} {f : Nat → Nat} {pd : List Nat} {tv : Value} {w w' : World} (h : EnterI base sb gc n c code nv pv text start fr f pd tv w) (k : Below w.heap.size w w') : EnterI base sb gc n c code nv pv text start fr f pd tv w' := by
  obtain ⟨m, t1, t2⟩ := h.t
  exact ⟨h.c.below k, ⟨m, row_below t1 k, t2⟩, row_below h.p k⟩
theorem infoI32 : (Try.prog.info? 21).map (fun i => (i.zero, i.size, i.bytes)) = some (some (.int .i32 0), 1, 4) := by kernel_rfl
theorem row_two {b1 b2 : Nat} {e1 e2 : TypeId} {s1 s2 n1 n2 : Nat} {v1 v2 : Value} {x1 x2 : List Value} {w : World} (h1 : w.ownsRow b1 e1 s1 v1 n1 x1) (h2 : w.ownsRow b2 e2 s2 v2 n2 x2) (he : e1 ≠ e2) {g : Nat} (hg : v1.ownBlock = some g) : v2.ownBlock ≠ some g := fun hg2 => by
  obtain ⟨c1, f1, q1, -⟩ := row_type h1 hg
  obtain ⟨c2, f2, q2, -⟩ := row_type h2 hg2
  rw [q1] at q2
  injection q2 with q
  injection q with q3 q4
  exact he q4
def EnterOut (base sb gc n c : Nat) (code : List InsV) (nv tv pv : Value) (text : ByteArray) (start fr : Nat) (f : Nat → Nat) (pd : List Nat) (x : InsV) (num p : Nat) (mv : Bool) (w : World) (e : Ending) (w' : World) : Prop :=
  ∃ tv' pv', EnterI base sb gc n c code nv pv' text start fr (putT f num) (if hasT f num then pd else pushS x pd num) tv' w' ∧ ChP (fun i => i = sb ∨ tv.ownBlock = some i ∨ pv.ownBlock = some i) w w' ∧
    e = .returned (.tuple #[.agg (if hasT f num then staA 0 0 false else staA x.next (atS x p) (mvS x mv)), .bool (!hasT f num && posS x text p mv)])
set_option maxRecDepth 100000 in
set_option maxHeartbeats 8000000 in
theorem enter_any (base sb gc n c pc p start fr : Nat) (mv : Bool) (code : List InsV) (nv tv pv : Value) (text : ByteArray) (f : Nat → Nat) (pd : List Nat) (w : World) (h : EnterI base sb gc n c code nv pv text start fr f pd tv w) (hpc : pc < code.length) (hn : n ≤ 1000000) (ht : text.size ≤ 1000000) (hf : fr ≤ p) (hp : p ≤ text.size) (hb : base ≤ w.heap.size) (hnum : numS n fr pc p mv < 60000000) (hgc : gc < base) (hgs : gc ≠ sb) (hpd : pd.length ≤ 60000000) :
    Calls Try.prog 64 #[.pointer (some ⟨sb, 0, none⟩), .agg (staA pc p mv)] w (EnterOut base sb gc n c code nv tv pv text start fr f pd code[pc] (numS n fr pc p mv) p mv w) := by
  have hb1 := below_new w (.cells (staA pc p mv) 131)
  have hb2 := below_new (w.alloc (.cells (staA pc p mv) 131)) (.cells (staA 0 0 false) 131)
  have hbw := bl_trans' hb1 hb2
  obtain ⟨x, hx⟩ : ∃ x, code[pc] = x := ⟨_, rfl⟩
  rw [hx]
  obtain ⟨W, hW⟩ : ∃ W, (w.alloc (.cells (staA pc p mv) 131)).alloc (.cells (staA 0 0 false) 131) = W := ⟨_, rfl⟩
  obtain ⟨B, hB⟩ : ∃ B, w.heap.size = B := ⟨_, rfl⟩
  have hk0 : BkAt B 131 (staA pc p mv) W := by rw [← hW, ← hB]; exact (BkAt.new _ _ w).below hb2
  have hk1 : BkAt (B + 1) 131 (staA 0 0 false) W := by
    have := BkAt.new 131 (staA 0 0 false) (w.alloc (.cells (staA pc p mv) 131))
    rw [← hW, ← hB]; simpa using this
  rw [hW] at hbw
  have hC := h.c.below hbw
  obtain ⟨a0, a1, a2⟩ : W.cell? ⟨B, 0, none⟩ = some (.int .i64 (pc : Int)) ∧ W.cell? ⟨B, 1, none⟩ = some (.int .i64 (p : Int)) ∧ W.cell? ⟨B, 2, none⟩ = some (.bool mv) := ⟨hk0.cell 0, hk0.cell 1, hk0.cell 2⟩
  have hpcn : pc < n := by have := h.c.n; omega
  have hnumC := number_any sb gc c n fr pc p start mv nv tv pv text W hC.s hf (by omega) hn (by omega)
  have HC := Lib.hid (And.intro hC (And.intro hbw (And.intro hk0 (And.intro hk1 (And.intro hx (And.intro hnumC (And.intro h hpcn)))))))
  have HW := Lib.hid (And.intro hW hB)
  clear hW hB hk0 hk1 hC hbw hb1 hb2 hx hnumC h hpcn
  go_enter Try.func64, Try.ntmps64
  go_upto_region 1 with (fail)
  have e := HW.out.1
  unfold staA at e
  rw [show (Value.int .i64 ((0 : Nat) : Int)) = .int .i64 0 from rfl] at e
  rw [show staA pc p mv = #[.int .i64 (pc : Int), .int .i64 (p : Int), .bool mv] from rfl, e, HW.out.2]
  clear e
  go_wp2_with fail
  refine HC.out.2.2.2.2.2.1.mono ?_
  rintro e w1 ⟨rfl, hb1⟩
  obtain ⟨num, hnumE⟩ : ∃ num, numS n fr pc p mv = num := ⟨_, rfl⟩
  rw [hnumE] at hnum ⊢
  have hnew := isNew_any base sb (.slice (some ⟨gc, 0, none⟩) n c) nv tv pv text start fr num f w1 (HC.out.1.s.below hb1) (by
    obtain ⟨m, q1, q2⟩ := HC.out.2.2.2.2.2.2.1.t
    exact ⟨m, row_below q1 (bl_trans' HC.out.2.1 hb1), q2⟩) (by have := HC.out.2.1.size; have := hb1.size; omega) hnum
  have H1 := Lib.hid (And.intro hb1 hnew)
  clear hb1 hnew
  go_wp2_with fail
  refine H1.out.2.mono ?_
  rintro e w2 ⟨tv', rfl, hs2, ht2, hc2⟩
  have hbW1 : Below w.heap.size w w1 := bl_trans' HC.out.2.1 H1.out.1
  have hsz : B + 2 ≤ w1.heap.size := by have := HC.out.2.2.2.1.lt; have := H1.out.1.size; omega
  have hI := HC.out.2.2.2.2.2.2.1
  have htb : ∀ g, tv.ownBlock = some g → base ≤ g ∧ g < w.heap.size := fun g hg => by
    obtain ⟨m, q1, -⟩ := hI.t
    obtain ⟨cur, fz, e, e2⟩ := row_type q1 hg
    exact ⟨e2, (Array.getElem?_eq_some_iff.1 e).1⟩
  have hgcl := hI.c.lt
  have hsbl := hI.c.s.lt
  have hBe := HW.out.2
  have hnP : ∀ b, w.heap.size ≤ b → ¬ (b = sb ∨ tv.ownBlock = some b) := fun b hb2 e => by
    rcases e with e | e
    · omega
    · have := htb b e; omega
  have hgn : ¬ (gc = sb ∨ tv.ownBlock = some gc) := fun e => by
    rcases e with e | e
    · exact hgs e
    · have := htb gc e; omega
  have hk0 := (HC.out.2.2.1.below H1.out.1).ch hc2 (hnP B (by omega))
  have hk1 := (HC.out.2.2.2.1.below H1.out.1).ch hc2 (hnP (B + 1) (by omega))
  have hcw : ChP (fun i => i = sb ∨ tv.ownBlock = some i) w w2 := (ChP.ofBelow hbW1).trans hc2 (fun i _ h => h)
  have hI2 : EnterI base sb gc n c code nv pv text start fr (putT f num) pd tv' w2 :=
    ⟨hI.c.ch hcw hgn hs2, ht2, row_ch hI.p hcw (fun g hg e => by
      rcases e with e | e
      · exact row_ne hI.p hI.c.s (by decide) hg e
      · obtain ⟨m, q1, -⟩ := hI.t
        exact row_two q1 hI.p (by decide) e hg)⟩
  have hcP : ChP (fun i => i = sb ∨ tv.ownBlock = some i ∨ pv.ownBlock = some i) w w2 := hcw.mono (fun i _ h => h.elim .inl (fun q => .inr (.inl q)))
  obtain ⟨has, hhas⟩ : ∃ q, hasT f num = q := ⟨_, rfl⟩
  rw [hhas]
  have hBg : B ≠ gc := by omega
  have hBg1 : B + 1 ≠ gc := by omega
  obtain ⟨g0, g1, g2⟩ : w2.frozen? ⟨B + 1, 0, none⟩ = false ∧ w2.frozen? ⟨B + 1, 1, none⟩ = false ∧ w2.frozen? ⟨B + 1, 2, none⟩ = false := ⟨hk1.free 0, hk1.free 1, hk1.free 2⟩
  obtain ⟨r0, r1, r2⟩ : w2.cell? ⟨B + 1, 0, none⟩ = some (.int .i64 0) ∧ w2.cell? ⟨B + 1, 1, none⟩ = some (.int .i64 0) ∧ w2.cell? ⟨B + 1, 2, none⟩ = some (.bool false) := ⟨hk1.cell 0, hk1.cell 1, hk1.cell 2⟩
  have H2 := Lib.hid (And.intro hI2 (And.intro hcP (And.intro hk0 (And.intro hk1 (And.intro hhas (And.intro hBe (And.intro hBg hBg1)))))))
  clear hI2 hcP hk0 hk1 hhas hBe hBg hBg1 hcw hgn hnP hgcl hsbl htb hI hs2 ht2 hc2 hsz hbW1 a0 a1 a2
  cases has with
  | true =>
    go_wp2_with fail
    obtain ⟨hI2, hcP, hk0, hk1, hhas, hBe, hBg, hBg1⟩ := H2.out
    have hE1 := (hI2.set hk1 hBg1 0 (.int .i64 0)).set (hk1.set 0 (.int .i64 0)) hBg1 1 (.int .i64 0)
    have hE := hE1.set ((hk1.set 0 (.int .i64 0)).set 1 (.int .i64 0)) hBg1 2 (.bool false)
    have hkE : BkAt (B + 1) 131 (staA 0 0 false) _ := ((hk1.set 0 (.int .i64 0)).set 1 (.int .i64 0)).set 2 (.bool false)
    have hcE := ((hcP.setNew (B + 1) 0 (.int .i64 0) (.inr (by omega))).setNew (B + 1) 1 (.int .i64 0) (.inr (by omega))).setNew (B + 1) 2 (.bool false) (.inr (by omega))
    refine bodyPost_ret (results_cell_row2 rfl _ _ (B + 1) 131 (staA 0 0 false) (0, 0) _ rfl hkE Try.underlying131 rfl sizeSt) rfl ?_
    refine ⟨tv', pv, ?_, hcE, ?_⟩
    · rw [hnumE, hhas, if_pos rfl]; exact hE
    · rw [hnumE, hhas, if_pos rfl]; rfl
  | false =>
    have hk0 := H2.out.2.2.1
    obtain ⟨a0, a1, a2⟩ : w2.cell? ⟨B, 0, none⟩ = some (.int .i64 (pc : Int)) ∧ w2.cell? ⟨B, 1, none⟩ = some (.int .i64 (p : Int)) ∧ w2.cell? ⟨B, 2, none⟩ = some (.bool mv) := ⟨hk0.cell 0, hk0.cell 1, hk0.cell 2⟩
    have s0 : w2.cell? ⟨sb, 0, none⟩ = some (.slice (some ⟨gc, 0, none⟩) n c) := H2.out.1.c.s.cell 0
    have k0 : w2.cell? ⟨gc, pc * 8, none⟩ = some (.int .i64 (x.op : Int)) := H2.out.1.c.c pc hpc 0 _ (by rw [HC.out.2.2.2.2.1]; rfl)
    have i0 : (0 : Int) ≤ (pc : Int) := by omega
    have i1 : (pc : Int) < (n : Int) := by have := HC.out.2.2.2.2.2.2.2; omega
    clear hk0
    go_wp2_with fail
    go_quiet (fail)
    obtain ⟨m1, hm1⟩ : ∃ k, nq = k := ⟨_, rfl⟩
    rw [hm1]
    clear hm1
    clear nq
    obtain ⟨y, hy⟩ : ∃ y : Int, (x.op : Int) = y := ⟨_, rfl⟩
    rw [hy] at k0 ⊢
    by_cases hpush : x.op = 6 ∨ x.op = 7
    · have hwi : IntKind.i32.wrap (num : Int) = (num : Int) := by rw [IntKind.wrap_i32]; omega
      have HN := Lib.hid (And.intro hpush hy)
      obtain ⟨i, hi, hz, hs1, hs2⟩ := info_parts infoI32
      have s6 : w2.cell? ⟨sb, 6, none⟩ = some pv := H2.out.1.c.s.cell 6
      have f6 : w2.frozen? ⟨sb, 6, none⟩ = false := H2.out.1.c.s.free 6
      obtain ⟨pa, pc2, rfl⟩ : ∃ a c, pv = .slice a pd.length c := by
        rcases row_form H2.out.1.p with ⟨rfl, h0⟩ | ⟨g, c, rfl, -⟩
        · exact ⟨_, _, by rw [h0]⟩
        · exact ⟨_, _, rfl⟩
      have hd : Below w2.heap.size w2 (w2.drewN m1) := ⟨rfl, rfl, rfl, Nat.le_refl _, fun _ _ => rfl⟩
      have hbb : base ≤ w2.heap.size := by have := H2.out.2.1.size; omega
      have hy67 : y = 6 ∨ y = 7 := by omega
      clear hpush hy
      have hgo : ∀ a : Nat, True := fun _ => trivial
      clear hgo
      rcases hy67 with rfl | rfl
      · go_wp2_with (at_builtin; refine wpList_append_own _ rfl (.tmp 36) (.tmp 39) 119 rfl base 21 i (.int .i32 0) 1 4 Try.underlying119 hi hz hs1 hs2 rfl (by decide) _ _ _ rfl ((row_below H2.out.1.p hd).alloc _) ⟨w2.heap.size, 0, none⟩ 1 1 [.int .i32 (num : Int)] rfl rfl ?c1 ?c2 ?c3 ?c4 ?c5 ?_)
        case c1 =>
          intro j u hu
          have hj : j = 0 := by have := (List.getElem?_eq_some_iff.1 hu).1; simpa using this
          subst hj
          rw [Addr.add_lit]
          exact (Lib.cell_of_heap (heap_alloc_new (w2.drewN m1) _) 0).trans hu
        case c2 => intro u hu; simp only [List.mem_singleton] at hu; subst hu; rfl
        case c3 => simp only [maxLen]; omega
        case c4 => omega
        case c5 => exact Nat.le_trans hbb (by show w2.heap.size ≤ _; simp [World.drewN])
        intro v3 w3 hrow3 hg3 _
        obtain ⟨ga, gm, gcp, rfl⟩ := row_slice hrow3
        have hI2 := H2.out.1
        have hPx : ∀ g, (Value.slice pa pd.length pc2).ownBlock = some g → base ≤ g ∧ g < w.heap.size := fun g hg => by
          obtain ⟨cur, fz, e, e2⟩ := row_type HC.out.2.2.2.2.2.2.1.p hg
          exact ⟨e2, (Array.getElem?_eq_some_iff.1 e).1⟩
        have hch : ChP (fun i => (Value.slice pa pd.length pc2).ownBlock = some i) w2 w3 := (ChP.ofBelow (hd.trans (World.grownBy_alloc _ _ none |> fun q => (⟨q.os, q.tape, q.output, q.size, fun k hk => q.block k hk (by simp)⟩ : Below (w2.drewN m1).heap.size (w2.drewN m1) _)))).trans (ChP.grown hg3) (fun i _ h => h)
        have hs3 : BkAt sb 121 (srA (.slice (some ⟨gc, 0, none⟩) n c) nv tv' (.slice pa pd.length pc2) text start fr) w3 := hI2.c.s.ch hch (fun e => row_ne hI2.p hI2.c.s (by decide) e rfl)
        have hs4 : BkAt sb 121 (srA (.slice (some ⟨gc, 0, none⟩) n c) nv tv' (.slice ga gm gcp) text start fr) (w3.setCell ⟨sb, 6, none⟩ (.slice ga gm gcp)) := hs3.set 6 _
        obtain ⟨-, hcP, hk0, hk1, hhas, hBe, hBg, hBg1⟩ := H2.out
        have hch4 : ChP (fun i => i = sb ∨ (Value.slice pa pd.length pc2).ownBlock = some i) w2 (w3.setCell ⟨sb, 6, none⟩ (.slice ga gm gcp)) := (hch.mono (fun i _ h => .inr h)).set sb 6 _ (.inl rfl)
        have hI4 : EnterI base sb gc n c code nv (.slice ga gm gcp) text start fr (putT f num) (pd ++ [num]) tv' (w3.setCell ⟨sb, 6, none⟩ (.slice ga gm gcp)) := by
          refine ⟨hI2.c.ch hch4 (fun e => ?_) hs4, ?_, ?_⟩
          · rcases e with e | e
            · exact hgs e
            · have := hPx gc e; omega
          · obtain ⟨m, t1, t2⟩ := hI2.t
            exact ⟨m, row_ch t1 hch4 (fun g hg e => by
              rcases e with e | e
              · exact row_ne t1 hI2.c.s (by decide) hg e
              · exact row_two t1 hI2.p (by decide) hg e), t2⟩
          · have h5 := ownsRow_setCell_other hrow3 (a := ⟨sb, 6, none⟩) (fun e => row_ne hrow3 hs3 (by decide) e rfl) (.slice ga gm gcp)
            unfold PdAt
            rw [List.map_append, List.length_append]
            exact h5
        have hcw4 := hcP.trans hch4 (fun i _ h => h.elim .inl (fun q => .inr (.inr q)))
        have hk04 := hk0.ch hch4 (fun e => by
          rcases e with e | e
          · have := HC.out.2.2.2.2.2.2.1.c.s.lt; omega
          · have := hPx B e; omega)
        have hk14 := hk1.ch hch4 (fun e => by
          rcases e with e | e
          · have := HC.out.2.2.2.2.2.2.1.c.s.lt; omega
          · have := hPx (B + 1) e; omega)
        have s63 : w3.cell? ⟨sb, 6, none⟩ = some (.slice pa pd.length pc2) := hs3.cell 6
        have f63 : w3.frozen? ⟨sb, 6, none⟩ = false := hs3.free 6
        have H4 := Lib.hid (And.intro hI4 (And.intro hcw4 (And.intro hk04 hk14)))
        clear hI4 hcw4 hk04 hk14 hch4 hs4 hs3 hch hPx hI2 hcP hk0 hk1 hhas hBe hBg hBg1 hrow3 hg3 s6 f6 hd hbb hi hz hs1 hs2 hwi g0 g1 g2 r0 r1 r2 a0 a1 a2 s0 k0
        go_upto_region 7 with (fail)
        obtain ⟨W4, hW4⟩ : ∃ W, w3.setCell ⟨sb, 6, none⟩ (.slice ga gm gcp) = W := ⟨_, rfl⟩
        rw [hW4] at H4 ⊢
        clear hW4 s63 f63
        have hk04 := H4.out.2.2.1
        have hstep := step_any sb gc n c pc p start fr mv code nv tv' (.slice ga gm gcp) text W4 H4.out.1.c hpc ht hp
        rw [HC.out.2.2.2.2.1] at hstep
        obtain ⟨a0, a1, a2⟩ : W4.cell? ⟨B, 0, none⟩ = some (.int .i64 (pc : Int)) ∧ W4.cell? ⟨B, 1, none⟩ = some (.int .i64 (p : Int)) ∧ W4.cell? ⟨B, 2, none⟩ = some (.bool mv) := ⟨hk04.cell 0, hk04.cell 1, hk04.cell 2⟩
        have HS := Lib.hid hstep
        clear hstep hk04
        go_wp2_with fail
        refine HS.out.mono ?_
        rintro e w5 ⟨rfl, hb5⟩
        have hk5 := H4.out.2.2.2.below hb5
        obtain ⟨g0, g1, g2⟩ : w5.frozen? ⟨B + 1, 0, none⟩ = false ∧ w5.frozen? ⟨B + 1, 1, none⟩ = false ∧ w5.frozen? ⟨B + 1, 2, none⟩ = false := ⟨hk5.free 0, hk5.free 1, hk5.free 2⟩
        obtain ⟨r0, r1, r2⟩ : w5.cell? ⟨B + 1, 0, none⟩ = some (.int .i64 0) ∧ w5.cell? ⟨B + 1, 1, none⟩ = some (.int .i64 0) ∧ w5.cell? ⟨B + 1, 2, none⟩ = some (.bool false) := ⟨hk5.cell 0, hk5.cell 1, hk5.cell 2⟩
        have H5 := Lib.hid (And.intro hb5 hk5)
        clear hb5 hk5 a0 a1 a2
        rw [show staA x.next (atS x p) (mvS x mv) = #[.int .i64 (x.next : Int), .int .i64 (atS x p : Int), .bool (mvS x mv)] from rfl]
        go_wp2_with fail
        obtain ⟨-, -, -, -, hhas, hBe, hBg, hBg1⟩ := H2.out
        obtain ⟨hb5, hk5⟩ := H5.out
        have hI5 := H4.out.1.below hb5
        have hE1 := (hI5.set hk5 hBg1 0 (.int .i64 (x.next : Int))).set (hk5.set 0 (.int .i64 (x.next : Int))) hBg1 1 (.int .i64 (atS x p : Int))
        have hE := hE1.set ((hk5.set 0 (.int .i64 (x.next : Int))).set 1 (.int .i64 (atS x p : Int))) hBg1 2 (.bool (mvS x mv))
        have hkE : BkAt (B + 1) 131 (staA x.next (atS x p) (mvS x mv)) _ := ((hk5.set 0 (.int .i64 (x.next : Int))).set 1 (.int .i64 (atS x p : Int))).set 2 (.bool (mvS x mv))
        have hcE := (((H4.out.2.1.below hb5).setNew (B + 1) 0 (.int .i64 (x.next : Int)) (.inr (by omega))).setNew (B + 1) 1 (.int .i64 (atS x p : Int)) (.inr (by omega))).setNew (B + 1) 2 (.bool (mvS x mv)) (.inr (by omega))
        refine bodyPost_ret (results_cell_row2 rfl _ _ (B + 1) 131 (staA x.next (atS x p) (mvS x mv)) (0, 0) _ rfl hkE Try.underlying131 rfl sizeSt) rfl ?_
        refine ⟨tv', .slice ga gm gcp, ?_, hcE, ?_⟩
        · rw [hnumE, hhas, if_neg (by decide)]
          unfold pushS
          rw [if_pos HN.out.1]
          exact hE
        · rw [hnumE, hhas, if_neg (by decide)]; rfl
      · have d6 : ((7 : Int) == 6) = false := rfl
        go_wp2_with (at_builtin; refine wpList_append_own _ rfl (.tmp 36) (.tmp 39) 119 rfl base 21 i (.int .i32 0) 1 4 Try.underlying119 hi hz hs1 hs2 rfl (by decide) _ _ _ rfl ((row_below H2.out.1.p hd).alloc _) ⟨w2.heap.size, 0, none⟩ 1 1 [.int .i32 (num : Int)] rfl rfl ?c1 ?c2 ?c3 ?c4 ?c5 ?_)
        case c1 =>
          intro j u hu
          have hj : j = 0 := by have := (List.getElem?_eq_some_iff.1 hu).1; simpa using this
          subst hj
          rw [Addr.add_lit]
          exact (Lib.cell_of_heap (heap_alloc_new (w2.drewN m1) _) 0).trans hu
        case c2 => intro u hu; simp only [List.mem_singleton] at hu; subst hu; rfl
        case c3 => simp only [maxLen]; omega
        case c4 => omega
        case c5 => exact Nat.le_trans hbb (by show w2.heap.size ≤ _; simp [World.drewN])
        intro v3 w3 hrow3 hg3 _
        obtain ⟨ga, gm, gcp, rfl⟩ := row_slice hrow3
        have hI2 := H2.out.1
        have hPx : ∀ g, (Value.slice pa pd.length pc2).ownBlock = some g → base ≤ g ∧ g < w.heap.size := fun g hg => by
          obtain ⟨cur, fz, e, e2⟩ := row_type HC.out.2.2.2.2.2.2.1.p hg
          exact ⟨e2, (Array.getElem?_eq_some_iff.1 e).1⟩
        have hch : ChP (fun i => (Value.slice pa pd.length pc2).ownBlock = some i) w2 w3 := (ChP.ofBelow (hd.trans (World.grownBy_alloc _ _ none |> fun q => (⟨q.os, q.tape, q.output, q.size, fun k hk => q.block k hk (by simp)⟩ : Below (w2.drewN m1).heap.size (w2.drewN m1) _)))).trans (ChP.grown hg3) (fun i _ h => h)
        have hs3 : BkAt sb 121 (srA (.slice (some ⟨gc, 0, none⟩) n c) nv tv' (.slice pa pd.length pc2) text start fr) w3 := hI2.c.s.ch hch (fun e => row_ne hI2.p hI2.c.s (by decide) e rfl)
        have hs4 : BkAt sb 121 (srA (.slice (some ⟨gc, 0, none⟩) n c) nv tv' (.slice ga gm gcp) text start fr) (w3.setCell ⟨sb, 6, none⟩ (.slice ga gm gcp)) := hs3.set 6 _
        obtain ⟨-, hcP, hk0, hk1, hhas, hBe, hBg, hBg1⟩ := H2.out
        have hch4 : ChP (fun i => i = sb ∨ (Value.slice pa pd.length pc2).ownBlock = some i) w2 (w3.setCell ⟨sb, 6, none⟩ (.slice ga gm gcp)) := (hch.mono (fun i _ h => .inr h)).set sb 6 _ (.inl rfl)
        have hI4 : EnterI base sb gc n c code nv (.slice ga gm gcp) text start fr (putT f num) (pd ++ [num]) tv' (w3.setCell ⟨sb, 6, none⟩ (.slice ga gm gcp)) := by
          refine ⟨hI2.c.ch hch4 (fun e => ?_) hs4, ?_, ?_⟩
          · rcases e with e | e
            · exact hgs e
            · have := hPx gc e; omega
          · obtain ⟨m, t1, t2⟩ := hI2.t
            exact ⟨m, row_ch t1 hch4 (fun g hg e => by
              rcases e with e | e
              · exact row_ne t1 hI2.c.s (by decide) hg e
              · exact row_two t1 hI2.p (by decide) hg e), t2⟩
          · have h5 := ownsRow_setCell_other hrow3 (a := ⟨sb, 6, none⟩) (fun e => row_ne hrow3 hs3 (by decide) e rfl) (.slice ga gm gcp)
            unfold PdAt
            rw [List.map_append, List.length_append]
            exact h5
        have hcw4 := hcP.trans hch4 (fun i _ h => h.elim .inl (fun q => .inr (.inr q)))
        have hk04 := hk0.ch hch4 (fun e => by
          rcases e with e | e
          · have := HC.out.2.2.2.2.2.2.1.c.s.lt; omega
          · have := hPx B e; omega)
        have hk14 := hk1.ch hch4 (fun e => by
          rcases e with e | e
          · have := HC.out.2.2.2.2.2.2.1.c.s.lt; omega
          · have := hPx (B + 1) e; omega)
        have s63 : w3.cell? ⟨sb, 6, none⟩ = some (.slice pa pd.length pc2) := hs3.cell 6
        have f63 : w3.frozen? ⟨sb, 6, none⟩ = false := hs3.free 6
        have H4 := Lib.hid (And.intro hI4 (And.intro hcw4 (And.intro hk04 hk14)))
        clear hI4 hcw4 hk04 hk14 hch4 hs4 hs3 hch hPx hI2 hcP hk0 hk1 hhas hBe hBg hBg1 hrow3 hg3 s6 f6 hd hbb hi hz hs1 hs2 hwi g0 g1 g2 r0 r1 r2 a0 a1 a2 s0 k0
        go_upto_region 7 with (fail)
        obtain ⟨W4, hW4⟩ : ∃ W, w3.setCell ⟨sb, 6, none⟩ (.slice ga gm gcp) = W := ⟨_, rfl⟩
        rw [hW4] at H4 ⊢
        clear hW4 s63 f63
        have hk04 := H4.out.2.2.1
        have hstep := step_any sb gc n c pc p start fr mv code nv tv' (.slice ga gm gcp) text W4 H4.out.1.c hpc ht hp
        rw [HC.out.2.2.2.2.1] at hstep
        obtain ⟨a0, a1, a2⟩ : W4.cell? ⟨B, 0, none⟩ = some (.int .i64 (pc : Int)) ∧ W4.cell? ⟨B, 1, none⟩ = some (.int .i64 (p : Int)) ∧ W4.cell? ⟨B, 2, none⟩ = some (.bool mv) := ⟨hk04.cell 0, hk04.cell 1, hk04.cell 2⟩
        have HS := Lib.hid hstep
        clear hstep hk04
        go_wp2_with fail
        refine HS.out.mono ?_
        rintro e w5 ⟨rfl, hb5⟩
        have hk5 := H4.out.2.2.2.below hb5
        obtain ⟨g0, g1, g2⟩ : w5.frozen? ⟨B + 1, 0, none⟩ = false ∧ w5.frozen? ⟨B + 1, 1, none⟩ = false ∧ w5.frozen? ⟨B + 1, 2, none⟩ = false := ⟨hk5.free 0, hk5.free 1, hk5.free 2⟩
        obtain ⟨r0, r1, r2⟩ : w5.cell? ⟨B + 1, 0, none⟩ = some (.int .i64 0) ∧ w5.cell? ⟨B + 1, 1, none⟩ = some (.int .i64 0) ∧ w5.cell? ⟨B + 1, 2, none⟩ = some (.bool false) := ⟨hk5.cell 0, hk5.cell 1, hk5.cell 2⟩
        have H5 := Lib.hid (And.intro hb5 hk5)
        clear hb5 hk5 a0 a1 a2
        rw [show staA x.next (atS x p) (mvS x mv) = #[.int .i64 (x.next : Int), .int .i64 (atS x p : Int), .bool (mvS x mv)] from rfl]
        go_wp2_with fail
        obtain ⟨-, -, -, -, hhas, hBe, hBg, hBg1⟩ := H2.out
        obtain ⟨hb5, hk5⟩ := H5.out
        have hI5 := H4.out.1.below hb5
        have hE1 := (hI5.set hk5 hBg1 0 (.int .i64 (x.next : Int))).set (hk5.set 0 (.int .i64 (x.next : Int))) hBg1 1 (.int .i64 (atS x p : Int))
        have hE := hE1.set ((hk5.set 0 (.int .i64 (x.next : Int))).set 1 (.int .i64 (atS x p : Int))) hBg1 2 (.bool (mvS x mv))
        have hkE : BkAt (B + 1) 131 (staA x.next (atS x p) (mvS x mv)) _ := ((hk5.set 0 (.int .i64 (x.next : Int))).set 1 (.int .i64 (atS x p : Int))).set 2 (.bool (mvS x mv))
        have hcE := (((H4.out.2.1.below hb5).setNew (B + 1) 0 (.int .i64 (x.next : Int)) (.inr (by omega))).setNew (B + 1) 1 (.int .i64 (atS x p : Int)) (.inr (by omega))).setNew (B + 1) 2 (.bool (mvS x mv)) (.inr (by omega))
        refine bodyPost_ret (results_cell_row2 rfl _ _ (B + 1) 131 (staA x.next (atS x p) (mvS x mv)) (0, 0) _ rfl hkE Try.underlying131 rfl sizeSt) rfl ?_
        refine ⟨tv', .slice ga gm gcp, ?_, hcE, ?_⟩
        · rw [hnumE, hhas, if_neg (by decide)]
          unfold pushS
          rw [if_pos HN.out.1]
          exact hE
        · rw [hnumE, hhas, if_neg (by decide)]; rfl
    · have d6 : (y == 6) = false := by rw [beq_eq_false_iff_ne]; omega
      have d7 : (y == 7) = false := by rw [beq_eq_false_iff_ne]; omega
      have q6 : decide (y = 6) = false := decide_eq_false (by omega)
      have q7 : decide (y = 7) = false := decide_eq_false (by omega)
      have HN := Lib.hid (And.intro hpush hy)
      clear hpush hy
      have hd : Below w2.heap.size w2 (w2.drewN m1) := ⟨rfl, rfl, rfl, Nat.le_refl _, fun _ _ => rfl⟩
      have hstep := step_any sb gc n c pc p start fr mv code nv tv' pv text (w2.drewN m1) (H2.out.1.c.below hd) hpc ht hp
      rw [HC.out.2.2.2.2.1] at hstep
      have HS := Lib.hid hstep
      clear hstep hd
      go_wp2_with fail
      refine HS.out.mono ?_
      rintro e w3 ⟨rfl, hb3⟩
      have hb23 : Below w2.heap.size w2 w3 := bl_trans' (⟨rfl, rfl, rfl, Nat.le_refl _, fun _ _ => rfl⟩ : Below w2.heap.size w2 (w2.drewN m1)) hb3
      have hk3 := H2.out.2.2.2.1.below hb23
      obtain ⟨g0, g1, g2⟩ : w3.frozen? ⟨B + 1, 0, none⟩ = false ∧ w3.frozen? ⟨B + 1, 1, none⟩ = false ∧ w3.frozen? ⟨B + 1, 2, none⟩ = false := ⟨hk3.free 0, hk3.free 1, hk3.free 2⟩
      obtain ⟨r0, r1, r2⟩ : w3.cell? ⟨B + 1, 0, none⟩ = some (.int .i64 0) ∧ w3.cell? ⟨B + 1, 1, none⟩ = some (.int .i64 0) ∧ w3.cell? ⟨B + 1, 2, none⟩ = some (.bool false) := ⟨hk3.cell 0, hk3.cell 1, hk3.cell 2⟩
      have H3 := Lib.hid (And.intro hb23 hk3)
      clear hb3 hb23 hk3 a0 a1 a2 s0 k0
      rw [show staA x.next (atS x p) (mvS x mv) = #[.int .i64 (x.next : Int), .int .i64 (atS x p : Int), .bool (mvS x mv)] from rfl]
      go_wp2_with fail
      obtain ⟨hI2, hcP, -, -, hhas, hBe, hBg, hBg1⟩ := H2.out
      obtain ⟨hb23, hk3⟩ := H3.out
      have hI3 := hI2.below hb23
      have hE1 := (hI3.set hk3 hBg1 0 (.int .i64 (x.next : Int))).set (hk3.set 0 (.int .i64 (x.next : Int))) hBg1 1 (.int .i64 (atS x p : Int))
      have hE := hE1.set ((hk3.set 0 (.int .i64 (x.next : Int))).set 1 (.int .i64 (atS x p : Int))) hBg1 2 (.bool (mvS x mv))
      have hkE : BkAt (B + 1) 131 (staA x.next (atS x p) (mvS x mv)) _ := ((hk3.set 0 (.int .i64 (x.next : Int))).set 1 (.int .i64 (atS x p : Int))).set 2 (.bool (mvS x mv))
      have hcE := (((hcP.below hb23).setNew (B + 1) 0 (.int .i64 (x.next : Int)) (.inr (by omega))).setNew (B + 1) 1 (.int .i64 (atS x p : Int)) (.inr (by omega))).setNew (B + 1) 2 (.bool (mvS x mv)) (.inr (by omega))
      refine bodyPost_ret (results_cell_row2 rfl _ _ (B + 1) 131 (staA x.next (atS x p) (mvS x mv)) (0, 0) _ rfl hkE Try.underlying131 rfl sizeSt) rfl ?_
      refine ⟨tv', pv, ?_, hcE, ?_⟩
      · rw [hnumE, hhas, if_neg (by decide)]
        unfold pushS
        rw [if_neg HN.out.1]
        exact hE
      · rw [hnumE, hhas, if_neg (by decide)]; rfl
end Go.Proofs.Ytfkgicakiapmaaa
