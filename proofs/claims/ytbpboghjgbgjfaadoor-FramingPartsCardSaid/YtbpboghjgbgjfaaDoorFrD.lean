/- The contract of the generator that package framing's Frame ranges over: it yields the records of the lines, in order. -/
import Derived.Test.YtbpboghjgbgjfaaDoorFrC
import Derived.Test.YtbpboghjgbgjfaaDoorSpF
import Derived.Deep.RegionHeld3
namespace Go.Proofs.YtbpboghjgbgjfaaDoor
open Go.RowKit Go.Shelf
attribute [local go_sem] Oper.semAt_some

abbrev SegF (l : List UInt8) := { s : Nat × Nat // s.1 ≤ s.2 ∧ s.2 ≤ l.length }
def lnEnc (l : List UInt8) (off lim : Int) (x : SegF l) : Array Value := #[.agg (frA (off + (x.1.1 : Int)) (pcL l x.1) lim)]
/-- The boxes of the generator's captured variables. -/
structure BxF (B0 B1 B2 : Nat) (dv : Value) (off lim : Int) (W : World) : Prop where
  b0 : Boxed W B0 22 dv
  b1 : Boxed W B1 3 (.int .i64 off)
  b2 : Boxed W B2 3 (.int .i64 lim)
/-- What the body of a round leaves: what lay below n, the boxes, and the rows of spans. -/
def KeepF (n B0 B1 B2 : Nat) (W W' : World) : Prop :=
  Below n W W' ∧ (W'.heap[B0]? = W.heap[B0]? ∧ W'.heap[B1]? = W.heap[B1]? ∧ W'.heap[B2]? = W.heap[B2]?) ∧ ∀ (k : Nat) (cs : Array Value) (fr : Nat × Nat), W.heap[k]? = some (Obj.cells cs 56 fr) → W'.heap[k]? = some (Obj.cells cs 56 fr)
theorem KeepF.t {n B0 B1 B2 : Nat} {A B C : World} (h : KeepF n B0 B1 B2 A B) (k : KeepF n B0 B1 B2 B C) : KeepF n B0 B1 B2 A C :=
  ⟨h.1.trans k.1, ⟨k.2.1.1.trans h.2.1.1, k.2.1.2.1.trans h.2.1.2.1, k.2.1.2.2.trans h.2.1.2.2⟩, fun i cs fr hi => k.2.2 i cs fr (h.2.2 i cs fr hi)⟩
theorem KeepF.b {n B0 B1 B2 : Nat} {w : World} (hn : n ≤ w.heap.size) (h0 : B0 < w.heap.size) (h1 : B1 < w.heap.size) (h2 : B2 < w.heap.size) (W : World) (l : Nat) (o o' : Obj) (hl : w.heap.size ≤ l) (h : W.heap[l]? = some o) (hc : o.isCells = false) (hw : o.isWalk = false) : KeepF n B0 B1 B2 W (W.putObj l o') :=
  ⟨belowK_b hn W l o o' hl h hc hw, ⟨World.putObj_heap_other (by omega), World.putObj_heap_other (by omega), World.putObj_heap_other (by omega)⟩, fun k cs fr hk => by
    rw [World.putObj_heap_other (fun e => by subst e; rw [h] at hk; cases hk; cases hc)]
    exact hk⟩
theorem KeepF.refl {n B0 B1 B2 : Nat} (W : World) : KeepF n B0 B1 B2 W W := ⟨Below.refl _ _, ⟨rfl, rfl, rfl⟩, fun _ _ _ h => h⟩
theorem BxF.keep {n B0 B1 B2 : Nat} {dv : Value} {off lim : Int} {W W' : World} (h : BxF B0 B1 B2 dv off lim W) (k : KeepF n B0 B1 B2 W W') : BxF B0 B1 B2 dv off lim W' :=
  ⟨k.2.1.1.trans h.b0, k.2.1.2.1.trans h.b1, k.2.1.2.2.trans h.b2⟩
theorem BxF.below {B0 B1 B2 : Nat} {dv : Value} {off lim : Int} {W W' : World} (h : BxF B0 B1 B2 dv off lim W) (k : Below W.heap.size W W') : BxF B0 B1 B2 dv off lim W' :=
  ⟨(k.block _ h.b0.lt).trans h.b0, (k.block _ h.b1.lt).trans h.b1, (k.block _ h.b2.lt).trans h.b2⟩
/-- A row of spans, as the rounds leave it. -/
theorem row_keepF {n B0 B1 B2 base : Nat} {v : Value} {m : Nat} {xs : List Value} {W W' : World} (h : W.ownsRow base 56 2 v m xs) (k : KeepF n B0 B1 B2 W W') : W'.ownsRow base 56 2 v m xs := by
  refine ⟨h.1, ?_⟩
  rcases h.2 with q | ⟨g, cap, cur, q1, q2, q3, q4, q5, q6⟩
  · exact .inl q
  · exact .inr ⟨g, cap, cur, q1, q2, k.2.2 g _ _ q3, q4, q5, q6⟩

theorem lines_seq (a : Option Addr) (n c : Nat) (off lim : Int) (w : World) :
    Calls Tryd.prog 23 #[.slice a n c, .int .i64 off, .int .i64 lim] w fun e w' =>
      e = .returned (.func (.func 33) #[] #[.pointer (some ⟨w.heap.size, 0, none⟩), .pointer (some ⟨w.heap.size + 1, 0, none⟩), .pointer (some ⟨w.heap.size + 1 + 1, 0, none⟩)]) ∧ BxF w.heap.size (w.heap.size + 1) (w.heap.size + 1 + 1) (.slice a n c) off lim w' ∧ Below w.heap.size w w' ∧ w'.heap.size = w.heap.size + 3 := by
  go_enter Tryd.func23, Tryd.ntmps23
  go_wp2
  go_ret
  have h0 := Boxed.new w 22 (.slice a n c)
  have h1 := Boxed.new (w.alloc (.cells #[.slice a n c] 22)) 3 (.int .i64 off)
  have h2 := Boxed.new ((w.alloc (.cells #[.slice a n c] 22)).alloc (.cells #[.int .i64 off] 3)) 3 (.int .i64 lim)
  simp only [World.size_alloc] at h1 h2
  exact ⟨by simp, ⟨(h0.alloc _).alloc _, h1.alloc _, h2⟩, (((Below.refl _ w).alloc (Nat.le_refl _) _).alloc (by simp) _).alloc (by simp; omega) _, by simp⟩

theorem bel5 {w w' : World} {v0 v1 v2 v3 v4 : Value} (h : Below w.heap.size w w') : Below w.heap.size w (((((w'.setCell ⟨w.heap.size, 0, none⟩ v0).setCell ⟨w.heap.size, 1, none⟩ v1).setCell ⟨w.heap.size, 2, none⟩ v2).setCell ⟨w.heap.size, 3, none⟩ v3).setCell ⟨w.heap.size, 4, none⟩ v4) :=
  ((((h.setCell (p := ⟨w.heap.size, 0, none⟩) (Nat.le_refl _) _).setCell (p := ⟨w.heap.size, 1, none⟩) (Nat.le_refl _) _).setCell (p := ⟨w.heap.size, 2, none⟩) (Nat.le_refl _) _).setCell (p := ⟨w.heap.size, 3, none⟩) (Nat.le_refl _) _).setCell (p := ⟨w.heap.size, 4, none⟩) (Nat.le_refl _) _
/-- What stands behind a region whose last slot holds a block. -/
def AfterR (a0 : Nat → Act) (R : Nat → World → Prop) : Exit → Act → World → Prop
  | .normal, a, W => ∃ b, a = a0 b ∧ R b W
  | _, _, _ => False
set_option maxRecDepth 100000 in
set_option maxHeartbeats 4000000 in
theorem lines1_in (n : Nat) (hn : 1 ≤ n) (lp B0 B1 B2 o : Nat) (a : Option Addr) (c : Nat) (L l : List UInt8) (hl : L.drop o = l) (lim : Int) (hL : L.length ≤ 2097152) (ho : o ≤ L.length) (w0 : World) (hT : Tabs w0) (hS : BySl w0 (.slice a L.length c) L)
    (J Jx : List (SegF l) → World → Prop)
    (hY : ∀ pre x W, J pre W → pre.length < L.length + 1 → YieldAt Fence.wide (n - 1) Tryd.prog lp (lnEnc l (o : Int) lim x) W fun e W' =>
      (e = .returned (.bool true) ∧ J (pre ++ [x]) W' ∧ KeepF w0.heap.size B0 B1 B2 W W') ∨ (e = .returned (.bool false) ∧ Jx (pre ++ [x]) W'))
    (W : World) (hW : Below w0.heap.size w0 W) (hbox : BxF B0 B1 B2 (.slice a L.length c) (o : Int) lim W) (hJ : AbidesFrom W.heap.size J) (h0 : J [] W) :
    CallsIn Fence.wide n Tryd.prog 33 #[.func (.yield lp) #[] #[], .pointer (some ⟨B0, 0, none⟩), .pointer (some ⟨B1, 0, none⟩), .pointer (some ⟨B2, 0, none⟩)] W fun e W' => (∃ v, e = .returned v) ∧
      ((∃ ys : List (SegF l), ys.map (·.1) = spK l l.length ∧ J ys W') ∨ (∃ pre, True ∧ Jx pre W')) := by
  refine callsIn_of_wp Tryd.func33 rfl trivial ?_ rfl
  simp only [Tryd.ntmps33, List.size_toArray, List.length_cons, List.length_nil, Nat.reduceAdd, Nat.reduceSub, Array.replicate_succ, Array.replicate_zero, List.push_toArray, List.append_toArray, List.nil_append, List.cons_append]
  have c0 := hbox.b0.cell
  have c1 := hbox.b1.cell
  have hc : L.length ≤ c := by obtain ⟨a2, c2, e, h1, -⟩ := hS; cases e; exact h1
  have hsl := fun W => run_from a L.length c o ho W
  have hW' : Below w0.heap.size w0 W := hW
  have hby := hS.rest o ho
  have hrl : (L.drop o).length = L.length - o := List.length_drop ..
  rw [hl] at hby hrl
  have hln := linesP_any _ l W (hby.below hW') (by omega)
  obtain ⟨sa, hsa⟩ : ∃ sa, subA a c o = sa := ⟨_, rfl⟩
  obtain ⟨sn, hsn⟩ : ∃ sn, L.length - o = sn := ⟨_, rfl⟩
  obtain ⟨cn, hcn⟩ : ∃ cn, c - o = cn := ⟨_, rfl⟩
  rw [hsa, hsn, hcn] at hby hln
  simp only [hsa, hsn, hcn] at hsl
  have hsn2 : l.length = sn := by omega
  have hscn : sn ≤ cn := by omega
  have hsnb : sn ≤ 2097152 := by omega
  have H := Lib.hid (And.intro hln (And.intro hJ (And.intro hY (And.intro hT (And.intro hsn2 (And.intro hrl (And.intro hbox (And.intro hby (And.intro hW' h0)))))))))
  have hob : (o : Int) ≤ 2097152 := by omega
  clear hln hJ hY hT hS hrl hby hbox hl hsa hsn hcn hsn2 hL ho hc hW hW' h0
  gi_wp2_with (refine ⟨trivial, ?_⟩; gi_at_call 34; refine (callsIn_wide.2 H.out.1).mono ?_)
  rintro e w1 ⟨⟨v, rfl, hr⟩, hb1⟩
  obtain ⟨g0, sc, rfl, hsc, -⟩ := sp_form hr
  obtain ⟨sp, hsp⟩ : ∃ sp, spK l l.length = sp := ⟨_, rfl⟩
  rw [hsp] at hr hsc ⊢
  obtain ⟨N, hN⟩ : ∃ N, sp.length = N := ⟨_, rfl⟩
  rw [hN] at hr hsc ⊢
  have hNb : N ≤ sn := by rw [← hN, ← hsp, ← H.out.2.2.2.2.1]; exact spK_len _ _
  have h1 : J [] w1 := H.out.2.1 [] W w1 none H.out.2.2.2.2.2.2.2.2.2 (grown_of_below hb1 none) (fun r e => by cases e)
  have hx1 := H.out.2.2.2.2.2.2.1.below hb1
  have hby1 := H.out.2.2.2.2.2.2.2.1
  have hw1 := H.out.2.2.2.2.2.2.2.2.1.trans (hb1.mono H.out.2.2.2.2.2.2.2.2.1.size)
  have HA := Lib.hid (And.intro hsp (And.intro hN (And.intro hr (And.intro h1 (And.intro hx1 (And.intro hby1 (And.intro hw1 hb1.size)))))))
  clear hsp hN hr h1 hx1 hby1 hw1 hb1 c0 c1 hsl
  gi_wp2_with fail
  gi_loopw [15] (fun i wr => ∃ (k : Nat) (pre : List (SegF l)), k ≤ N ∧ i = .int .i64 k ∧ pre.map (·.1) = sp.take k ∧ J pre wr ∧ Below w0.heap.size w0 wr ∧ W.heap.size ≤ wr.heap.size ∧ BxF B0 B1 B2 (.slice a L.length c) (o : Int) lim wr ∧ SpR W.heap.size wr (.slice g0 N sc) sp)
    (fun i _ => N - (intOf i).toNat)
  case atStart => exact ⟨0, [], by omega, rfl, by simp, HA.out.2.2.2.1, HA.out.2.2.2.2.2.2.1, HA.out.2.2.2.2.2.2.2, HA.out.2.2.2.2.1, HA.out.2.2.1⟩
  case round =>
    obtain ⟨k, pre, hk, rfl, hpre, hJp, hWr, hsz, hbx, hrr⟩ := hrel
    have hbr := HA.out.2.2.2.2.2.1.below hWr
    have HR := Lib.hid (And.intro hpre (And.intro hJp (And.intro hWr (And.intro hsz (And.intro hbx (And.intro hrr hbr))))))
    clear hpre hJp hWr hsz hbx hrr hbr
    by_cases hlt : k < N
    · have i1 : decide ((k : Int) < (N : Int)) = true := by rw [decide_eq_true_iff]; omega
      have i2 : (k : Int) < (N : Int) := by omega
      have i0 : (0 : Int) ≤ (k : Int) := by omega
      obtain ⟨g, A, B, rfl, q0, q1, hAB, hBn, hkk⟩ : ∃ g A B : Nat, g0 = some ⟨g, 0, none⟩ ∧ wr.cell? ⟨g, k * 2, none⟩ = some (.int .i64 (A : Int)) ∧ wr.cell? ⟨g, k * 2 + 1, none⟩ = some (.int .i64 (B : Int)) ∧ A ≤ B ∧ B ≤ sn ∧ sp[k]? = some (A, B) := by
        obtain ⟨ga, sc2, e, -, hx⟩ := sp_form HR.out.2.2.2.2.2.1
        cases e
        obtain ⟨g, h1, h2, h3⟩ := hx k (by rw [HA.out.2.1]; exact hlt)
        have hm := spK_in l l.length sp[k] (by rw [HA.out.1]; exact List.getElem_mem _)
        exact ⟨g, _, _, h1, h2, h3, by omega, by have := H.out.2.2.2.2.1; omega, List.getElem?_eq_getElem (by rw [HA.out.2.1]; exact hlt)⟩
      have hw5 := below_new wr (.cells #[.int .i64 (A : Int), .int .i64 (B : Int)] 56)
      have hk5 := BkAt.new 56 #[.int .i64 (A : Int), .int .i64 (B : Int)] wr
      gi_wp2_with fail
      obtain ⟨w5, hw5e⟩ : ∃ x, wr.alloc (.cells #[.int .i64 (A : Int), .int .i64 (B : Int)] 56) = x := ⟨_, rfl⟩
      obtain ⟨d5, hd5⟩ : ∃ x, wr.heap.size = x := ⟨_, rfl⟩
      rw [hw5e] at hw5 hk5 ⊢
      rw [hd5] at hk5
      simp only [hd5]
      have hx5 := HR.out.2.2.2.2.1.below hw5
      have hsl := fun W => run_sub sa sn cn A B hAB (by omega) W
      obtain ⟨xa, hxa⟩ : ∃ x, subA sa cn A = x := ⟨_, rfl⟩
      obtain ⟨xn, hxn⟩ : ∃ x, B - A = x := ⟨_, rfl⟩
      obtain ⟨xc, hxc⟩ : ∃ x, cn - A = x := ⟨_, rfl⟩
      have hln : l.length = sn := H.out.2.2.2.2.1
      have hps := (HR.out.2.2.2.2.2.2.below hw5).sub A B hAB (by omega)
      obtain ⟨pc, hpc⟩ : ∃ x, pcL l (A, B) = x := ⟨_, rfl⟩
      have hpl : pc.length = B - A := by rw [← hpc, pcL_len l (A, B) (by show B ≤ _; omega)]
      have hps2 : BySl w5 (.slice xa xn xc) pc := by rw [← hxa, ← hxn, ← hxc, ← hpc]; exact hps
      simp only [hxa, hxn, hxc] at hsl
      have hW5 : Below w0.heap.size w0 w5 := HR.out.2.2.1.trans (hw5.mono HR.out.2.2.1.size)
      have hfr := fun W (hW : Below w5.heap.size w5 W) => framed_any (.slice xa xn xc) pc lim (by omega) W (Utf8Tabs_below (Utf8Tabs_below H.out.2.2.2.1 hW5) hW) (hps2.below hW)
      obtain ⟨S, hSe⟩ : ∃ x, frS pc lim = x := ⟨_, rfl⟩
      obtain ⟨D, hDe⟩ : ∃ x : Int, (frD pc lim : Int) = x := ⟨_, rfl⟩
      obtain ⟨bb, hbe⟩ : ∃ x, frB pc lim = x := ⟨_, rfl⟩
      obtain ⟨pn, hpn⟩ : ∃ x, pc.length = x := ⟨_, rfl⟩
      have hfa : ∀ off, frA off pc lim = #[.int .i64 off, .int .i64 (pn : Int), .string S, .int .i64 D, .bool bb] := fun off => by unfold frA; rw [hSe, hDe, hbe, hpn]
      have hHS : ∀ W, Below w5.heap.size w5 W → W.cell? ⟨d5, 0, none⟩ = some (.int .i64 (A : Int)) ∧ W.cell? ⟨d5, 1, none⟩ = some (.int .i64 (B : Int)) ∧ W.cell? ⟨B2, 0, none⟩ = some (.int .i64 lim) := fun W hW => ⟨(hk5.below hW).cell 0, (hk5.below hW).cell 1, (hx5.below hW).b2.cell⟩
      simp only [hfa] at hfr
      have HS := Lib.hid hHS
      have HF := Lib.hid (And.intro hfr (And.intro hfa (And.intro hpc (And.intro hx5 (And.intro hW5 (And.intro hk5 (And.intro hpl hpn)))))))
      have hb0 := Lib.hid (show Below w5.heap.size w5 w5.drew from (Below.refl _ _).drew)
      have hb1 := Lib.hid hw5
      have hbA := Lib.hid (show Below w5.heap.size w5 (w5.alloc (.cells #[.int .i64 0, .int .i64 0, .string ⟨#[]⟩, .int .i64 0, .bool false] 41)).drew from bl_trans' hb0.out (below_new _ _))
      clear hw5 hk5 hw5e hx5 hps hpc hpl hps2 hW5 hfr hSe hDe hbe hfa hHS hxa hxn hxc hln hpn
      refine wpIn_wide.2 (wp_mono (Q := AfterR (fun b => { tmps := #[.func (.yield lp) #[] #[], .pointer (some ⟨B0, 0, none⟩), .pointer (some ⟨B1, 0, none⟩), .pointer (some ⟨B2, 0, none⟩), undef, .slice sa sn cn, undef, .pointer (some ⟨d5, 0, none⟩), .pointer (some ⟨b, 0, none⟩), .slice a L.length c, .int .i64 (o : Int), .slice sa sn cn, .slice sa sn cn, .slice (some ⟨g, 0, none⟩) N sc, .int .i64 (N : Int), .int .i64 (k : Int), .bool true, .pointer (some ⟨g, k * 2, none⟩), .agg #[.int .i64 (A : Int), .int .i64 (B : Int)], .slice sa sn cn, .pointer (some ⟨d5, 0, none⟩), .int .i64 (A : Int), .pointer (some ⟨d5, 1, none⟩), .int .i64 (B : Int), .slice xa xn xc, .int .i64 lim, .agg #[.int .i64 0, .int .i64 (pn : Int), .string S, .int .i64 D, .bool bb], u27, u28, u29, u30, u31, u32, u33, u34, u35, u36], defers := [] })
        (fun b V => Below w5.heap.size w5 V ∧ BkAt b 41 #[.int .i64 0, .int .i64 (pn : Int), .string S, .int .i64 D, .bool bb] V ∧ w5.heap.size ≤ b)) ?_ ?_)
      · go_region_held3 (fun V => V.cell? ⟨d5, 0, none⟩ = some (.int .i64 (A : Int)) ∧ V.cell? ⟨d5, 1, none⟩ = some (.int .i64 (B : Int)) ∧ V.cell? ⟨B2, 0, none⟩ = some (.int .i64 lim)) (first | (with_reducible exact HS.out _ hb0.out) | (with_reducible exact HS.out _ hb3.out) | (with_reducible exact HS.out _ (bel5 hb3.out)) | (with_reducible exact HS.out _ hbA.out) | (with_reducible exact HS.out _ (bl_trans' hb3.out (below_new _ _))))
          ((go_at_call 35; refine (HF.out.1 _ (by first | (with_reducible exact hb0.out) | (with_reducible exact hbA.out))).mono ?_; rintro e w6 ⟨rfl, hb6⟩; have hb3 := Lib.hid (bl_trans' (by first | (with_reducible exact hb0.out) | (with_reducible exact hbA.out)) hb6); (first | (have hk6 : BkAt w5.heap.size 41 #[.int .i64 0, .int .i64 0, .string ⟨#[]⟩, .int .i64 0, .bool false] w6 := BkAt.below (show BkAt w5.heap.size 41 #[.int .i64 0, .int .i64 0, .string ⟨#[]⟩, .int .i64 0, .bool false] (w5.alloc (.cells #[.int .i64 0, .int .i64 0, .string ⟨#[]⟩, .int .i64 0, .bool false] 41)).drew from BkAt.new _ _ _) hb6; have y0 : w6.cell? ⟨w5.heap.size, 0, none⟩ = some (.int .i64 0) := hk6.cell 0; have y1 : w6.cell? ⟨w5.heap.size, 1, none⟩ = some (.int .i64 0) := hk6.cell 1; have y2 : w6.cell? ⟨w5.heap.size, 2, none⟩ = some (.string ⟨#[]⟩) := hk6.cell 2; have y3 : w6.cell? ⟨w5.heap.size, 3, none⟩ = some (.int .i64 0) := hk6.cell 3; have y4 : w6.cell? ⟨w5.heap.size, 4, none⟩ = some (.bool false) := hk6.cell 4; have z0 : w6.frozen? ⟨w5.heap.size, 0, none⟩ = false := hk6.free 0; have z1 : w6.frozen? ⟨w5.heap.size, 1, none⟩ = false := hk6.free 1; have z2 : w6.frozen? ⟨w5.heap.size, 2, none⟩ = false := hk6.free 2; have z3 : w6.frozen? ⟨w5.heap.size, 3, none⟩ = false := hk6.free 3; have z4 : w6.frozen? ⟨w5.heap.size, 4, none⟩ = false := hk6.free 4) | skip)))
        · exact ⟨_, rfl, bl_trans' hb3.out (below_new _ _), BkAt.new _ _ _, hb3.out.size⟩
        · refine ⟨_, rfl, bel5 hb3.out, ?_, Nat.le_refl _⟩
          have q := ((((hk6.set 0 (.int .i64 0)).set 1 (.int .i64 (pn : Int))).set 2 (.string S)).set 3 (.int .i64 D)).set 4 (.bool bb)
          exact q
      · rintro e a1 V h
        cases e with
        | normal =>
          obtain ⟨b, rfl, hbV, hkb, hbb⟩ := h
          have e0 := (HF.out.2.2.2.1.below hbV).b1.cell
          have e1 := (HF.out.2.2.2.2.2.1.below hbV).cell 0
          have e2 : V.cell? ⟨b, 0, none⟩ = some (.int .i64 0) := hkb.cell 0
          have e3 : V.cell? ⟨b, 1, none⟩ = some (.int .i64 (pn : Int)) := hkb.cell 1
          have e4 : V.cell? ⟨b, 2, none⟩ = some (.string S) := hkb.cell 2
          have e5 : V.cell? ⟨b, 3, none⟩ = some (.int .i64 D) := hkb.cell 3
          have e6 : V.cell? ⟨b, 4, none⟩ = some (.bool bb) := hkb.cell 4
          have e7 := hkb.free 0
          simp only [List.getElem?_toArray, List.getElem?_cons_zero] at e1
          have hbY : Below wr.heap.size wr (V.setCell ⟨b, 0, none⟩ (.int .i64 ((o : Int) + (A : Int)))) := (bl_trans' hb1.out hbV).setCell (p := ⟨b, 0, none⟩) (by have := hb1.out.size; show _ ≤ b; omega) _
          have hJY : J pre (V.setCell ⟨b, 0, none⟩ (.int .i64 ((o : Int) + (A : Int)))) := H.out.2.1 pre wr _ none HR.out.2.1 (grown_of_below hbY none) (fun r e => by cases e)
          have hlen : pre.length < L.length + 1 := by
            have h1 := congrArg List.length HR.out.1
            simp only [List.length_map, List.length_take] at h1
            have h2 := H.out.2.2.2.2.1
            have h3 := H.out.2.2.2.2.2.1
            omega
          obtain ⟨fn, tmps, assign, body, hy, hRd⟩ := H.out.2.2.1 pre ⟨(A, B), hAB, by have := H.out.2.2.2.2.1; show B ≤ _; omega⟩ _ hJY hlen
          have hle : lnEnc l (o : Int) lim ⟨(A, B), hAB, by have := H.out.2.2.2.2.1; show B ≤ _; omega⟩ = #[.agg #[.int .i64 ((o : Int) + (A : Int)), .int .i64 (pn : Int), .string S, .int .i64 D, .bool bb]] := by
            unfold lnEnc
            rw [show pcL l (A, B) = pc from HF.out.2.2.1, HF.out.2.1]
          rw [hle] at hy
          have HRd := Lib.hid hRd
          have HY := Lib.hid hbY
          have hA2 : (A : Int) ≤ 2097152 := by omega
          clear hRd hbY hJY hlen hle hkb hbV hbb
          gi_wp2
          refine HRd.out.mono ?_
          rintro e W3 (⟨rfl, hJ3, hk3⟩ | ⟨rfl, hJx3⟩)
          · have HJ3 := Lib.hid (And.intro hJ3 hk3)
            clear hJ3 hk3
            gi_wp2
            go_roundw
            case rel =>
              refine ⟨k + 1, _, by omega, by simp, ?_, HJ3.out.1, (HR.out.2.2.1.trans (HY.out.mono HR.out.2.2.1.size)).trans HJ3.out.2.1, Nat.le_trans HR.out.2.2.2.1 (Nat.le_trans HY.out.size HJ3.out.2.1.size), (HR.out.2.2.2.2.1.below HY.out).keep HJ3.out.2, row_keepF (row_below HR.out.2.2.2.2.2.1 HY.out) HJ3.out.2⟩
              rw [List.map_append, HR.out.1, List.take_add_one, hkk]
              rfl
            case measure => simp [intOf]; omega
          · have HJx := Lib.hid hJx3
            clear hJx3
            gi_wp2
            refine bodyPost_ret (results_none rfl _ _ _) rfl ?_
            exact ⟨⟨_, rfl⟩, .inr ⟨_, trivial, HJx.out⟩⟩
        | _ => exact h.elim
    · obtain rfl : k = N := by omega
      have i1 : decide ((k : Int) < (k : Int)) = false := by simp
      gi_wp2
      go_end0
      exact ⟨⟨_, rfl⟩, .inl ⟨pre, by rw [HR.out.1, ← HA.out.2.1, List.take_length]; exact HA.out.1.symm, HR.out.2.1⟩⟩

/-- **What lines hands back yields the records of the lines.** -/
theorem lines_stops (n : Nat) (hn : 1 ≤ n) (B0 B1 B2 o : Nat) (a : Option Addr) (c : Nat) (L l : List UInt8) (hl : L.drop o = l) (lim : Int) (hL : L.length ≤ 2097152) (ho : o ≤ L.length) (w0 w : World) (hT : Tabs w0) (hS : BySl w0 (.slice a L.length c) L) (hb : Below w0.heap.size w0 w) (hbox : BxF B0 B1 B2 (.slice a L.length c) (o : Int) lim w) :
    SeqStopsK Fence.wide n Tryd.prog 33 #[.pointer (some ⟨B0, 0, none⟩), .pointer (some ⟨B1, 0, none⟩), .pointer (some ⟨B2, 0, none⟩)] (lnEnc l (o : Int) lim) (KeepF w0.heap.size B0 B1 B2) (fun ys => ys.map (·.1) = spK l l.length) (fun _ => True) (L.length + 1) w :=
  fun lp J Jx W hW hJ _ hY h0 => lines1_in n hn lp B0 B1 B2 o a c L l hl lim hL ho w0 hT hS J Jx hY W (hb.trans (hW.mono hb.size)) (hbox.below hW) hJ h0
end Go.Proofs.YtbpboghjgbgjfaaDoor
