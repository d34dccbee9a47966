/- The contract of logtidemake's SpoilNode at a node with kids. -/
import Derived.Test.YtfmoidhpafpgnaaSpoilA
namespace Go.Proofs.Ytfmoidhpafpgnaa
open Go.RowKit

set_option maxRecDepth 100000 in
set_option maxHeartbeats 16000000 in
theorem spoil_deep (op : Int) (rs : List (Nat × Nat)) (nm : ByteArray) (kids : List Nd) (mn mx : Int) (ih : ∀ k ∈ kids, SpOk k) (S : Nat → Prop) (C k : Nat) (w : World) (v : Value) (hn : NodeS S w (.mk op rs nm kids mn mx) v) (hm : MkAt C w) (hS : ∀ b, S b → C < b ∧ b < w.heap.size) (hsl : Slim k (.mk op rs nm kids mn mx)) (hk50 : k ≤ 50) (h0 : kids ≠ []) :
    Calls Try.prog 7 #[.pointer (some ⟨C, 0, none⟩), v] w (SpOut S C k w) := by
  obtain ⟨ra, rc, ka, kc, rfl, i1, i2, i3, l1, l2, hr, hkd⟩ := nodeS_open hn
  obtain ⟨s1, s2, s3⟩ : rs.length ≤ k ∧ kids.length ≤ k ∧ ∀ x ∈ kids, Slim k x := by cases hsl with | mk a b c => exact ⟨a, b, c⟩
  have hCl := hm.lt
  have hX1 := (NBox.new w (.int .i64 op) (.slice ra rs.length rc) (.string nm) (.slice ka kids.length kc) (.int .i64 mn) (.int .i64 mx)).alloc (.cells #[.int .i64 0, .slice none 0 0, .string ⟨#[]⟩, .slice none 0 0, .int .i64 0, .int .i64 0] 25)
  have hR1 := NBox.new (w.alloc (.cells #[.int .i64 op, .slice ra rs.length rc, .string nm, .slice ka kids.length kc, .int .i64 mn, .int .i64 mx] 25)) (.int .i64 0) (.slice none 0 0) (.string ⟨#[]⟩) (.slice none 0 0) (.int .i64 0) (.int .i64 0)
  rw [Go.Deep.nblk_alloc] at hR1
  have hm1 := (hm.alloc (.cells #[.int .i64 op, .slice ra rs.length rc, .string nm, .slice ka kids.length kc, .int .i64 mn, .int .i64 mx] 25)).alloc (.cells #[.int .i64 0, .slice none 0 0, .string ⟨#[]⟩, .slice none 0 0, .int .i64 0, .int .i64 0] 25)
  have hf1 := ((Fr.refl C w).alloc (.cells #[.int .i64 op, .slice ra rs.length rc, .string nm, .slice ka kids.length kc, .int .i64 mn, .int .i64 mx] 25)).alloc (.cells #[.int .i64 0, .slice none 0 0, .string ⟨#[]⟩, .slice none 0 0, .int .i64 0, .int .i64 0] 25)
  have ag1 := agree_grown (S := S) hf1 fun b hb hs => by cases hb; have := (hS _ hs).1; omega
  have hr1 := hr.to ag1 (fun _ h => h)
  obtain ⟨v2, w2, hrun, hg2, hO2⟩ := copy_kids kc (hkd.to ag1 (fun _ h => h)) (by omega)
  obtain ⟨a2, c2, rfl⟩ := hO2.slice
  have hz2 := World.grownBy.size hg2
  rw [Go.Deep.nblk_alloc, Go.Deep.nblk_alloc] at hz2 hO2
  have hg2' : Fr C ((w.alloc (.cells #[.int .i64 op, .slice ra rs.length rc, .string nm, .slice ka kids.length kc, .int .i64 mn, .int .i64 mx] 25)).alloc (.cells #[.int .i64 0, .slice none 0 0, .string ⟨#[]⟩, .slice none 0 0, .int .i64 0, .int .i64 0] 25)) w2 := ⟨hg2.os, hg2.tape, hg2.output, World.grownBy.size hg2, fun i hi _ => World.grownBy.block hg2 i hi (by simp)⟩
  have hX2 := hX1.grown hg2 (fun b hb => by cases hb)
  have sw2 : SwAt S C w.heap.size w (w2.setCell ⟨w.heap.size, 3, none⟩ (.slice a2 kids.length c2)) op (.slice ra rs.length rc) rs nm (.slice a2 kids.length c2) kids mn mx :=
    ⟨mk_put (hm1.grown hg2 fun b hb => by cases hb) (by omega) _ _, hX2.put3 _, (hR1.grown hg2 fun b hb => by cases hb).grown (row := some w.heap.size) ((Fr.refl _ _).setCell _ _) (fun b hb => by cases hb; omega),
     hO2.grown (row := some w.heap.size) ((Fr.refl _ _).setCell _ _) (fun b hb => by cases hb; exact ⟨fun hs => by have := (hS _ hs).2; omega, fun e => by have := (hO2.lt _ e).1; omega⟩), fr_put (hf1.trans hg2') (Nat.le_refl _) _ _,
     (hr1.to (agree_grown hg2 fun b hb => by cases hb) fun _ h => h).to (agree_put _ _ _ fun hs => by have := (hS _ hs).2; omega) fun _ h => h, by simp [World.setCell]; omega, hS, hCl, rfl⟩
  obtain ⟨n, hnn⟩ : ∃ n, kids.length = n := ⟨_, rfl⟩
  obtain ⟨rl, hrl⟩ : ∃ n, rs.length = n := ⟨_, rfl⟩
  have H : Hid (SpIn k op rs nm kids mn mx rl n) := ⟨i1, i2, i3, l1, hnn ▸ l2, s1, s2, s3, hnn, hrl, hk50⟩
  have hn50 : n ≤ 50 := by omega
  have hf3 := hX2.frozen 3
  rw [hnn, hrl] at hX2 hrun sw2 ⊢
  obtain ⟨c0, c1, c2', c3, c4, c5⟩ := hX2.cells
  have hrun' := Lib.hid hrun
  have HSW := Lib.hid sw2
  have HIH := Lib.hid ih
  clear hrun sw2 hX2 hX1 hR1 hm1 hf1 ag1 hr1 hr hkd hg2 hg2' hO2 hsl hn hm s1 s2 s3 i1 i2 i3 l1 l2 ih hS
  go_enter Try.func7, Try.ntmps7
  have hnp : 0 < n := by rw [← hnn]; exact List.length_pos_iff.2 h0
  have dd1 : decide ((0 : Int) < (n : Int)) = true := by rw [decide_eq_true_eq]; omega
  have dd2 : decide (0 < n) = true := by rw [decide_eq_true_eq]; omega
  clear h0 hnn hrl
  go_wp2_with (at_builtin; refine wpList_append_run rfl (.const (.slice none 0 0)) (.tmp 8) 23 rfl _ _ rfl rfl hrun'.out ?_)
  obtain ⟨w3, hw3⟩ : ∃ x, w2.setCell ⟨w.heap.size, 3, none⟩ (.slice a2 n c2) = x := ⟨_, rfl⟩
  rw [hw3] at HSW ⊢
  clear hw3 c0 c1 c2' c3 c4 c5 hf3 hrun'
  have hn3 := next_any C 3 w3 HSW.out.mkc (by omega) (by omega)
  have H3 := Lib.hid hn3
  clear hn3
  go_wp2_with fail
  refine (H3.out).mono ?_
  rintro e w4 ⟨⟨z3, rfl, hz30, hz31⟩, hm4, hf4⟩
  have SW4 := Lib.hid (HSW.out.go hm4 hf4)
  clear hm4 hf4 H3 HSW
  obtain ⟨c0, c1, c2', c3, c4, c5⟩ := SW4.out.box.cells
  by_cases hzp : 0 < z3
  · have dz1 : decide ((0 : Int) < z3) = true := by rw [decide_eq_true_eq]; exact hzp
    have hnN := next_any C n w4 SW4.out.mkc (by omega) (by omega)
    have HN := Lib.hid hnN
    clear hnN
    go_wp2_with fail
    refine (HN.out).mono ?_
    rintro e w5 ⟨⟨iz, rfl, hi0, hi1⟩, hm5, hf5⟩
    obtain ⟨i, rfl⟩ : ∃ i : Nat, iz = (i : Int) := ⟨iz.toNat, by omega⟩
    have sw5 := SW4.out.go hm5 hf5
    clear hm5 hf5 HN c0 c1 c2' c3 c4 c5 SW4
    have hil : i < n := by omega
    have hik : i < kids.length := by rw [H.out.hn]; exact hil
    obtain ⟨c0, c1, c2', c3, c4, c5⟩ := sw5.box.cells
    rcases sw5.own.row with h0 | ⟨g, c', cur, hv, hg, hgb, hrow⟩
    · rw [h0] at hik; simp at hik
    rw [H.out.hn] at hv
    simp only [Value.slice.injEq, true_and] at hv
    obtain ⟨rfl, rfl⟩ := hv
    obtain ⟨a, hs, hnk, hck⟩ := hrow i hik
    obtain ⟨sa, sc, ta, tc, rfl⟩ := hs
    have e0 := hck 0 _ rfl
    have e1 := hck 1 _ rfl
    have e2 := hck 2 _ rfl
    have e3 := hck 3 _ rfl
    have e4 := hck 4 _ rfl
    have e5 := hck 5 _ rfl
    rw [Nat.add_zero] at e0
    have swd := sw5.go (w5 := w5.drew) (MkAt.drew sw5.mkc) (Fr.drew (Fr.refl C w5))
    have hcall := HIH.out kids[i] (List.getElem_mem hik) S C k w5.drew _ (NodeS.to (w := w5) (w' := w5.drew) (fun _ _ _ _ h => h) (fun _ h => h) _ _ hnk) swd.mkc (fun b hb => ⟨(swd.low b hb).1, by have := (swd.low b hb).2; have := swd.sz; omega⟩) (H.out.s3 _ (List.getElem_mem hik)) H.out.k50
    obtain ⟨q, hq⟩ : ∃ q, kids[i] = q := ⟨_, rfl⟩
    rw [hq] at e0 e1 e2 e3 e4 e5 hcall
    obtain ⟨o', rs', nm', kids', mn', mx'⟩ := q
    simp only [Nd.op, Nd.rs, Nd.nm, Nd.kids, Nd.mn, Nd.mx] at e0 e1 e2 e3 e4 e5 hcall
    have hsz5 := sw5.sz
    have hgl : g < w5.heap.size := (Array.getElem?_eq_some_iff.1 hgb).1
    have K5 := Lib.hid (And.intro swd (And.intro hcall (And.intro hgb hrow)))
    clear hq hnk hck hcall sw5 swd hgb hrow
    go_wp2
    go_region_with (go_at_call 7; refine (K5.out.2.1).mono ?_; rintro e w6 ⟨t6, v6, rfl, hn6, hm6, hf6, hsl6⟩; obtain ⟨o6, rs6, nm6, kids6, mn6, mx6⟩ := t6; obtain ⟨ra6, rc6, ka6, kc6, rfl, -⟩ := id (nodeS_open hn6); have sw6 := K5.out.1.go hm6 hf6; obtain ⟨d0, d1, d2, d3, d4, d5⟩ := sw6.box.cells; have hgC : g ≠ C := (by have := K5.out.1.cx; omega); have hgb6 := (World.grownBy.block hf6 g (show g < w5.drew.heap.size from hgl) (by simpa using hgC)).trans K5.out.2.2.1; have hcl := hf6.keeps (lo := g) (show C < g by have := K5.out.1.cx; omega); have k0 := hcl _ _ _ (Nat.le_refl _) e0; have k1 := hcl _ _ _ (Nat.le_refl _) e1; have k2 := hcl _ _ _ (Nat.le_refl _) e2; have k3 := hcl _ _ _ (Nat.le_refl _) e3; have k4 := hcl _ _ _ (Nat.le_refl _) e4; have k5 := hcl _ _ _ (Nat.le_refl _) e5; have x0 : w6.frozen? ⟨g, i * 6, none⟩ = false := Lib.frozen_of_heap hgb6 _; have x1 : w6.frozen? ⟨g, i * 6 + 1, none⟩ = false := Lib.frozen_of_heap hgb6 _; have x2 : w6.frozen? ⟨g, i * 6 + 2, none⟩ = false := Lib.frozen_of_heap hgb6 _; have x3 : w6.frozen? ⟨g, i * 6 + 3, none⟩ = false := Lib.frozen_of_heap hgb6 _; have x4 : w6.frozen? ⟨g, i * 6 + 4, none⟩ = false := Lib.frozen_of_heap hgb6 _; have x5 : w6.frozen? ⟨g, i * 6 + 5, none⟩ = false := Lib.frozen_of_heap hgb6 _; have S6 := Lib.hid (And.intro sw6 (And.intro hn6 hsl6)); clear sw6 hn6 hsl6 hm6 hf6 hgb6 hcl)
    all_goals
      have hSR := sp_row S6.out.1 S6.out.2.1 (fun b hb => by
        rcases hb with hb | hb
        · exact ⟨.inl hb, by have := (S6.out.1.low b hb).2; omega⟩
        · have e : w5.drew.heap.size = w5.heap.size := rfl
          exact ⟨.inr (by omega), by omega⟩) (show w.heap.size + 2 ≤ g from hg) hik ⟨ra6, rc6, ka6, kc6, rfl⟩
      obtain ⟨W, hW⟩ : ∃ x, putRow w6 g (i * 6) (.int .i64 o6) (.slice ra6 rs6.length rc6) (.string nm6) (.slice ka6 kids6.length kc6) (.int .i64 mn6) (.int .i64 mx6) = x := ⟨_, rfl⟩
      rw [hW] at hSR
      unfold putRow at hW
      rw [hW]
      obtain ⟨h1, h2, h3, h4, h5, h6⟩ := hSR
      have S7 := Lib.hid (And.intro h1 (And.intro h4 (And.intro h5 (And.intro h6 (slim_set i (fun x hx => slim_up (Nat.le_succ k) _ (H.out.s3 x hx)) S6.out.2.2)))))
      clear c0 c1 c2' c3 c4 c5 e0 e1 e2 e3 e4 e5 d0 d1 d2 d3 d4 d5 k0 k1 k2 k3 k4 k5 x0 x1 x2 x3 x4 x5 hW h1 h4 h5 h6
      obtain ⟨c0, c1, c2', c3, c4, c5⟩ := h2.cells
      obtain ⟨r0, r1, r2, r3, r4, r5⟩ := h3.cells
      have q0 := h3.frozen 0
      have q1 := h3.frozen 1
      have q2 := h3.frozen 2
      have q3 := h3.frozen 3
      have q4 := h3.frozen 4
      have q5 := h3.frozen 5
      have hlen : (kids.set i (.mk o6 rs6 nm6 kids6 mn6 mx6)).length = n := by rw [List.length_set]; exact H.out.hn
      have HLEN := Lib.hid hlen
      clear hlen h2 h3
      go_wp2
      refine bodyPost_ret (v := .agg #[.int .i64 op, .slice ra rl rc, .string nm, .slice (some ⟨g, 0, none⟩) n c2, .int .i64 mn, .int .i64 mx]) (by simp [results, Try.results7, go_sem, r0, r1, r2, r3, r4, r5]) rfl ?_
      exact sp_done S7.out.1 S7.out.2.1 rfl S6.out.1.low S6.out.1.cx (nodeS_at HLEN.out H.out.i1 H.out.i2 H.out.i3 H.out.l1 H.out.l2 S7.out.2.2.1 S7.out.2.2.2.1) (.mk (Nat.le_succ_of_le H.out.s1) (by rw [HLEN.out, ← H.out.hn]; exact Nat.le_succ_of_le H.out.s2) S7.out.2.2.2.2)
  · have dz1 : decide ((0 : Int) < z3) = false := by rw [decide_eq_false_iff_not]; exact hzp
    clear c0 c1 c2' c3 c4 c5
    have hn8 := next_any C 8 w4 SW4.out.mkc (by omega) (by omega)
    have H8 := Lib.hid hn8
    clear hn8
    go_wp2_with fail
    refine (H8.out).mono ?_
    rintro e w5 ⟨⟨z, rfl, hz0, hz1⟩, hm5, hf5⟩
    have sw5 := SW4.out.go hm5 hf5
    have SW := Lib.hid sw5
    have hsz5 := sw5.sz
    clear sw5 hm5 hf5
    have hz8 : z = 0 ∨ z = 1 ∨ z = 2 ∨ z = 3 ∨ z = 4 ∨ z = 5 ∨ z = 6 ∨ z = 7 := by omega
    rcases hz8 with rfl | rfl | rfl | rfl | rfl | rfl | rfl | rfl
    · have hn10 := next_any C 10 w5 SW.out.mkc (by omega) (by omega)
      have H10 := Lib.hid hn10
      clear hn10
      go_wp2_with fail
      refine (H10.out).mono ?_
      rintro e w6 ⟨⟨y, rfl, hy0, hy1⟩, hm6, hf6⟩
      have sw6 := SW.out.go hm6 hf6
      obtain ⟨c0, c1, c2', c3, c4, c5⟩ := sw6.box.cells
      have f0 := sw6.box.frozen 0
      obtain ⟨r0, r1, r2, r3, r4, r5⟩ := sw6.res.cells
      have q0 := sw6.res.frozen 0
      have q1 := sw6.res.frozen 1
      have q2 := sw6.res.frozen 2
      have q3 := sw6.res.frozen 3
      have q4 := sw6.res.frozen 4
      have q5 := sw6.res.frozen 5
      have S6 := Lib.hid sw6
      have hw : IntKind.i64.wrap (y - 1) = y - 1 := IntWalk.i64_in _ (by omega)
      clear sw6 hm6 hf6 H10 H8
      go_wp2
      refine bodyPost_ret (v := .agg #[.int .i64 (y - 1), .slice ra rl rc, .string nm, .slice a2 n c2, .int .i64 mn, .int .i64 mx]) (by simp [results, Try.results7, go_sem, r0, r1, r2, r3, r4, r5]) rfl ?_
      exact sp_put S6.out.mkc S6.out.fr rfl S6.out.low S6.out.cx (nodeS_at H.out.hn (by unfold i64In; omega) H.out.i2 H.out.i3 H.out.l1 H.out.l2 S6.out.rngN S6.out.kidN) (.mk (Nat.le_succ_of_le H.out.s1) (Nat.le_succ_of_le H.out.s2) fun x hx => slim_up (Nat.le_succ k) _ (H.out.s3 x hx))
    · have hni := int_any C w5 SW.out.mkc
      have HI := Lib.hid hni
      clear hni
      go_wp2_with fail
      refine (HI.out).mono ?_
      rintro e w6 ⟨⟨y, rfl, hy⟩, hm6, hf6⟩
      have sw6 := SW.out.go hm6 hf6
      obtain ⟨c0, c1, c2', c3, c4, c5⟩ := sw6.box.cells
      have f0 := sw6.box.frozen 4
      obtain ⟨r0, r1, r2, r3, r4, r5⟩ := sw6.res.cells
      have q0 := sw6.res.frozen 0
      have q1 := sw6.res.frozen 1
      have q2 := sw6.res.frozen 2
      have q3 := sw6.res.frozen 3
      have q4 := sw6.res.frozen 4
      have q5 := sw6.res.frozen 5
      have S6 := Lib.hid sw6
      clear sw6 hm6 hf6 HI H8
      go_wp2
      refine bodyPost_ret (v := .agg #[.int .i64 op, .slice ra rl rc, .string nm, .slice a2 n c2, .int .i64 y, .int .i64 mx]) (by simp [results, Try.results7, go_sem, r0, r1, r2, r3, r4, r5]) rfl ?_
      exact sp_put S6.out.mkc S6.out.fr rfl S6.out.low S6.out.cx (nodeS_at H.out.hn H.out.i1 hy H.out.i3 H.out.l1 H.out.l2 S6.out.rngN S6.out.kidN) (.mk (Nat.le_succ_of_le H.out.s1) (Nat.le_succ_of_le H.out.s2) fun x hx => slim_up (Nat.le_succ k) _ (H.out.s3 x hx))
    · have hni := int_any C w5 SW.out.mkc
      have HI := Lib.hid hni
      clear hni
      go_wp2_with fail
      refine (HI.out).mono ?_
      rintro e w6 ⟨⟨y, rfl, hy⟩, hm6, hf6⟩
      have sw6 := SW.out.go hm6 hf6
      obtain ⟨c0, c1, c2', c3, c4, c5⟩ := sw6.box.cells
      have f0 := sw6.box.frozen 5
      obtain ⟨r0, r1, r2, r3, r4, r5⟩ := sw6.res.cells
      have q0 := sw6.res.frozen 0
      have q1 := sw6.res.frozen 1
      have q2 := sw6.res.frozen 2
      have q3 := sw6.res.frozen 3
      have q4 := sw6.res.frozen 4
      have q5 := sw6.res.frozen 5
      have S6 := Lib.hid sw6
      clear sw6 hm6 hf6 HI H8
      go_wp2
      refine bodyPost_ret (v := .agg #[.int .i64 op, .slice ra rl rc, .string nm, .slice a2 n c2, .int .i64 mn, .int .i64 y]) (by simp [results, Try.results7, go_sem, r0, r1, r2, r3, r4, r5]) rfl ?_
      exact sp_put S6.out.mkc S6.out.fr rfl S6.out.low S6.out.cx (nodeS_at H.out.hn H.out.i1 H.out.i2 hy H.out.l1 H.out.l2 S6.out.rngN S6.out.kidN) (.mk (Nat.le_succ_of_le H.out.s1) (Nat.le_succ_of_le H.out.s2) fun x hx => slim_up (Nat.le_succ k) _ (H.out.s3 x hx))
    · have hmA := SW.out.mkc.alloc (.cells #[.string ⟨#[]⟩, .string ⟨#[97]⟩, .string ⟨#[49, 120]⟩, .string ⟨#[97, 98, 99, 100, 101, 102, 103, 104, 105, 106, 107, 108, 109, 110, 111, 112, 113, 114, 115, 116, 117, 118, 119, 120, 121, 122, 97, 98, 99, 100, 101, 102, 103]⟩, .string ⟨#[120, 95, 49]⟩] 9)
      have hbA := heap_alloc_new w5 (.cells #[.string ⟨#[]⟩, .string ⟨#[97]⟩, .string ⟨#[49, 120]⟩, .string ⟨#[97, 98, 99, 100, 101, 102, 103, 104, 105, 106, 107, 108, 109, 110, 111, 112, 113, 114, 115, 116, 117, 118, 119, 120, 121, 122, 97, 98, 99, 100, 101, 102, 103]⟩, .string ⟨#[120, 95, 49]⟩] 9)
      have hp := pick_any C w5.heap.size 5 [⟨#[]⟩, ⟨#[97]⟩, ⟨#[49, 120]⟩, ⟨#[97, 98, 99, 100, 101, 102, 103, 104, 105, 106, 107, 108, 109, 110, 111, 112, 113, 114, 115, 116, 117, 118, 119, 120, 121, 122, 97, 98, 99, 100, 101, 102, 103]⟩, ⟨#[120, 95, 49]⟩] _ hmA (by have := SW.out.cx; omega) (fun i hi => by
        have hi5 : i = 0 ∨ i = 1 ∨ i = 2 ∨ i = 3 ∨ i = 4 := by simp at hi; omega
        rcases hi5 with rfl | rfl | rfl | rfl | rfl
        all_goals (rw [Lib.cell_of_heap hbA]; rfl)) (by simp) (by simp)
      have swA := SW.out.go hmA ((Fr.refl C w5).alloc (.cells #[.string ⟨#[]⟩, .string ⟨#[97]⟩, .string ⟨#[49, 120]⟩, .string ⟨#[97, 98, 99, 100, 101, 102, 103, 104, 105, 106, 107, 108, 109, 110, 111, 112, 113, 114, 115, 116, 117, 118, 119, 120, 121, 122, 97, 98, 99, 100, 101, 102, 103]⟩, .string ⟨#[120, 95, 49]⟩] 9))
      have HP := Lib.hid (And.intro hp swA)
      clear hmA hbA hp swA
      go_wp2_with fail
      refine (HP.out.1).mono ?_
      rintro e w6 ⟨⟨y, rfl, hy⟩, hm6, hf6⟩
      have sw6 := HP.out.2.go hm6 hf6
      obtain ⟨c0, c1, c2', c3, c4, c5⟩ := sw6.box.cells
      have f0 := sw6.box.frozen 2
      obtain ⟨r0, r1, r2, r3, r4, r5⟩ := sw6.res.cells
      have q0 := sw6.res.frozen 0
      have q1 := sw6.res.frozen 1
      have q2 := sw6.res.frozen 2
      have q3 := sw6.res.frozen 3
      have q4 := sw6.res.frozen 4
      have q5 := sw6.res.frozen 5
      have S6 := Lib.hid sw6
      have hyl : y.size ≤ maxLen := by
        simp only [List.mem_cons, List.not_mem_nil, or_false] at hy
        unfold maxLen
        rcases hy with rfl | rfl | rfl | rfl | rfl <;> decide
      clear sw6 hm6 hf6 HP H8 hy
      go_wp2
      refine bodyPost_ret (v := .agg #[.int .i64 op, .slice ra rl rc, .string y, .slice a2 n c2, .int .i64 mn, .int .i64 mx]) (by simp [results, Try.results7, go_sem, r0, r1, r2, r3, r4, r5]) rfl ?_
      exact sp_put S6.out.mkc S6.out.fr rfl S6.out.low S6.out.cx (nodeS_at H.out.hn H.out.i1 H.out.i2 H.out.i3 hyl H.out.l2 S6.out.rngN S6.out.kidN) (.mk (Nat.le_succ_of_le H.out.s1) (Nat.le_succ_of_le H.out.s2) fun x hx => slim_up (Nat.le_succ k) _ (H.out.s3 x hx))
    · obtain ⟨v6, w6, hrun6, hg6, hO6⟩ := copy_ranges (c := rc) (a := ra) (by rw [H.out.hrl]; exact SW.out.rng) (by have := H.out.s1; omega)
      rw [H.out.hrl] at hrun6
      have hf6 : Fr C w5 w6 := ⟨hg6.os, hg6.tape, hg6.output, World.grownBy.size hg6, fun i hi _ => World.grownBy.block hg6 i hi (by simp)⟩
      have hm6 := SW.out.mkc.grown hg6 (fun b hb => by cases hb)
      have sw6 := SW.out.go hm6 hf6
      obtain ⟨c0, c1, c2', c3, c4, c5⟩ := SW.out.box.cells
      have hn1 := next_any C 256 w6 hm6 (by omega) (by omega)
      have K6 := Lib.hid (And.intro hrun6 (And.intro hn1 (And.intro hO6 (And.intro sw6 (World.grownBy.size hg6)))))
      clear hrun6 hn1 hO6 sw6 hm6 hf6 hg6
      go_wp2_with (at_builtin; refine wpList_append_run rfl (.const (.slice none 0 0)) (.tmp 71) 22 rfl _ _ rfl rfl K6.out.1 ?_)
      clear c0 c1 c2' c3 c4 c5
      go_wp2_with fail
      refine (K6.out.2.1).mono ?_
      rintro e w7 ⟨⟨y1, rfl, hy10, hy11⟩, hm7, hf7⟩
      obtain ⟨x1, rfl⟩ : ∃ x : Nat, y1 = (x : Int) := ⟨y1.toNat, by omega⟩
      have sw7 := K6.out.2.2.2.1.go hm7 hf7
      have hO7 := K6.out.2.2.1.kept hf7 (.inr fun e => by have := (K6.out.2.2.1.lt _ e).1; have := SW.out.cx; omega)
      have hn2 := next_any C 256 w7 hm7 (by omega) (by omega)
      have K7 := Lib.hid (And.intro hn2 (And.intro hO7 sw7))
      have hu1 : IntKind.u8.wrap (x1 : Int) = (x1 : Int) := by rw [IntKind.wrap_u8]; omega
      have hs67 := hf7.size
      clear hn2 hO7 sw7 hm7 hf7
      go_wp2_with fail
      refine (K7.out.1).mono ?_
      rintro e w8 ⟨⟨y2, rfl, hy20, hy21⟩, hm8, hf8⟩
      obtain ⟨x2, rfl⟩ : ∃ x : Nat, y2 = (x : Int) := ⟨y2.toNat, by omega⟩
      have hu2 : IntKind.u8.wrap (x2 : Int) = (x2 : Int) := by rw [IntKind.wrap_u8]; omega
      have sw8 := (K7.out.2.2.go hm8 hf8).go ((K7.out.2.2.go hm8 hf8).mkc.alloc (.cells #[.int .u8 (x1 : Int), .int .u8 (x2 : Int)] 46)) ((Fr.refl C w8).alloc (.cells #[.int .u8 (x1 : Int), .int .u8 (x2 : Int)] 46))
      have hO8 := (K7.out.2.1.kept hf8 (.inr fun e => by have := (K7.out.2.1.lt _ e).1; have := SW.out.cx; omega)).alloc (.cells #[.int .u8 (x1 : Int), .int .u8 (x2 : Int)] 46)
      have hs8 := sw8.sz
      obtain ⟨i0, hi, hz0', hz1', hz2'⟩ := info_parts infoRange
      have hzA := K6.out.2.2.2.2
      have hsA := H.out.s1
      have K8 := Lib.hid (And.intro hO8 sw8)
      clear hO8 sw8 hm8
      go_wp2_with (at_builtin; refine wpList_append_own_at _ rfl (.tmp 72) (.tmp 80) 22 rfl w5.heap.size 46 i0 (.agg #[.int .u8 0, .int .u8 0]) 2 2 Try.underlying22 hi hz0' hz1' hz2' rfl (by decide) _ _ _ rfl K8.out.1 ⟨w8.heap.size, 0, none⟩ 1 1 [.int .u8 (x1 : Int), .int .u8 (x2 : Int)] rfl rfl ?c1 ?c2 ?c3 ?c4 ?c5 ?_)
      case c1 => exact new_cells _ _ _
      case c2 => intro u hu; simp at hu; rcases hu with rfl | rfl <;> rfl
      case c3 => unfold maxLen; omega
      case c4 => omega
      case c5 => have := hf8.size; rw [Go.Deep.nblk_alloc]; omega
      intro v9 w9 hown9 hg9 _ hat9
      have sw9 := K8.out.2.goRow hg9 (fun b hb => by
        have h1 := (K8.out.1.lt b hb).1
        exact ⟨by omega, fun e => by have := (SW.out.own.lt b e).2; omega⟩)
      obtain ⟨g, cap, rfl⟩ : ∃ g cap, v9 = .slice (some ⟨g, 0, none⟩) (rs.length + 1) cap := by
        rcases hown9.2 with ⟨_, h0⟩ | ⟨g, cap, cur, hv, _⟩
        · omega
        · exact ⟨g, cap, hv⟩
      have hrg : RangesS (NewS S w.heap.size) w9 (.slice (some ⟨g, 0, none⟩) (rs.length + 1) cap) (rs ++ [(x1, x2)]) :=
        rangesS_own (base := w5.heap.size) (by rw [List.length_append, List.length_singleton, rsList_snoc]; exact hown9) (by simp; omega) (fun x hx => by
          rcases List.mem_append.1 hx with h | h
          · obtain ⟨_, _, -, -, hb, -⟩ := SW.out.rng
            exact hb x h
          · simp at h; subst h; simp; omega) (fun b hb => .inr (by omega))
      obtain ⟨c0, c1, c2', c3, c4, c5⟩ := sw9.box.cells
      have f0 := sw9.box.frozen 1
      obtain ⟨r0, r1, r2, r3, r4, r5⟩ := sw9.res.cells
      have q0 := sw9.res.frozen 0
      have q1 := sw9.res.frozen 1
      have q2 := sw9.res.frozen 2
      have q3 := sw9.res.frozen 3
      have q4 := sw9.res.frozen 4
      have q5 := sw9.res.frozen 5
      have S9 := Lib.hid (And.intro sw9 hrg)
      clear sw9 hrg hown9 hg9 hat9 K8 K7 K6 H8
      go_wp2
      refine bodyPost_ret (v := .agg #[.int .i64 op, .slice (some ⟨g, 0, none⟩) (rs.length + 1) cap, .string nm, .slice a2 n c2, .int .i64 mn, .int .i64 mx]) (by simp [results, Try.results7, go_sem, r0, r1, r2, r3, r4, r5]) rfl ?_
      exact sp_put S9.out.1.mkc S9.out.1.fr rfl S9.out.1.low S9.out.1.cx (nodeS_at H.out.hn H.out.i1 H.out.i2 H.out.i3 H.out.l1 H.out.l2 S9.out.2 S9.out.1.kidN) (.mk (by simp; omega) (Nat.le_succ_of_le H.out.s2) fun x hx => slim_up (Nat.le_succ k) _ (H.out.s3 x hx))
    · have sw6 := SW.out
      obtain ⟨c0, c1, c2', c3, c4, c5⟩ := sw6.box.cells
      have f0 := sw6.box.frozen 3
      obtain ⟨r0, r1, r2, r3, r4, r5⟩ := sw6.res.cells
      have q0 := sw6.res.frozen 0
      have q1 := sw6.res.frozen 1
      have q2 := sw6.res.frozen 2
      have q3 := sw6.res.frozen 3
      have q4 := sw6.res.frozen 4
      have q5 := sw6.res.frozen 5
      clear sw6
      go_wp2
      refine bodyPost_ret (v := .agg #[.int .i64 op, .slice ra rl rc, .string nm, .slice none 0 0, .int .i64 mn, .int .i64 mx]) (by simp [results, Try.results7, go_sem, r0, r1, r2, r3, r4, r5]) rfl ?_
      exact sp_put SW.out.mkc SW.out.fr rfl SW.out.low SW.out.cx (nodeS_at (kids := []) rfl H.out.i1 H.out.i2 H.out.i3 H.out.l1 (by unfold maxLen; omega) SW.out.rngN (.inl rfl)) (.mk (Nat.le_succ_of_le H.out.s1) (by simp) (by simp))
    · obtain ⟨A, ho, hN⟩ := SW.out.own
      have hoA := ho.alloc (.cells #[.int .i64 0, .slice none 0 0, .string ⟨#[]⟩, .slice none 0 0, .int .i64 0, .int .i64 0] 25)
      have hNA : ∀ i (h : i < kids.length), SixOf kids[i] (A i) ∧ NodeS S (w5.alloc (.cells #[.int .i64 0, .slice none 0 0, .string ⟨#[]⟩, .slice none 0 0, .int .i64 0, .int .i64 0] 25)) kids[i] (.agg (A i)) := fun i hi => ⟨(hN i hi).1, NodeS.to (agree_grown (World.grownBy_alloc w5 _ none) fun b hb => by cases hb) (fun _ h => h) _ _ (hN i hi).2⟩
      have swA := SW.out.go (SW.out.mkc.alloc (.cells #[.int .i64 0, .slice none 0 0, .string ⟨#[]⟩, .slice none 0 0, .int .i64 0, .int .i64 0] 25)) ((Fr.refl C w5).alloc (.cells #[.int .i64 0, .slice none 0 0, .string ⟨#[]⟩, .slice none 0 0, .int .i64 0, .int .i64 0] 25))
      obtain ⟨c0, c1, c2', c3, c4, c5⟩ := SW.out.box.cells
      obtain ⟨i0, hi, hz0', hz1', hz2'⟩ := info_parts infoNode
      have hsA := H.out.s2
      have KA := Lib.hid (And.intro hoA (And.intro hNA swA))
      clear ho hN hoA hNA swA
      go_wp2_with (at_builtin; refine wpList_append_own_at _ rfl (.tmp 89) (.tmp 91) 23 rfl (w.heap.size + 2) 25 i0 (.agg #[.int .i64 0, .slice none 0 0, .string ⟨#[]⟩, .slice none 0 0, .int .i64 0, .int .i64 0]) 6 88 Try.underlying23 hi hz0' hz1' hz2' rfl (by decide) _ _ _ rfl KA.out.1 ⟨w5.heap.size, 0, none⟩ 1 1 [.int .i64 0, .slice none 0 0, .string ⟨#[]⟩, .slice none 0 0, .int .i64 0, .int .i64 0] rfl rfl ?c1 ?c2 ?c3 ?c4 ?c5 ?_)
      case c1 => exact new_cells _ _ _
      case c2 => intro u hu; simp at hu; rcases hu with rfl | rfl | rfl | rfl | rfl | rfl <;> rfl
      case c3 => unfold maxLen; omega
      case c4 => omega
      case c5 => rw [Go.Deep.nblk_alloc]; omega
      intro v6 w6 hown6 hg6 _ hat6
      have hrow : ∀ b, (Value.slice a2 n c2).ownBlock = some b → w.heap.size + 2 ≤ b := fun b hb => (KA.out.1.lt b hb).1
      obtain ⟨e1, e2, e3, e4, e5, e6⟩ := KA.out.2.2.boxes hg6 hrow
      have hO6 := OwnK.snoc A (ndLeaf 0) #[.int .i64 0, .slice none 0 0, .string ⟨#[]⟩, .slice none 0 0, .int .i64 0, .int .i64 0] KA.out.2.1 hown6 hg6 (fun b hb hs => by have := hrow b hb; have := (SW.out.low _ hs).2; omega) ⟨_, _, _, _, rfl⟩ (leaf_nodeS _ _)
      obtain ⟨g, cap, rfl⟩ : ∃ g cap, v6 = .slice (some ⟨g, 0, none⟩) (kids.length + 1) cap := by
        rcases hown6.2 with ⟨_, h0⟩ | ⟨g, cap, cur, hv, _⟩
        · omega
        · exact ⟨g, cap, hv⟩
      have hkd : KDep (NewS S w.heap.size) w6 (kids ++ [ndLeaf 0]) (some ⟨g, 0, none⟩) := hO6.kdep (fun _ h => .inl h) fun _ h => .inr h
      clear c0 c1 c2' c3 c4 c5
      obtain ⟨c0, c1, c2', c3, c4, c5⟩ := e2.cells
      have f0 := e2.frozen 3
      obtain ⟨r0, r1, r2, r3, r4, r5⟩ := e3.cells
      have q0 := e3.frozen 0
      have q1 := e3.frozen 1
      have q2 := e3.frozen 2
      have q3 := e3.frozen 3
      have q4 := e3.frozen 4
      have q5 := e3.frozen 5
      have S9 := Lib.hid (And.intro e1 (And.intro e4 (And.intro e5 hkd)))
      clear hkd hO6 hown6 hg6 hat6 KA H8 e1 e2 e3 e4 e5
      go_wp2
      refine bodyPost_ret (v := .agg #[.int .i64 op, .slice ra rl rc, .string nm, .slice (some ⟨g, 0, none⟩) (kids.length + 1) cap, .int .i64 mn, .int .i64 mx]) (by simp [results, Try.results7, go_sem, r0, r1, r2, r3, r4, r5]) rfl ?_
      exact sp_put S9.out.1 S9.out.2.1 rfl SW.out.low SW.out.cx (nodeS_at (kids := kids ++ [ndLeaf 0]) (by simp) H.out.i1 H.out.i2 H.out.i3 H.out.l1 (by unfold maxLen; omega) (S9.out.2.2.1.to (agree_refl _ _) fun _ h => .inl h) S9.out.2.2.2) (.mk (Nat.le_succ_of_le H.out.s1) (by simp; omega) fun x hx => by
        rcases List.mem_append.1 hx with h | h
        · exact slim_up (Nat.le_succ k) _ (H.out.s3 x h)
        · rw [List.mem_singleton.1 h]; exact .mk (by simp) (by simp) (by simp))
    · have hL : LpS S C k w.heap.size w w5 (.mk op rs nm kids mn mx) op ra rl rc nm a2 n c2 mn mx :=
        ⟨SW.out.mkc, SW.out.box, SW.out.res, SW.out.fr, nodeS_at H.out.hn H.out.i1 H.out.i2 H.out.i3 H.out.l1 H.out.l2 SW.out.rngN SW.out.kidN, .mk (Nat.le_succ_of_le H.out.s1) (Nat.le_succ_of_le H.out.s2) (fun x hx => slim_up (Nat.le_succ k) _ (H.out.s3 x hx)), SW.out.sz, SW.out.low, SW.out.cx, rfl⟩
      have HL := Lib.hid hL
      clear hL H8
      go_wp2
      go_loopw [6] (fun i wr => ∃ (j : Nat) (t1 : Nd) (o1 : Int) (ra1 : Option Addr) (rn1 rc1 : Nat) (nm1 : ByteArray) (ka1 : Option Addr) (kn1 kc1 : Nat) (mn1 mx1 : Int), j ≤ 25 ∧ i = .int .i64 j ∧ Hid (LpS S C k w.heap.size w wr t1 o1 ra1 rn1 rc1 nm1 ka1 kn1 kc1 mn1 mx1)) (fun i _ => 25 - (intOf i).toNat)
      case atStart => exact ⟨0, _, _, _, _, _, _, _, _, _, _, _, by omega, rfl, HL⟩
      case round =>
        obtain ⟨j, t1, o1, ra1, rn1, rc1, nm1, ka1, kn1, kc1, mn1, mx1, hj, rfl, hLr⟩ := hrel
        obtain ⟨W1, rfl⟩ : ∃ W1, W1 = wr := ⟨_, rfl⟩
        obtain ⟨c0, c1, c2', c3, c4, c5⟩ := hLr.out.box.cells
        by_cases hlt : j < 25
        · have hA := hLr.out.box.alloc (.cells #[.int .i64 o1, .slice ra1 rn1 rc1, .string nm1, .slice ka1 kn1 kc1, .int .i64 mn1, .int .i64 mx1] 25)
          obtain ⟨d0, d1, d2, d3, d4, d5⟩ := hA.cells
          have f0 := hA.frozen 0
          have f1 := hA.frozen 1
          have f2 := hA.frozen 2
          have f3 := hA.frozen 3
          have f4 := hA.frozen 4
          have f5 := hA.frozen 5
          have hszr := hLr.out.sz
          have dj1 : decide ((j : Int) < 25) = true := by rw [decide_eq_true_eq]; omega
          have dj2 : decide (j < 25) = true := by rw [decide_eq_true_eq]; omega
          have hst := hLr.out.step
          have HST := Lib.hid hst
          clear hst hA
          go_wp2
          go_roundw
          case rel => exact ⟨j + 1, _, _, _, _, _, _, _, _, _, _, _, by omega, by simp, HST⟩
          case measure => simp [intOf]; omega
        · obtain rfl : j = 25 := by omega
          obtain ⟨r0, r1, r2, r3, r4, r5⟩ := hLr.out.res.cells
          have q0 := hLr.out.res.frozen 0
          have q1 := hLr.out.res.frozen 1
          have q2 := hLr.out.res.frozen 2
          have q3 := hLr.out.res.frozen 3
          have q4 := hLr.out.res.frozen 4
          have q5 := hLr.out.res.frozen 5
          go_wp2
          refine bodyPost_ret (v := .agg #[.int .i64 o1, .slice ra1 rn1 rc1, .string nm1, .slice ka1 kn1 kc1, .int .i64 mn1, .int .i64 mx1]) (by simp [results, Try.results7, go_sem, r0, r1, r2, r3, r4, r5]) rfl ?_
          exact sp_done hLr.out.mkc hLr.out.fr rfl hLr.out.low hLr.out.cx hLr.out.nd hLr.out.sl

/-- SpoilNode at every node. -/
theorem spoil_any : ∀ t, SpOk t := Nd.induct fun op rs nm kids mn mx ih => by
  intro S C k w v hn hm hS hsl hk
  by_cases h0 : kids = []
  · exact spoil_flat op rs nm kids mn mx ih S C k w v hn hm hS hsl hk h0
  · exact spoil_deep op rs nm kids mn mx ih S C k w v hn hm hS hsl hk h0
end Go.Proofs.Ytfmoidhpafpgnaa
