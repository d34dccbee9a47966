/- The contract of logtidemake's Node, at every depth: it returns some node. -/
import Derived.Test.YtfmoidhpafpgnaaMakeL
import Derived.Test.YtfmoidhpafpgnaaPatVis
import Derived.Deep.RegionHeld3
namespace Go.Proofs.Ytfmoidhpafpgnaa
open Go.RowKit

def MakeOk (d : Nat) : Prop := ∀ (C lo : Nat) (w : World), MkAt C w → C < lo → lo ≤ w.heap.size →
  Calls Try.prog 6 #[.pointer (some ⟨C, 0, none⟩), .int .i64 (d : Int)] w (MkOut C lo w)
theorem MkAt.own {C : Nat} {w w' : World} {row : Option Nat} (h : MkAt C w) (k : w.grownBy w' row) (hr : ∀ b, row = some b → C < b) : MkAt C w' := h.grown k hr
theorem NBox.fr {w w' : World} {X C : Nat} {v0 v1 v2 v3 v4 v5 : Value} (h : NBox w X v0 v1 v2 v3 v4 v5) (hf : Fr C w w') (hX : X ≠ C) : NBox w' X v0 v1 v2 v3 v4 v5 :=
  (World.grownBy.block hf X (Array.getElem?_eq_some_iff.1 h).1 (by simpa using hX)).trans h
theorem NBox.grown {w w' : World} {X : Nat} {row : Option Nat} {v0 v1 v2 v3 v4 v5 : Value} (h : NBox w X v0 v1 v2 v3 v4 v5) (hg : w.grownBy w' row) (hX : ∀ b, row = some b → X ≠ b) : NBox w' X v0 v1 v2 v3 v4 v5 :=
  (hg.block X (Array.getElem?_eq_some_iff.1 h).1 (fun e => hX X e.symm rfl)).trans h
theorem NBox.put3 {w : World} {X : Nat} {v0 v1 v2 v3 v4 v5 : Value} (h : NBox w X v0 v1 v2 v3 v4 v5) (v : Value) : NBox (w.setCell ⟨X, 3, none⟩ v) X v0 v1 v2 v v4 v5 := by
  unfold NBox at *
  simp [World.setCell, Array.getElem?_modify, h]
theorem NBox.frozen {w : World} {X : Nat} {v0 v1 v2 v3 v4 v5 : Value} (h : NBox w X v0 v1 v2 v3 v4 v5) (o : Nat) : w.frozen? ⟨X, o, none⟩ = false := Lib.frozen_of_heap h o
theorem SixAt.grown {w w' : World} {b : Nat} {row : Option Nat} {v0 v1 v2 v3 v4 v5 : Value} (h : SixAt w b v0 v1 v2 v3 v4 v5) (k : w.grownBy w' row) (hb : ∀ r, row = some r → b ≠ r) : SixAt w' b v0 v1 v2 v3 v4 v5 := by
  have hlt := h.lt
  obtain ⟨t, h⟩ := h
  exact ⟨t, (k.block b hlt (fun e => hb b e.symm rfl)).trans h⟩
theorem fr_put {C X : Nat} {a w : World} (h : Fr C a w) (hX : a.heap.size ≤ X) (o : Nat) (v : Value) : Fr C a (w.setCell ⟨X, o, none⟩ v) := h.setNew hX v
theorem mk_put {C X : Nat} {w : World} (h : MkAt C w) (hX : C < X) (o : Nat) (v : Value) : MkAt C (w.setCell ⟨X, o, none⟩ v) :=
  h.grown (row := some X) ((Fr.refl X w).setCell o v) fun b hb => by cases hb; exact hX
theorem own_put {L X : Nat} {w : World} {v : Value} {l : List Nd} (h : OwnNodes L w v l) (hX : X < L) (o : Nat) (u : Value) : OwnNodes L (w.setCell ⟨X, o, none⟩ u) v l :=
  h.grown (row := some X) ((Fr.refl X w).setCell o u) fun b hb => by cases hb; exact hX
theorem six_put {w : World} {R X : Nat} {v0 v1 v2 v3 v4 v5 : Value} (h : SixAt w R v0 v1 v2 v3 v4 v5) (hX : R ≠ X) (o : Nat) (u : Value) : SixAt (w.setCell ⟨X, o, none⟩ u) R v0 v1 v2 v3 v4 v5 :=
  h.grown (row := some X) ((Fr.refl X w).setCell o u) fun b hb => by cases hb; exact hX

theorem conv_two (i k : Nat) (hi : i < 26) (hk : k < 26) (W : World) (g : Nat) (h : W.cell? ⟨g, 0, none⟩ = some (.int .u8 (97 + (i : Int)))) (h' : W.cell? ⟨g, 1, none⟩ = some (.int .u8 (97 + (k : Int)))) :
    (convert 26 9 (.slice (some ⟨g, 0, none⟩) 2 2)).run Try.prog W = .ok (.string ⟨#[UInt8.ofNat (97 + i), UInt8.ofNat (97 + k)]⟩) W :=
  run_convert_bytes_back W 26 9 5 ⟨g, 0, none⟩ 2 [UInt8.ofNat (97 + i), UInt8.ofNat (97 + k)] Try.underlying26 Try.underlying5 Try.underlying9 (fun j hj => by
    have hj2 : j = 0 ∨ j = 1 := by
      have : j < 2 := hj
      omega
    rcases hj2 with rfl | rfl
    · simp [Addr.add, h]; omega
    · simp [Addr.add, h']; omega)

theorem SixAt.al {w : World} {b : Nat} {v0 v1 v2 v3 v4 v5 : Value} (h : SixAt w b v0 v1 v2 v3 v4 v5) (o : Obj) : SixAt (w.alloc o) b v0 v1 v2 v3 v4 v5 := by
  have hlt := h.lt
  obtain ⟨t, h⟩ := h
  exact ⟨t, (Lib.alloc_old w o b hlt).trans h⟩
/-- What a loop of Node holds. -/
structure LpAt (C X R : Nat) (op : Int) (w0 wr : World) (l : List Nd) (v : Value) : Prop where
  mkc : MkAt C wr
  own : OwnNodes (X + 1) wr v l
  box : NBox wr X (.int .i64 op) (.slice none 0 0) (.string ⟨#[]⟩) v (.int .i64 0) (.int .i64 0)
  six : SixAt wr R (.int .i64 0) (.slice none 0 0) (.string ⟨#[]⟩) (.slice none 0 0) (.int .i64 0) (.int .i64 0)
  fr : Fr C w0 wr
  sl : ∀ x ∈ l, Slim 3 x

def y4 (z : Int) (i : Nat) : Int := if i = 0 then -1 else if i = 1 then z else if i = 2 then z + 1 else z + 2
theorem y4_in (z : Int) (h : 0 ≤ z ∧ z < 3) (i : Nat) : -1 ≤ y4 z i ∧ y4 z i ≤ 10 := by
  unfold y4; split
  · omega
  · split
    · omega
    · split <;> omega
theorem ints4 {W : World} {I : Nat} {z : Int} (h : W.heap[I]? = some (.cells #[.int .i64 (-1), .int .i64 z, .int .i64 (z + 1), .int .i64 (z + 2)] 3 (0, 0))) (i : Nat) (hi : i < 4) : W.cell? ⟨I, i, none⟩ = some (.int .i64 (y4 z i)) := by
  rw [Lib.cell_of_heap h]
  have : i = 0 ∨ i = 1 ∨ i = 2 ∨ i = 3 := by omega
  rcases this with rfl | rfl | rfl | rfl <;> rfl
theorem NBox.put5 {w : World} {X : Nat} {v0 v1 v2 v3 v4 v5 : Value} (h : NBox w X v0 v1 v2 v3 v4 v5) (v : Value) : NBox (w.setCell ⟨X, 5, none⟩ v) X v0 v1 v2 v3 v4 v := by
  unfold NBox at *
  simp [World.setCell, Array.getElem?_modify, h]
theorem kid_out {C lo : Nat} {w W : World} (op : Int) (hop : 0 ≤ op ∧ op ≤ 7) (S : ByteArray) (hS : S.size ≤ maxLen) (mn mx : Int) (hmn : i64In mn) (hmx : i64In mx) (t : Nd) (hsl : Slim 3 t) (G : Nat) (v0 v1 v2 v3 v4 v5 : Value) (hmk : MkAt C W) (hfr : Fr C w W) (hlo : lo ≤ w.heap.size) (hG : w.heap.size < G) (hC : C < w.heap.size)
    (a0 a1 a2 a3 a4 a5 : Value) (ha : ∃ o ra rn rc nm ka kn kc mn mx, a0 = .int .i64 o ∧ a1 = .slice ra rn rc ∧ a2 = .string nm ∧ a3 = .slice ka kn kc ∧ a4 = .int .i64 mn ∧ a5 = .int .i64 mx)
    (hn : NodeIn (w.heap.size + 1) W t (.agg #[a0, a1, a2, a3, a4, a5])) (hb : NBox W G a0 a1 a2 a3 a4 a5) :
    MkOut C lo w (.returned (.agg #[.int .i64 op, .slice none 0 0, .string S, .slice (some ⟨G, 0, none⟩) 1 1, .int .i64 mn, .int .i64 mx])) (put6 W w.heap.size v0 v1 v2 v3 v4 v5) := by
  have hk : Keeps (w.heap.size + 1) W (put6 W w.heap.size v0 v1 v2 v3 v4 v5) := put6_keeps (keeps_refl _ _) (by omega) _ _ _ _ _ _
  obtain ⟨o, ra, rn, rc, nm, ka, kn, kc, m1, m2, rfl, rfl, rfl, rfl, rfl, rfl⟩ := ha
  obtain ⟨c0, c1, c2, c3, c4, c5⟩ := hb.cells
  refine ⟨.mk op [] S [t] mn mx, _, rfl, NodeIn.lower (lo := w.heap.size + 1) (by omega) _ _ ?_, mk_put6 hmk hC _ _ _ _ _ _, put6_fr hfr (Nat.le_refl _) _ _ _ _ _ _, Slim.mk (by simp) (by simp) (fun x hx => by rw [List.mem_singleton.1 hx]; exact hsl)⟩
  unfold NodeIn
  refine ⟨_, _, _, rfl, small64 (by omega), hmn, hmx, hS, by simp [maxLen], no_ranges _ _, .inr ⟨G, 0, rfl, by omega, ?_⟩⟩
  unfold KidsIn
  refine ⟨⟨_, _, _, _, _, _, NodeIn.keeps hk _ _ hn, hk _ _ _ (by omega) c0, hk _ _ _ (by omega) c1, hk _ _ _ (by omega) c2, hk _ _ _ (by omega) c3, hk _ _ _ (by omega) c4, hk _ _ _ (by omega) c5⟩, ?_⟩
  unfold KidsIn
  trivial
set_option linter.unusedSimpArgs false in
set_option maxRecDepth 100000 in
set_option maxHeartbeats 8000000 in
theorem node_succ (d : Nat) (hd : d ≤ 100) (ih : MakeOk d) : MakeOk (d + 1) := by
  intro C lo w h hC hlo
  obtain ⟨i0, ii, ii0, ii1, ii2⟩ := info_parts infoNode
  have hCl := h.lt
  have hn0 := next_any C 3 _ (h.alloc (.cells #[.int .i64 0, .slice none 0 0, .string ⟨#[]⟩, .slice none 0 0, .int .i64 0, .int .i64 0] 25)) (by omega) (by omega)
  have hR := SixAt.new w (.int .i64 0) (.slice none 0 0) (.string ⟨#[]⟩) (.slice none 0 0) (.int .i64 0) (.int .i64 0) 25
  have hf0 := (Fr.refl C w).alloc (.cells #[.int .i64 0, .slice none 0 0, .string ⟨#[]⟩, .slice none 0 0, .int .i64 0, .int .i64 0] 25)
  have ih' : ∀ (C lo : Nat) (w : World), MkAt C w → C < lo → lo ≤ w.heap.size → Calls Try.prog 6 #[.pointer (some ⟨C, 0, none⟩), .int .i64 (d : Int)] w (MkOut C lo w) := ih
  have H := Lib.hid (And.intro hn0 (And.intro hR hf0))
  have HI := Lib.hid ih'
  clear hn0 hR hf0 h ih ih'
  push_cast
  have dd1 : decide ((d : Int) + 1 ≤ 0) = false := by rw [decide_eq_false_iff_not]; omega
  have hwd : IntKind.i64.wrap (d : Int) = (d : Int) := by rw [IntKind.wrap_i64]; omega
  go_enter Try.func6, Try.ntmps6
  go_wp2_with fail
  refine (H.out.1).mono ?_
  rintro e w1 ⟨⟨z, rfl, hz0, hz1⟩, hm1, hf1⟩
  have hR1 := H.out.2.1.fr hf1 (by omega)
  have hz := hf1.size
  rw [Go.Deep.nblk_alloc] at hz
  have hT1 := H.out.2.2.trans hf1
  clear hf1
  by_cases hz3 : z = 0
  · subst hz3
    have hlf := leaf_any C (w.heap.size + 1) w1 hm1 (by omega) hz
    have KL := Lib.hid (And.intro hlf (And.intro hR1 hT1))
    clear hlf hR1 hT1 hm1
    go_wp2_with fail
    refine (KL.out.1).mono ?_
    rintro e w2 ⟨t, tv, rfl, htv, hm2, hf2, hsl⟩
    obtain ⟨ra, rc, ka, kc, rfl⟩ := id htv.shape
    have hR2 := KL.out.2.1.fr hf2 (by omega)
    obtain ⟨r0, r1, r2, r3, r4, r5⟩ := hR2.cells
    obtain ⟨q0, q1, q2, q3, q4, q5⟩ := hR2.free
    have K2 := Lib.hid (And.intro htv (And.intro hm2 (KL.out.2.2.trans hf2)))
    clear htv hm2 hf2 hR2
    go_wp2
    refine bodyPost_ret (v := .agg #[.int .i64 t.op, .slice ra t.rs.length rc, .string t.nm, .slice ka t.kids.length kc, .int .i64 t.mn, .int .i64 t.mx]) (by simp [results, Try.results6, go_sem, r0, r1, r2, r3, r4, r5]) rfl ?_
    exact ⟨t, _, rfl, NodeIn.lower (lo := w.heap.size + 1) (by omega) _ _ (NodeIn.keeps (put6_keeps (keeps_refl _ _) (by omega) _ _ _ _ _ _) _ _ K2.out.1), mk_put6 K2.out.2.1 hCl _ _ _ _ _ _, put6_fr K2.out.2.2 (Nat.le_refl _) _ _ _ _ _ _, hsl⟩
  have e0 : (z == 0) = false := by rw [beq_eq_false_iff_ne]; exact hz3
  have hn7 := next_any C 7 _ hm1 (by omega) (by omega)
  have K0 := Lib.hid (And.intro hn7 (And.intro hR1 hT1))
  clear hn7 hR1 hT1 hm1 hz3
  go_wp2_with fail
  refine (K0.out.1).mono ?_
  rintro e w1x ⟨⟨z7, rfl, hz70, hz71⟩, hm1, hf1⟩
  have hR1 := K0.out.2.1.fr hf1 (by omega)
  have hzx := hf1.size
  have hT1 := K0.out.2.2.trans hf1
  have hw1 : w.heap.size + 1 ≤ w1x.heap.size := by omega
  clear hf1 hzx hz K0 H
  clear w1
  obtain ⟨w1, rfl⟩ : ∃ x, x = w1x := ⟨_, rfl⟩
  have hz7 : z7 = 0 ∨ z7 = 1 ∨ z7 = 2 ∨ z7 = 3 ∨ z7 = 4 ∨ 5 ≤ z7 := by omega
  rcases hz7 with rfl | rfl | rfl | rfl | rfl | hz7
  · skip
    have hn2 := next_any C 2 _ (hm1.alloc (.cells #[.int .i64 2, .slice none 0 0, .string ⟨#[]⟩, .slice none 0 0, .int .i64 0, .int .i64 0] 25)) (by omega) (by omega)
    have hbx := NBox.new w1 (.int .i64 2) (.slice none 0 0) (.string ⟨#[]⟩) (.slice none 0 0) (.int .i64 0) (.int .i64 0)
    have hR2 := hR1.fr ((Fr.refl C w1).alloc (.cells #[.int .i64 2, .slice none 0 0, .string ⟨#[]⟩, .slice none 0 0, .int .i64 0, .int .i64 0] 25)) (by omega)
    have hT2 := hT1.alloc (.cells #[.int .i64 2, .slice none 0 0, .string ⟨#[]⟩, .slice none 0 0, .int .i64 0, .int .i64 0] 25)
    have K2 := Lib.hid (And.intro hn2 (And.intro hbx (And.intro hR2 hT2)))
    clear hn2 hbx hR2 hT2 hm1 hT1 hR1
    go_wp2_with fail
    refine (K2.out.1).mono ?_
    rintro e w2 ⟨⟨z2, rfl, hz20, hz21⟩, hm2, hf2⟩
    have hz2' := hf2.size
    rw [Go.Deep.nblk_alloc] at hz2'
    have hat0 : LpAt C w1.heap.size w.heap.size 2 w w2 [] (.slice none 0 0) := ⟨hm2, ownNodes_nil _ _, K2.out.2.1.fr hf2 (by omega), K2.out.2.2.1.fr hf2 (by omega), K2.out.2.2.2.trans hf2, by simp⟩
    obtain ⟨j2, rfl⟩ : ∃ j : Nat, z2 = (j : Int) := ⟨z2.toNat, by omega⟩
    have HA0 := Lib.hid hat0
    clear hat0 hm2 hf2
    go_wp2
    go_loopw [6] (fun i wr => ∃ (j : Nat) (l : List Nd) (v : Value), i = .int .i64 (j : Int) ∧ l.length + j ≤ 3 ∧ 2 ≤ l.length + j ∧ LpAt C w1.heap.size w.heap.size 2 w wr l v) (fun i _ => (intOf i).toNat)
    case atStart => exact ⟨j2 + 2, [], .slice none 0 0, congrArg (Value.int .i64) (by push_cast; omega), by simp; omega, by simp, HA0.out⟩
    case round =>
      obtain ⟨j, l, v, rfl, hl3, hl2, hat⟩ := hrel
      obtain ⟨va, vc, rfl⟩ := hat.own.slice
      obtain ⟨W1, rfl⟩ : ∃ W1, W1 = wr := ⟨_, rfl⟩
      have hzW := hat.box
      have hzW : w1.heap.size < W1.heap.size := (Array.getElem?_eq_some_iff.1 hat.box).1
      obtain ⟨b0, b1, b2, b3, b4, b5⟩ := hat.box.cells
      by_cases hj : 0 < j
      · have d1 : decide ((0 : Int) < (j : Int)) = true := by simp; omega
        have d2 : decide (0 < j) = true := by simp; omega
        have hcall := HI.out C W1.heap.size W1.drew hat.mkc.drew (by omega) (Nat.le_refl _)
        have KC := Lib.hid hcall
        have KA := Lib.hid hat
        clear hcall hat
        go_wp2
        go_region_law (first
          | (refine step_append_own rfl (.tmp 34) (.tmp 39) 23 rfl (w1.heap.size + 1) 25 i0 (.agg #[.int .i64 0, .slice none 0 0, .string ⟨#[]⟩, .slice none 0 0, .int .i64 0, .int .i64 0]) 6 88 Try.underlying23 ii ii0 ii1 ii2 rfl (by decide) (.slice va l.length vc) l.length _ (by simp [Act.eval]) HO.out ⟨w3.heap.size, 0, none⟩ 1 1 [.int .i64 t.op, .slice ra t.rs.length rc, .string t.nm, .slice ka t.kids.length kc, .int .i64 t.mn, .int .i64 t.mx] (by simp [Act.eval]) rfl (new_cells _ _ _) (SixOf.one (t := t) ⟨_, _, _, _, rfl⟩) (by unfold maxLen; omega) (by omega) (by show w1.heap.size + 1 ≤ (w3.alloc _).heap.size; rw [Go.Deep.nblk_alloc]; omega) ?_; intro v' w4 hown4 hg4 hat4; have hb4 := (HH.out.2.2.2.alloc (.cells #[.int .i64 t.op, .slice ra t.rs.length rc, .string t.nm, .slice ka t.kids.length kc, .int .i64 t.mn, .int .i64 t.mx] 25)).grown hg4 (fun b hb => by have := (KA.out.own.lt b hb).1; omega); have p4 := hb4.cells.2.2.2.1; have p4f := hb4.frozen 3; obtain ⟨g, cap, rfl⟩ : ∃ g cap, v' = .slice (some ⟨g, 0, none⟩) (l.length + 1) cap := (by rcases hown4.2 with ⟨_, h0⟩ | ⟨g, cap, cur, hv, _⟩; (omega); (exact ⟨g, cap, hv⟩)); have HG := Lib.hid (And.intro hown4 (And.intro hg4 (And.intro hat4 hb4))); clear hown4 hg4 hat4 hb4)
          | (go_simp; go_wp2_with (go_at_call 6; refine (KC.out).mono ?_; rintro e w3 ⟨t, tv, rfl, htv, hm3, hf3, hsl⟩; obtain ⟨ra, rc, ka, kc, rfl⟩ := id htv.shape; have hb3 := KA.out.box.drew.fr hf3 (by omega); have p3 := hb3.cells.2.2.2.1; have p3a : ∀ o, (w3.alloc o).cell? ⟨w1.heap.size, 3, none⟩ = some (.slice va l.length vc) := fun o => keeps_alloc 0 w3 o _ _ _ (Nat.zero_le _) p3; have hz3 : W1.heap.size ≤ w3.heap.size := hf3.size; obtain ⟨A, ho, hN⟩ := ((KA.out.own.fr (Fr.refl C W1).drew (by omega)).fr hf3 (by omega)).alloc (.cells #[.int .i64 t.op, .slice ra t.rs.length rc, .string t.nm, .slice ka t.kids.length kc, .int .i64 t.mn, .int .i64 t.mx] 25); have HO := Lib.hid ho; have HN := Lib.hid hN; have HH := Lib.hid (And.intro htv (And.intro hm3 (And.intro hf3 hb3))); clear ho hN htv hm3 hf3 hb3)))
        all_goals
          have hL1 := fun b hb => (KA.out.own.lt b hb).1
          have hOS := OwnNodes.snoc (lo2 := W1.heap.size) A t _ HN.out HG.out.1 HG.out.2.1 (by rw [Go.Deep.nblk_alloc]; have := HG.out.2.2.1; rw [Go.Deep.nblk_alloc] at this; exact this) ⟨_, _, _, _, rfl⟩ (NodeIn.keeps (keeps_alloc _ _ _) _ _ HH.out.1) hzW (fun g hg => (KA.out.own.lt g hg).2)
          have hmk4 : MkAt C w4 := (HH.out.2.1.alloc (.cells #[.int .i64 t.op, .slice ra t.rs.length rc, .string t.nm, .slice ka t.kids.length kc, .int .i64 t.mn, .int .i64 t.mx] 25)).grown HG.out.2.1 (fun b hb => by have := hL1 b hb; omega)
          have hfr4 : Fr C w w4 := Fr.own ((KA.out.fr.drew.trans HH.out.2.2.1).alloc (.cells #[.int .i64 t.op, .slice ra t.rs.length rc, .string t.nm, .slice ka t.kids.length kc, .int .i64 t.mn, .int .i64 t.mx] 25)) HG.out.2.1 (fun b hb => by have := hL1 b hb; omega)
          have six3 : SixAt W1.drew w.heap.size (.int .i64 0) (.slice none 0 0) (.string ⟨#[]⟩) (.slice none 0 0) (.int .i64 0) (.int .i64 0) := KA.out.six
          have six4 : SixAt w4 w.heap.size (.int .i64 0) (.slice none 0 0) (.string ⟨#[]⟩) (.slice none 0 0) (.int .i64 0) (.int .i64 0) := ((six3.fr HH.out.2.2.1 (by omega)).fr ((Fr.refl C w3).alloc (.cells #[.int .i64 t.op, .slice ra t.rs.length rc, .string t.nm, .slice ka t.kids.length kc, .int .i64 t.mn, .int .i64 t.mx] 25)) (by omega)).grown HG.out.2.1 (fun b hb => by have := hL1 b hb; omega)
          have hat5 : LpAt C w1.heap.size w.heap.size 2 w (w4.setCell ⟨w1.heap.size, 3, none⟩ (.slice (some ⟨g, 0, none⟩) (l.length + 1) cap)) (l ++ [t]) (.slice (some ⟨g, 0, none⟩) (l.length + 1) cap) :=
            ⟨mk_put hmk4 (by omega) 3 _, own_put hOS (Nat.lt_succ_self _) 3 _, HG.out.2.2.2.put3 _, six_put six4 (by omega) 3 _, fr_put hfr4 (by omega) 3 _, slim_snoc KA.out.sl hsl⟩
          have K5 := Lib.hid hat5
          clear hat5 hOS hmk4 hfr4 six3 six4 hL1 HG HH HN HO p3 p3a p4 p4f b0 b1 b2 b3 b4 b5 KC
          go_wp2
          go_roundw
          case rel => exact ⟨j - 1, l ++ [t], _, congrArg (Value.int .i64) (by omega), by rw [List.length_append, List.length_singleton]; omega, by rw [List.length_append, List.length_singleton]; omega, K5.out⟩
          case measure => simp [intOf]; omega
      · obtain rfl : j = 0 := by omega
        obtain ⟨r0, r1, r2, r3, r4, r5⟩ := hat.six.cells
        obtain ⟨q0, q1, q2, q3, q4, q5⟩ := hat.six.free
        have hkd := hat.own.kids
        have hmkW := hat.mkc
        have hfrW := hat.fr
        have hslW := hat.sl
        obtain ⟨m, hm⟩ : ∃ m, l.length = m := ⟨_, rfl⟩
        have HM := Lib.hid (And.intro hm (And.intro hkd (And.intro hmkW hfrW)))
        rw [hm] at b3
        clear hm hkd hmkW hfrW hat
        go_wp2
        refine bodyPost_ret (v := .agg #[.int .i64 2, .slice none 0 0, .string ⟨#[]⟩, .slice va m vc, .int .i64 0, .int .i64 0]) (by simp [results, Try.results6, go_sem, r0, r1, r2, r3, r4, r5]) rfl ?_
        rcases HM.out.2.1 with h0 | ⟨g, gc, hgv, hgl, hkids⟩
        · rw [h0] at hl2; simp at hl2
        · simp only [Value.slice.injEq] at hgv
          obtain ⟨rfl, -, rfl⟩ := hgv
          refine ⟨ndKids 2 l, _, rfl, NodeIn.lower (lo := w.heap.size + 1) (by omega) _ _ ?_, mk_put6 HM.out.2.2.1 (by omega) _ _ _ _ _ _, put6_fr HM.out.2.2.2 (Nat.le_refl _) _ _ _ _ _ _, Slim.mk (by simp) (by omega) hslW⟩
          rw [← HM.out.1]
          exact kids_node _ _ 2 (by omega) l (by unfold maxLen; omega) g _ (by omega) (KidsIn.keeps (put6_keeps (keeps_refl _ _) (by omega) _ _ _ _ _ _) _ _ _ (show w.heap.size + 1 ≤ g by omega) (KidsIn.lower (by omega) _ _ _ hkids))
  · skip
    have hn2 := next_any C 2 _ (hm1.alloc (.cells #[.int .i64 2, .slice none 0 0, .string ⟨#[]⟩, .slice none 0 0, .int .i64 0, .int .i64 0] 25)) (by omega) (by omega)
    have hbx := NBox.new w1 (.int .i64 2) (.slice none 0 0) (.string ⟨#[]⟩) (.slice none 0 0) (.int .i64 0) (.int .i64 0)
    have hR2 := hR1.fr ((Fr.refl C w1).alloc (.cells #[.int .i64 2, .slice none 0 0, .string ⟨#[]⟩, .slice none 0 0, .int .i64 0, .int .i64 0] 25)) (by omega)
    have hT2 := hT1.alloc (.cells #[.int .i64 2, .slice none 0 0, .string ⟨#[]⟩, .slice none 0 0, .int .i64 0, .int .i64 0] 25)
    have K2 := Lib.hid (And.intro hn2 (And.intro hbx (And.intro hR2 hT2)))
    clear hn2 hbx hR2 hT2 hm1 hT1 hR1
    go_wp2_with fail
    refine (K2.out.1).mono ?_
    rintro e w2 ⟨⟨z2, rfl, hz20, hz21⟩, hm2, hf2⟩
    have hz2' := hf2.size
    rw [Go.Deep.nblk_alloc] at hz2'
    have hat0 : LpAt C w1.heap.size w.heap.size 2 w w2 [] (.slice none 0 0) := ⟨hm2, ownNodes_nil _ _, K2.out.2.1.fr hf2 (by omega), K2.out.2.2.1.fr hf2 (by omega), K2.out.2.2.2.trans hf2, by simp⟩
    obtain ⟨j2, rfl⟩ : ∃ j : Nat, z2 = (j : Int) := ⟨z2.toNat, by omega⟩
    have HA0 := Lib.hid hat0
    clear hat0 hm2 hf2
    go_wp2
    go_loopw [6] (fun i wr => ∃ (j : Nat) (l : List Nd) (v : Value), i = .int .i64 (j : Int) ∧ l.length + j ≤ 3 ∧ 2 ≤ l.length + j ∧ LpAt C w1.heap.size w.heap.size 2 w wr l v) (fun i _ => (intOf i).toNat)
    case atStart => exact ⟨j2 + 2, [], .slice none 0 0, congrArg (Value.int .i64) (by push_cast; omega), by simp; omega, by simp, HA0.out⟩
    case round =>
      obtain ⟨j, l, v, rfl, hl3, hl2, hat⟩ := hrel
      obtain ⟨va, vc, rfl⟩ := hat.own.slice
      obtain ⟨W1, rfl⟩ : ∃ W1, W1 = wr := ⟨_, rfl⟩
      have hzW := hat.box
      have hzW : w1.heap.size < W1.heap.size := (Array.getElem?_eq_some_iff.1 hat.box).1
      obtain ⟨b0, b1, b2, b3, b4, b5⟩ := hat.box.cells
      by_cases hj : 0 < j
      · have d1 : decide ((0 : Int) < (j : Int)) = true := by simp; omega
        have d2 : decide (0 < j) = true := by simp; omega
        have hcall := HI.out C W1.heap.size W1.drew hat.mkc.drew (by omega) (Nat.le_refl _)
        have KC := Lib.hid hcall
        have KA := Lib.hid hat
        clear hcall hat
        go_wp2
        go_region_law (first
          | (refine step_append_own rfl (.tmp 34) (.tmp 39) 23 rfl (w1.heap.size + 1) 25 i0 (.agg #[.int .i64 0, .slice none 0 0, .string ⟨#[]⟩, .slice none 0 0, .int .i64 0, .int .i64 0]) 6 88 Try.underlying23 ii ii0 ii1 ii2 rfl (by decide) (.slice va l.length vc) l.length _ (by simp [Act.eval]) HO.out ⟨w3.heap.size, 0, none⟩ 1 1 [.int .i64 t.op, .slice ra t.rs.length rc, .string t.nm, .slice ka t.kids.length kc, .int .i64 t.mn, .int .i64 t.mx] (by simp [Act.eval]) rfl (new_cells _ _ _) (SixOf.one (t := t) ⟨_, _, _, _, rfl⟩) (by unfold maxLen; omega) (by omega) (by show w1.heap.size + 1 ≤ (w3.alloc _).heap.size; rw [Go.Deep.nblk_alloc]; omega) ?_; intro v' w4 hown4 hg4 hat4; have hb4 := (HH.out.2.2.2.alloc (.cells #[.int .i64 t.op, .slice ra t.rs.length rc, .string t.nm, .slice ka t.kids.length kc, .int .i64 t.mn, .int .i64 t.mx] 25)).grown hg4 (fun b hb => by have := (KA.out.own.lt b hb).1; omega); have p4 := hb4.cells.2.2.2.1; have p4f := hb4.frozen 3; obtain ⟨g, cap, rfl⟩ : ∃ g cap, v' = .slice (some ⟨g, 0, none⟩) (l.length + 1) cap := (by rcases hown4.2 with ⟨_, h0⟩ | ⟨g, cap, cur, hv, _⟩; (omega); (exact ⟨g, cap, hv⟩)); have HG := Lib.hid (And.intro hown4 (And.intro hg4 (And.intro hat4 hb4))); clear hown4 hg4 hat4 hb4)
          | (go_simp; go_wp2_with (go_at_call 6; refine (KC.out).mono ?_; rintro e w3 ⟨t, tv, rfl, htv, hm3, hf3, hsl⟩; obtain ⟨ra, rc, ka, kc, rfl⟩ := id htv.shape; have hb3 := KA.out.box.drew.fr hf3 (by omega); have p3 := hb3.cells.2.2.2.1; have p3a : ∀ o, (w3.alloc o).cell? ⟨w1.heap.size, 3, none⟩ = some (.slice va l.length vc) := fun o => keeps_alloc 0 w3 o _ _ _ (Nat.zero_le _) p3; have hz3 : W1.heap.size ≤ w3.heap.size := hf3.size; obtain ⟨A, ho, hN⟩ := ((KA.out.own.fr (Fr.refl C W1).drew (by omega)).fr hf3 (by omega)).alloc (.cells #[.int .i64 t.op, .slice ra t.rs.length rc, .string t.nm, .slice ka t.kids.length kc, .int .i64 t.mn, .int .i64 t.mx] 25); have HO := Lib.hid ho; have HN := Lib.hid hN; have HH := Lib.hid (And.intro htv (And.intro hm3 (And.intro hf3 hb3))); clear ho hN htv hm3 hf3 hb3)))
        all_goals
          have hL1 := fun b hb => (KA.out.own.lt b hb).1
          have hOS := OwnNodes.snoc (lo2 := W1.heap.size) A t _ HN.out HG.out.1 HG.out.2.1 (by rw [Go.Deep.nblk_alloc]; have := HG.out.2.2.1; rw [Go.Deep.nblk_alloc] at this; exact this) ⟨_, _, _, _, rfl⟩ (NodeIn.keeps (keeps_alloc _ _ _) _ _ HH.out.1) hzW (fun g hg => (KA.out.own.lt g hg).2)
          have hmk4 : MkAt C w4 := (HH.out.2.1.alloc (.cells #[.int .i64 t.op, .slice ra t.rs.length rc, .string t.nm, .slice ka t.kids.length kc, .int .i64 t.mn, .int .i64 t.mx] 25)).grown HG.out.2.1 (fun b hb => by have := hL1 b hb; omega)
          have hfr4 : Fr C w w4 := Fr.own ((KA.out.fr.drew.trans HH.out.2.2.1).alloc (.cells #[.int .i64 t.op, .slice ra t.rs.length rc, .string t.nm, .slice ka t.kids.length kc, .int .i64 t.mn, .int .i64 t.mx] 25)) HG.out.2.1 (fun b hb => by have := hL1 b hb; omega)
          have six3 : SixAt W1.drew w.heap.size (.int .i64 0) (.slice none 0 0) (.string ⟨#[]⟩) (.slice none 0 0) (.int .i64 0) (.int .i64 0) := KA.out.six
          have six4 : SixAt w4 w.heap.size (.int .i64 0) (.slice none 0 0) (.string ⟨#[]⟩) (.slice none 0 0) (.int .i64 0) (.int .i64 0) := ((six3.fr HH.out.2.2.1 (by omega)).fr ((Fr.refl C w3).alloc (.cells #[.int .i64 t.op, .slice ra t.rs.length rc, .string t.nm, .slice ka t.kids.length kc, .int .i64 t.mn, .int .i64 t.mx] 25)) (by omega)).grown HG.out.2.1 (fun b hb => by have := hL1 b hb; omega)
          have hat5 : LpAt C w1.heap.size w.heap.size 2 w (w4.setCell ⟨w1.heap.size, 3, none⟩ (.slice (some ⟨g, 0, none⟩) (l.length + 1) cap)) (l ++ [t]) (.slice (some ⟨g, 0, none⟩) (l.length + 1) cap) :=
            ⟨mk_put hmk4 (by omega) 3 _, own_put hOS (Nat.lt_succ_self _) 3 _, HG.out.2.2.2.put3 _, six_put six4 (by omega) 3 _, fr_put hfr4 (by omega) 3 _, slim_snoc KA.out.sl hsl⟩
          have K5 := Lib.hid hat5
          clear hat5 hOS hmk4 hfr4 six3 six4 hL1 HG HH HN HO p3 p3a p4 p4f b0 b1 b2 b3 b4 b5 KC
          go_wp2
          go_roundw
          case rel => exact ⟨j - 1, l ++ [t], _, congrArg (Value.int .i64) (by omega), by rw [List.length_append, List.length_singleton]; omega, by rw [List.length_append, List.length_singleton]; omega, K5.out⟩
          case measure => simp [intOf]; omega
      · obtain rfl : j = 0 := by omega
        obtain ⟨r0, r1, r2, r3, r4, r5⟩ := hat.six.cells
        obtain ⟨q0, q1, q2, q3, q4, q5⟩ := hat.six.free
        have hkd := hat.own.kids
        have hmkW := hat.mkc
        have hfrW := hat.fr
        have hslW := hat.sl
        obtain ⟨m, hm⟩ : ∃ m, l.length = m := ⟨_, rfl⟩
        have HM := Lib.hid (And.intro hm (And.intro hkd (And.intro hmkW hfrW)))
        rw [hm] at b3
        clear hm hkd hmkW hfrW hat
        go_wp2
        refine bodyPost_ret (v := .agg #[.int .i64 2, .slice none 0 0, .string ⟨#[]⟩, .slice va m vc, .int .i64 0, .int .i64 0]) (by simp [results, Try.results6, go_sem, r0, r1, r2, r3, r4, r5]) rfl ?_
        rcases HM.out.2.1 with h0 | ⟨g, gc, hgv, hgl, hkids⟩
        · rw [h0] at hl2; simp at hl2
        · simp only [Value.slice.injEq] at hgv
          obtain ⟨rfl, -, rfl⟩ := hgv
          refine ⟨ndKids 2 l, _, rfl, NodeIn.lower (lo := w.heap.size + 1) (by omega) _ _ ?_, mk_put6 HM.out.2.2.1 (by omega) _ _ _ _ _ _, put6_fr HM.out.2.2.2 (Nat.le_refl _) _ _ _ _ _ _, Slim.mk (by simp) (by omega) hslW⟩
          rw [← HM.out.1]
          exact kids_node _ _ 2 (by omega) l (by unfold maxLen; omega) g _ (by omega) (KidsIn.keeps (put6_keeps (keeps_refl _ _) (by omega) _ _ _ _ _ _) _ _ _ (show w.heap.size + 1 ≤ g by omega) (KidsIn.lower (by omega) _ _ _ hkids))
  · skip
    have hn2 := next_any C 2 _ (hm1.alloc (.cells #[.int .i64 2, .slice none 0 0, .string ⟨#[]⟩, .slice none 0 0, .int .i64 0, .int .i64 0] 25)) (by omega) (by omega)
    have hbx := NBox.new w1 (.int .i64 2) (.slice none 0 0) (.string ⟨#[]⟩) (.slice none 0 0) (.int .i64 0) (.int .i64 0)
    have hR2 := hR1.fr ((Fr.refl C w1).alloc (.cells #[.int .i64 2, .slice none 0 0, .string ⟨#[]⟩, .slice none 0 0, .int .i64 0, .int .i64 0] 25)) (by omega)
    have hT2 := hT1.alloc (.cells #[.int .i64 2, .slice none 0 0, .string ⟨#[]⟩, .slice none 0 0, .int .i64 0, .int .i64 0] 25)
    have K2 := Lib.hid (And.intro hn2 (And.intro hbx (And.intro hR2 hT2)))
    clear hn2 hbx hR2 hT2 hm1 hT1 hR1
    go_wp2_with fail
    refine (K2.out.1).mono ?_
    rintro e w2 ⟨⟨z2, rfl, hz20, hz21⟩, hm2, hf2⟩
    have hz2' := hf2.size
    rw [Go.Deep.nblk_alloc] at hz2'
    have hat0 : LpAt C w1.heap.size w.heap.size 2 w w2 [] (.slice none 0 0) := ⟨hm2, ownNodes_nil _ _, K2.out.2.1.fr hf2 (by omega), K2.out.2.2.1.fr hf2 (by omega), K2.out.2.2.2.trans hf2, by simp⟩
    obtain ⟨j2, rfl⟩ : ∃ j : Nat, z2 = (j : Int) := ⟨z2.toNat, by omega⟩
    have HA0 := Lib.hid hat0
    clear hat0 hm2 hf2
    go_wp2
    go_loopw [6] (fun i wr => ∃ (j : Nat) (l : List Nd) (v : Value), i = .int .i64 (j : Int) ∧ l.length + j ≤ 3 ∧ 2 ≤ l.length + j ∧ LpAt C w1.heap.size w.heap.size 2 w wr l v) (fun i _ => (intOf i).toNat)
    case atStart => exact ⟨j2 + 2, [], .slice none 0 0, congrArg (Value.int .i64) (by push_cast; omega), by simp; omega, by simp, HA0.out⟩
    case round =>
      obtain ⟨j, l, v, rfl, hl3, hl2, hat⟩ := hrel
      obtain ⟨va, vc, rfl⟩ := hat.own.slice
      obtain ⟨W1, rfl⟩ : ∃ W1, W1 = wr := ⟨_, rfl⟩
      have hzW := hat.box
      have hzW : w1.heap.size < W1.heap.size := (Array.getElem?_eq_some_iff.1 hat.box).1
      obtain ⟨b0, b1, b2, b3, b4, b5⟩ := hat.box.cells
      by_cases hj : 0 < j
      · have d1 : decide ((0 : Int) < (j : Int)) = true := by simp; omega
        have d2 : decide (0 < j) = true := by simp; omega
        have hcall := HI.out C W1.heap.size W1.drew hat.mkc.drew (by omega) (Nat.le_refl _)
        have KC := Lib.hid hcall
        have KA := Lib.hid hat
        clear hcall hat
        go_wp2
        go_region_law (first
          | (refine step_append_own rfl (.tmp 34) (.tmp 39) 23 rfl (w1.heap.size + 1) 25 i0 (.agg #[.int .i64 0, .slice none 0 0, .string ⟨#[]⟩, .slice none 0 0, .int .i64 0, .int .i64 0]) 6 88 Try.underlying23 ii ii0 ii1 ii2 rfl (by decide) (.slice va l.length vc) l.length _ (by simp [Act.eval]) HO.out ⟨w3.heap.size, 0, none⟩ 1 1 [.int .i64 t.op, .slice ra t.rs.length rc, .string t.nm, .slice ka t.kids.length kc, .int .i64 t.mn, .int .i64 t.mx] (by simp [Act.eval]) rfl (new_cells _ _ _) (SixOf.one (t := t) ⟨_, _, _, _, rfl⟩) (by unfold maxLen; omega) (by omega) (by show w1.heap.size + 1 ≤ (w3.alloc _).heap.size; rw [Go.Deep.nblk_alloc]; omega) ?_; intro v' w4 hown4 hg4 hat4; have hb4 := (HH.out.2.2.2.alloc (.cells #[.int .i64 t.op, .slice ra t.rs.length rc, .string t.nm, .slice ka t.kids.length kc, .int .i64 t.mn, .int .i64 t.mx] 25)).grown hg4 (fun b hb => by have := (KA.out.own.lt b hb).1; omega); have p4 := hb4.cells.2.2.2.1; have p4f := hb4.frozen 3; obtain ⟨g, cap, rfl⟩ : ∃ g cap, v' = .slice (some ⟨g, 0, none⟩) (l.length + 1) cap := (by rcases hown4.2 with ⟨_, h0⟩ | ⟨g, cap, cur, hv, _⟩; (omega); (exact ⟨g, cap, hv⟩)); have HG := Lib.hid (And.intro hown4 (And.intro hg4 (And.intro hat4 hb4))); clear hown4 hg4 hat4 hb4)
          | (go_simp; go_wp2_with (go_at_call 6; refine (KC.out).mono ?_; rintro e w3 ⟨t, tv, rfl, htv, hm3, hf3, hsl⟩; obtain ⟨ra, rc, ka, kc, rfl⟩ := id htv.shape; have hb3 := KA.out.box.drew.fr hf3 (by omega); have p3 := hb3.cells.2.2.2.1; have p3a : ∀ o, (w3.alloc o).cell? ⟨w1.heap.size, 3, none⟩ = some (.slice va l.length vc) := fun o => keeps_alloc 0 w3 o _ _ _ (Nat.zero_le _) p3; have hz3 : W1.heap.size ≤ w3.heap.size := hf3.size; obtain ⟨A, ho, hN⟩ := ((KA.out.own.fr (Fr.refl C W1).drew (by omega)).fr hf3 (by omega)).alloc (.cells #[.int .i64 t.op, .slice ra t.rs.length rc, .string t.nm, .slice ka t.kids.length kc, .int .i64 t.mn, .int .i64 t.mx] 25); have HO := Lib.hid ho; have HN := Lib.hid hN; have HH := Lib.hid (And.intro htv (And.intro hm3 (And.intro hf3 hb3))); clear ho hN htv hm3 hf3 hb3)))
        all_goals
          have hL1 := fun b hb => (KA.out.own.lt b hb).1
          have hOS := OwnNodes.snoc (lo2 := W1.heap.size) A t _ HN.out HG.out.1 HG.out.2.1 (by rw [Go.Deep.nblk_alloc]; have := HG.out.2.2.1; rw [Go.Deep.nblk_alloc] at this; exact this) ⟨_, _, _, _, rfl⟩ (NodeIn.keeps (keeps_alloc _ _ _) _ _ HH.out.1) hzW (fun g hg => (KA.out.own.lt g hg).2)
          have hmk4 : MkAt C w4 := (HH.out.2.1.alloc (.cells #[.int .i64 t.op, .slice ra t.rs.length rc, .string t.nm, .slice ka t.kids.length kc, .int .i64 t.mn, .int .i64 t.mx] 25)).grown HG.out.2.1 (fun b hb => by have := hL1 b hb; omega)
          have hfr4 : Fr C w w4 := Fr.own ((KA.out.fr.drew.trans HH.out.2.2.1).alloc (.cells #[.int .i64 t.op, .slice ra t.rs.length rc, .string t.nm, .slice ka t.kids.length kc, .int .i64 t.mn, .int .i64 t.mx] 25)) HG.out.2.1 (fun b hb => by have := hL1 b hb; omega)
          have six3 : SixAt W1.drew w.heap.size (.int .i64 0) (.slice none 0 0) (.string ⟨#[]⟩) (.slice none 0 0) (.int .i64 0) (.int .i64 0) := KA.out.six
          have six4 : SixAt w4 w.heap.size (.int .i64 0) (.slice none 0 0) (.string ⟨#[]⟩) (.slice none 0 0) (.int .i64 0) (.int .i64 0) := ((six3.fr HH.out.2.2.1 (by omega)).fr ((Fr.refl C w3).alloc (.cells #[.int .i64 t.op, .slice ra t.rs.length rc, .string t.nm, .slice ka t.kids.length kc, .int .i64 t.mn, .int .i64 t.mx] 25)) (by omega)).grown HG.out.2.1 (fun b hb => by have := hL1 b hb; omega)
          have hat5 : LpAt C w1.heap.size w.heap.size 2 w (w4.setCell ⟨w1.heap.size, 3, none⟩ (.slice (some ⟨g, 0, none⟩) (l.length + 1) cap)) (l ++ [t]) (.slice (some ⟨g, 0, none⟩) (l.length + 1) cap) :=
            ⟨mk_put hmk4 (by omega) 3 _, own_put hOS (Nat.lt_succ_self _) 3 _, HG.out.2.2.2.put3 _, six_put six4 (by omega) 3 _, fr_put hfr4 (by omega) 3 _, slim_snoc KA.out.sl hsl⟩
          have K5 := Lib.hid hat5
          clear hat5 hOS hmk4 hfr4 six3 six4 hL1 HG HH HN HO p3 p3a p4 p4f b0 b1 b2 b3 b4 b5 KC
          go_wp2
          go_roundw
          case rel => exact ⟨j - 1, l ++ [t], _, congrArg (Value.int .i64) (by omega), by rw [List.length_append, List.length_singleton]; omega, by rw [List.length_append, List.length_singleton]; omega, K5.out⟩
          case measure => simp [intOf]; omega
      · obtain rfl : j = 0 := by omega
        obtain ⟨r0, r1, r2, r3, r4, r5⟩ := hat.six.cells
        obtain ⟨q0, q1, q2, q3, q4, q5⟩ := hat.six.free
        have hkd := hat.own.kids
        have hmkW := hat.mkc
        have hfrW := hat.fr
        have hslW := hat.sl
        obtain ⟨m, hm⟩ : ∃ m, l.length = m := ⟨_, rfl⟩
        have HM := Lib.hid (And.intro hm (And.intro hkd (And.intro hmkW hfrW)))
        rw [hm] at b3
        clear hm hkd hmkW hfrW hat
        go_wp2
        refine bodyPost_ret (v := .agg #[.int .i64 2, .slice none 0 0, .string ⟨#[]⟩, .slice va m vc, .int .i64 0, .int .i64 0]) (by simp [results, Try.results6, go_sem, r0, r1, r2, r3, r4, r5]) rfl ?_
        rcases HM.out.2.1 with h0 | ⟨g, gc, hgv, hgl, hkids⟩
        · rw [h0] at hl2; simp at hl2
        · simp only [Value.slice.injEq] at hgv
          obtain ⟨rfl, -, rfl⟩ := hgv
          refine ⟨ndKids 2 l, _, rfl, NodeIn.lower (lo := w.heap.size + 1) (by omega) _ _ ?_, mk_put6 HM.out.2.2.1 (by omega) _ _ _ _ _ _, put6_fr HM.out.2.2.2 (Nat.le_refl _) _ _ _ _ _ _, Slim.mk (by simp) (by omega) hslW⟩
          rw [← HM.out.1]
          exact kids_node _ _ 2 (by omega) l (by unfold maxLen; omega) g _ (by omega) (KidsIn.keeps (put6_keeps (keeps_refl _ _) (by omega) _ _ _ _ _ _) _ _ _ (show w.heap.size + 1 ≤ g by omega) (KidsIn.lower (by omega) _ _ _ hkids))
  · skip
    have hn2 := next_any C 2 _ (hm1.alloc (.cells #[.int .i64 3, .slice none 0 0, .string ⟨#[]⟩, .slice none 0 0, .int .i64 0, .int .i64 0] 25)) (by omega) (by omega)
    have hbx := NBox.new w1 (.int .i64 3) (.slice none 0 0) (.string ⟨#[]⟩) (.slice none 0 0) (.int .i64 0) (.int .i64 0)
    have hR2 := hR1.fr ((Fr.refl C w1).alloc (.cells #[.int .i64 3, .slice none 0 0, .string ⟨#[]⟩, .slice none 0 0, .int .i64 0, .int .i64 0] 25)) (by omega)
    have hT2 := hT1.alloc (.cells #[.int .i64 3, .slice none 0 0, .string ⟨#[]⟩, .slice none 0 0, .int .i64 0, .int .i64 0] 25)
    have K2 := Lib.hid (And.intro hn2 (And.intro hbx (And.intro hR2 hT2)))
    clear hn2 hbx hR2 hT2 hm1 hT1 hR1
    go_wp2_with fail
    refine (K2.out.1).mono ?_
    rintro e w2 ⟨⟨z2, rfl, hz20, hz21⟩, hm2, hf2⟩
    have hz2' := hf2.size
    rw [Go.Deep.nblk_alloc] at hz2'
    have hat0 : LpAt C w1.heap.size w.heap.size 3 w w2 [] (.slice none 0 0) := ⟨hm2, ownNodes_nil _ _, K2.out.2.1.fr hf2 (by omega), K2.out.2.2.1.fr hf2 (by omega), K2.out.2.2.2.trans hf2, by simp⟩
    obtain ⟨j2, rfl⟩ : ∃ j : Nat, z2 = (j : Int) := ⟨z2.toNat, by omega⟩
    have HA0 := Lib.hid hat0
    clear hat0 hm2 hf2
    go_wp2
    go_loopw [8] (fun i wr => ∃ (j : Nat) (l : List Nd) (v : Value), i = .int .i64 (j : Int) ∧ l.length + j ≤ 3 ∧ 2 ≤ l.length + j ∧ LpAt C w1.heap.size w.heap.size 3 w wr l v) (fun i _ => (intOf i).toNat)
    case atStart => exact ⟨j2 + 2, [], .slice none 0 0, congrArg (Value.int .i64) (by push_cast; omega), by simp; omega, by simp, HA0.out⟩
    case round =>
      obtain ⟨j, l, v, rfl, hl3, hl2, hat⟩ := hrel
      obtain ⟨va, vc, rfl⟩ := hat.own.slice
      obtain ⟨W1, rfl⟩ : ∃ W1, W1 = wr := ⟨_, rfl⟩
      have hzW := hat.box
      have hzW : w1.heap.size < W1.heap.size := (Array.getElem?_eq_some_iff.1 hat.box).1
      obtain ⟨b0, b1, b2, b3, b4, b5⟩ := hat.box.cells
      by_cases hj : 0 < j
      · have d1 : decide ((0 : Int) < (j : Int)) = true := by simp; omega
        have d2 : decide (0 < j) = true := by simp; omega
        have hcall := HI.out C W1.heap.size W1.drew hat.mkc.drew (by omega) (Nat.le_refl _)
        have KC := Lib.hid hcall
        have KA := Lib.hid hat
        clear hcall hat
        go_wp2
        go_region_law (first
          | (refine step_append_own rfl (.tmp 54) (.tmp 59) 23 rfl (w1.heap.size + 1) 25 i0 (.agg #[.int .i64 0, .slice none 0 0, .string ⟨#[]⟩, .slice none 0 0, .int .i64 0, .int .i64 0]) 6 88 Try.underlying23 ii ii0 ii1 ii2 rfl (by decide) (.slice va l.length vc) l.length _ (by simp [Act.eval]) HO.out ⟨w3.heap.size, 0, none⟩ 1 1 [.int .i64 t.op, .slice ra t.rs.length rc, .string t.nm, .slice ka t.kids.length kc, .int .i64 t.mn, .int .i64 t.mx] (by simp [Act.eval]) rfl (new_cells _ _ _) (SixOf.one (t := t) ⟨_, _, _, _, rfl⟩) (by unfold maxLen; omega) (by omega) (by show w1.heap.size + 1 ≤ (w3.alloc _).heap.size; rw [Go.Deep.nblk_alloc]; omega) ?_; intro v' w4 hown4 hg4 hat4; have hb4 := (HH.out.2.2.2.alloc (.cells #[.int .i64 t.op, .slice ra t.rs.length rc, .string t.nm, .slice ka t.kids.length kc, .int .i64 t.mn, .int .i64 t.mx] 25)).grown hg4 (fun b hb => by have := (KA.out.own.lt b hb).1; omega); have p4 := hb4.cells.2.2.2.1; have p4f := hb4.frozen 3; obtain ⟨g, cap, rfl⟩ : ∃ g cap, v' = .slice (some ⟨g, 0, none⟩) (l.length + 1) cap := (by rcases hown4.2 with ⟨_, h0⟩ | ⟨g, cap, cur, hv, _⟩; (omega); (exact ⟨g, cap, hv⟩)); have HG := Lib.hid (And.intro hown4 (And.intro hg4 (And.intro hat4 hb4))); clear hown4 hg4 hat4 hb4)
          | (go_simp; go_wp2_with (go_at_call 6; refine (KC.out).mono ?_; rintro e w3 ⟨t, tv, rfl, htv, hm3, hf3, hsl⟩; obtain ⟨ra, rc, ka, kc, rfl⟩ := id htv.shape; have hb3 := KA.out.box.drew.fr hf3 (by omega); have p3 := hb3.cells.2.2.2.1; have p3a : ∀ o, (w3.alloc o).cell? ⟨w1.heap.size, 3, none⟩ = some (.slice va l.length vc) := fun o => keeps_alloc 0 w3 o _ _ _ (Nat.zero_le _) p3; have hz3 : W1.heap.size ≤ w3.heap.size := hf3.size; obtain ⟨A, ho, hN⟩ := ((KA.out.own.fr (Fr.refl C W1).drew (by omega)).fr hf3 (by omega)).alloc (.cells #[.int .i64 t.op, .slice ra t.rs.length rc, .string t.nm, .slice ka t.kids.length kc, .int .i64 t.mn, .int .i64 t.mx] 25); have HO := Lib.hid ho; have HN := Lib.hid hN; have HH := Lib.hid (And.intro htv (And.intro hm3 (And.intro hf3 hb3))); clear ho hN htv hm3 hf3 hb3)))
        all_goals
          have hL1 := fun b hb => (KA.out.own.lt b hb).1
          have hOS := OwnNodes.snoc (lo2 := W1.heap.size) A t _ HN.out HG.out.1 HG.out.2.1 (by rw [Go.Deep.nblk_alloc]; have := HG.out.2.2.1; rw [Go.Deep.nblk_alloc] at this; exact this) ⟨_, _, _, _, rfl⟩ (NodeIn.keeps (keeps_alloc _ _ _) _ _ HH.out.1) hzW (fun g hg => (KA.out.own.lt g hg).2)
          have hmk4 : MkAt C w4 := (HH.out.2.1.alloc (.cells #[.int .i64 t.op, .slice ra t.rs.length rc, .string t.nm, .slice ka t.kids.length kc, .int .i64 t.mn, .int .i64 t.mx] 25)).grown HG.out.2.1 (fun b hb => by have := hL1 b hb; omega)
          have hfr4 : Fr C w w4 := Fr.own ((KA.out.fr.drew.trans HH.out.2.2.1).alloc (.cells #[.int .i64 t.op, .slice ra t.rs.length rc, .string t.nm, .slice ka t.kids.length kc, .int .i64 t.mn, .int .i64 t.mx] 25)) HG.out.2.1 (fun b hb => by have := hL1 b hb; omega)
          have six3 : SixAt W1.drew w.heap.size (.int .i64 0) (.slice none 0 0) (.string ⟨#[]⟩) (.slice none 0 0) (.int .i64 0) (.int .i64 0) := KA.out.six
          have six4 : SixAt w4 w.heap.size (.int .i64 0) (.slice none 0 0) (.string ⟨#[]⟩) (.slice none 0 0) (.int .i64 0) (.int .i64 0) := ((six3.fr HH.out.2.2.1 (by omega)).fr ((Fr.refl C w3).alloc (.cells #[.int .i64 t.op, .slice ra t.rs.length rc, .string t.nm, .slice ka t.kids.length kc, .int .i64 t.mn, .int .i64 t.mx] 25)) (by omega)).grown HG.out.2.1 (fun b hb => by have := hL1 b hb; omega)
          have hat5 : LpAt C w1.heap.size w.heap.size 3 w (w4.setCell ⟨w1.heap.size, 3, none⟩ (.slice (some ⟨g, 0, none⟩) (l.length + 1) cap)) (l ++ [t]) (.slice (some ⟨g, 0, none⟩) (l.length + 1) cap) :=
            ⟨mk_put hmk4 (by omega) 3 _, own_put hOS (Nat.lt_succ_self _) 3 _, HG.out.2.2.2.put3 _, six_put six4 (by omega) 3 _, fr_put hfr4 (by omega) 3 _, slim_snoc KA.out.sl hsl⟩
          have K5 := Lib.hid hat5
          clear hat5 hOS hmk4 hfr4 six3 six4 hL1 HG HH HN HO p3 p3a p4 p4f b0 b1 b2 b3 b4 b5 KC
          go_wp2
          go_roundw
          case rel => exact ⟨j - 1, l ++ [t], _, congrArg (Value.int .i64) (by omega), by rw [List.length_append, List.length_singleton]; omega, by rw [List.length_append, List.length_singleton]; omega, K5.out⟩
          case measure => simp [intOf]; omega
      · obtain rfl : j = 0 := by omega
        obtain ⟨r0, r1, r2, r3, r4, r5⟩ := hat.six.cells
        obtain ⟨q0, q1, q2, q3, q4, q5⟩ := hat.six.free
        have hkd := hat.own.kids
        have hmkW := hat.mkc
        have hfrW := hat.fr
        have hslW := hat.sl
        obtain ⟨m, hm⟩ : ∃ m, l.length = m := ⟨_, rfl⟩
        have HM := Lib.hid (And.intro hm (And.intro hkd (And.intro hmkW hfrW)))
        rw [hm] at b3
        clear hm hkd hmkW hfrW hat
        go_wp2
        refine bodyPost_ret (v := .agg #[.int .i64 3, .slice none 0 0, .string ⟨#[]⟩, .slice va m vc, .int .i64 0, .int .i64 0]) (by simp [results, Try.results6, go_sem, r0, r1, r2, r3, r4, r5]) rfl ?_
        rcases HM.out.2.1 with h0 | ⟨g, gc, hgv, hgl, hkids⟩
        · rw [h0] at hl2; simp at hl2
        · simp only [Value.slice.injEq] at hgv
          obtain ⟨rfl, -, rfl⟩ := hgv
          refine ⟨ndKids 3 l, _, rfl, NodeIn.lower (lo := w.heap.size + 1) (by omega) _ _ ?_, mk_put6 HM.out.2.2.1 (by omega) _ _ _ _ _ _, put6_fr HM.out.2.2.2 (Nat.le_refl _) _ _ _ _ _ _, Slim.mk (by simp) (by omega) hslW⟩
          rw [← HM.out.1]
          exact kids_node _ _ 3 (by omega) l (by unfold maxLen; omega) g _ (by omega) (KidsIn.keeps (put6_keeps (keeps_refl _ _) (by omega) _ _ _ _ _ _) _ _ _ (show w.heap.size + 1 ≤ g by omega) (KidsIn.lower (by omega) _ _ _ hkids))
  · have hmd := hm1.drew
    have hRd : SixAt w1.drew w.heap.size (.int .i64 0) (.slice none 0 0) (.string ⟨#[]⟩) (.slice none 0 0) (.int .i64 0) (.int .i64 0) := hR1
    have hnx := fun W (hW : MkAt C W) => next_any C 26 W hW (by omega) (by omega)
    have hnd := fun W (hW : MkAt C W) => HI.out C W.heap.size W hW hW.lt (Nat.le_refl _)
    have KX := Lib.hid (And.intro hnx (And.intro hnd (And.intro hmd (And.intro hRd hT1.drew))))
    clear hnx hnd hmd hR1 hRd hT1 hm1
    go_wp2
    go_region_law (go_simp; go_wp2_with (first
      | (go_at_call 13; refine (KX.out.1 _ KX.out.2.2.1).mono ?_; rintro e wa ⟨⟨za, rfl, hza0, hza1⟩, hma, hfa⟩; obtain ⟨ia, rfl⟩ : ∃ i : Nat, za = (i : Int) := ⟨za.toNat, by omega⟩; have ea : IntKind.u8.wrap (97 + (ia : Int)) = 97 + (ia : Int) := IntWalk.u8_in _ (by omega); have ea2 : IntKind.i64.wrap (97 + (ia : Int)) = 97 + (ia : Int) := IntWalk.i64_in _ (by omega); have hsa := Lib.hid (KX.out.2.2.2.1.fr hfa (by omega)); have hta := KX.out.2.2.2.2.trans hfa)
      | (go_at_call 13; refine (KX.out.1 _ (by assumption)).mono ?_; rintro e wb ⟨⟨zb, rfl, hzb0, hzb1⟩, hmb, hfb⟩; obtain ⟨ib, rfl⟩ : ∃ i : Nat, zb = (i : Int) := ⟨zb.toNat, by omega⟩; have eb : IntKind.u8.wrap (97 + (ib : Int)) = 97 + (ib : Int) := IntWalk.u8_in _ (by omega); have eb2 : IntKind.i64.wrap (97 + (ib : Int)) = 97 + (ib : Int) := IntWalk.i64_in _ (by omega); have hcv := fun W g h h' => conv_two ia ib (by omega) (by omega) W g h h'; have hsb := Lib.hid (hsa.out.fr hfb (by omega)); have htb := hta.trans hfb)
      | (go_at_call 6; refine (KX.out.2.1 _ (by first | assumption | exact MkAt.alloc (by assumption) _)).mono ?_; rintro e wc ⟨t, tv, rfl, htv, hmc, hfc, hsl⟩; obtain ⟨ra, rc, ka, kc, rfl⟩ := id htv.shape; have hsc := Lib.hid (SixAt.fr (by first | exact hsb.out | exact hsb.out.al _) hfc (by omega)); have htc : Fr C w wc := Fr.trans (by first | exact htb | exact htb.alloc _) hfc; (first | (have hfc' : Fr C wb wc := by with_reducible exact hfc) | (have hby0 : wc.cell? ⟨wb.heap.size, 0, none⟩ = some (.int .u8 (97 + (ia : Int))) := World.grownBy.cell hfc (a := ⟨wb.heap.size, 0, none⟩) (by rw [Lib.cell_of_heap (heap_alloc_new _ _)]; rfl) (by simp only [ne_eq, Option.some.injEq]; have := hmb.lt; omega); have hby1 : wc.cell? ⟨wb.heap.size, 1, none⟩ = some (.int .u8 (97 + (ib : Int))) := World.grownBy.cell hfc (a := ⟨wb.heap.size, 1, none⟩) (by rw [Lib.cell_of_heap (heap_alloc_new _ _)]; rfl) (by simp only [ne_eq, Option.some.injEq]; have := hmb.lt; omega); have hbyo0 := fun o => keeps_alloc 0 wc o _ _ _ (Nat.zero_le _) hby0; have hbyo1 := fun o => keeps_alloc 0 wc o _ _ _ (Nat.zero_le _) hby1)); have g0 := fun o => (hsc.out.al o).cells.1; have g1 := fun o => (hsc.out.al o).cells.2.1; have g2 := fun o => (hsc.out.al o).cells.2.2.1; have g3 := fun o => (hsc.out.al o).cells.2.2.2.1; have g4 := fun o => (hsc.out.al o).cells.2.2.2.2.1; have g5 := fun o => (hsc.out.al o).cells.2.2.2.2.2; have f0 := fun o => (hsc.out.al o).free.1; have f1 := fun o => (hsc.out.al o).free.2.1; have f2 := fun o => (hsc.out.al o).free.2.2.1; have f3 := fun o => (hsc.out.al o).free.2.2.2.1; have f4 := fun o => (hsc.out.al o).free.2.2.2.2.1; have f5 := fun o => (hsc.out.al o).free.2.2.2.2.2; have g0' := fun o o' => ((hsc.out.al o).al o').cells.1; have g1' := fun o o' => ((hsc.out.al o).al o').cells.2.1; have g2' := fun o o' => ((hsc.out.al o).al o').cells.2.2.1; have g3' := fun o o' => ((hsc.out.al o).al o').cells.2.2.2.1; have g4' := fun o o' => ((hsc.out.al o).al o').cells.2.2.2.2.1; have g5' := fun o o' => ((hsc.out.al o).al o').cells.2.2.2.2.2; have f0' := fun o o' => ((hsc.out.al o).al o').free.1; have f1' := fun o o' => ((hsc.out.al o).al o').free.2.1; have f2' := fun o o' => ((hsc.out.al o).al o').free.2.2.1; have f3' := fun o o' => ((hsc.out.al o).al o').free.2.2.2.1; have f4' := fun o o' => ((hsc.out.al o).al o').free.2.2.2.2.1; have f5' := fun o o' => ((hsc.out.al o).al o').free.2.2.2.2.2)))
    all_goals go_wp2
    all_goals
      have hS : (ByteArray.mk #[97 + UInt8.ofNat ia, 97 + UInt8.ofNat ib]).size ≤ maxLen := by show 2 ≤ maxLen; unfold maxLen; omega
      have hz0' : i64In 0 := small64 (by omega)
      have hzc := hfc.size
      have hzw : w.heap.size + 1 ≤ wc.heap.size := by have := hfa.size; have := hfb.size; (try simp only [Go.Deep.nblk_alloc] at hzc); have e : w1.drew.heap.size = w1.heap.size := rfl; omega
      have htv' := NodeIn.lower (lo' := w.heap.size + 1) (by (try simp only [Go.Deep.nblk_alloc]); have := hfa.size; have := hfb.size; have e : w1.drew.heap.size = w1.heap.size := rfl; omega) _ _ htv
      first
        | (refine bodyPost_ret (v := .agg #[.int .i64 5, .slice none 0 0, .string ⟨#[97 + UInt8.ofNat ia, 97 + UInt8.ofNat ib]⟩, .slice (some ⟨wc.heap.size, 0, none⟩) 1 1, .int .i64 0, .int .i64 0]) (by simp [results, Try.results6, go_sem, g0, g1, g2, g3, g4, g5, g0', g1', g2', g3', g4', g5']) rfl ?_
           first
             | exact kid_out 5 (by omega) _ hS 0 0 hz0' hz0' t hsl wc.heap.size _ _ _ _ _ _ (hmc.alloc _) (htc.alloc _) hlo (by omega) hCl _ _ _ _ _ _ ⟨_, _, _, _, _, _, _, _, _, _, rfl, rfl, rfl, rfl, rfl, rfl⟩ (NodeIn.keeps (keeps_alloc _ _ _) _ _ htv') (NBox.new wc _ _ _ _ _ _)
             | exact kid_out 5 (by omega) _ hS 0 0 hz0' hz0' t hsl wc.heap.size _ _ _ _ _ _ ((hmc.alloc _).alloc _) ((htc.alloc _).alloc _) hlo (by omega) hCl _ _ _ _ _ _ ⟨_, _, _, _, _, _, _, _, _, _, rfl, rfl, rfl, rfl, rfl, rfl⟩ (NodeIn.keeps (keeps_alloc _ _ _) _ _ (NodeIn.keeps (keeps_alloc _ _ _) _ _ htv')) ((NBox.new wc _ _ _ _ _ _).alloc _))
        | (refine bodyPost_ret (v := .agg #[.int .i64 5, .slice none 0 0, .string ⟨#[97 + UInt8.ofNat ia, 97 + UInt8.ofNat ib]⟩, .slice (some ⟨wc.heap.size + 1, 0, none⟩) 1 1, .int .i64 0, .int .i64 0]) (by simp [results, Try.results6, go_sem, g0, g1, g2, g3, g4, g5, g0', g1', g2', g3', g4', g5']) rfl ?_
           have hbx := NBox.new (wc.alloc (.cells #[.int .u8 (97 + (ia : Int)), .int .u8 (97 + (ib : Int))] 5)) (.int .i64 t.op) (.slice ra t.rs.length rc) (.string t.nm) (.slice ka t.kids.length kc) (.int .i64 t.mn) (.int .i64 t.mx)
           rw [Go.Deep.nblk_alloc] at hbx
           exact kid_out 5 (by omega) _ hS 0 0 hz0' hz0' t hsl (wc.heap.size + 1) _ _ _ _ _ _ ((hmc.alloc _).alloc _) ((htc.alloc _).alloc _) hlo (by omega) hCl _ _ _ _ _ _ ⟨_, _, _, _, _, _, _, _, _, _, rfl, rfl, rfl, rfl, rfl, rfl⟩ (NodeIn.keeps (keeps_alloc _ _ _) _ _ (NodeIn.keeps (keeps_alloc _ _ _) _ _ htv')) hbx)
  · have e70 : (z7 == 0) = false := by rw [beq_eq_false_iff_ne]; omega
    have e71 : (z7 == 1) = false := by rw [beq_eq_false_iff_ne]; omega
    have e72 : (z7 == 2) = false := by rw [beq_eq_false_iff_ne]; omega
    have e73 : (z7 == 3) = false := by rw [beq_eq_false_iff_ne]; omega
    have e74 : (z7 == 4) = false := by rw [beq_eq_false_iff_ne]; omega
    have hnd := HI.out C w1.heap.size w1 hm1 (by omega) (Nat.le_refl _)
    have KX := Lib.hid (And.intro hnd (And.intro hR1 hT1))
    clear hnd hR1 hT1 hm1
    go_wp2_with fail
    refine (KX.out.1).mono ?_
    rintro e wc ⟨t, tv, rfl, htv, hmc, hfc, hsl⟩
    obtain ⟨ra, rc, ka, kc, rfl⟩ := id htv.shape
    have hzc := hfc.size
    have hn3 := next_any C 3 _ (hmc.alloc (.cells #[.int .i64 t.op, .slice ra t.rs.length rc, .string t.nm, .slice ka t.kids.length kc, .int .i64 t.mn, .int .i64 t.mx] 25)) (by omega) (by omega)
    have hK1 := NBox.new wc (.int .i64 t.op) (.slice ra t.rs.length rc) (.string t.nm) (.slice ka t.kids.length kc) (.int .i64 t.mn) (.int .i64 t.mx)
    have htv1 := NodeIn.keeps (keeps_alloc _ _ (.cells #[.int .i64 t.op, .slice ra t.rs.length rc, .string t.nm, .slice ka t.kids.length kc, .int .i64 t.mn, .int .i64 t.mx] 25)) _ _ (NodeIn.lower (lo' := w.heap.size + 1) (by omega) _ _ htv)
    have hsx1 := (KX.out.2.1.fr hfc (by omega)).al (.cells #[.int .i64 t.op, .slice ra t.rs.length rc, .string t.nm, .slice ka t.kids.length kc, .int .i64 t.mn, .int .i64 t.mx] 25)
    have hfr1 := (KX.out.2.2.trans hfc).alloc (.cells #[.int .i64 t.op, .slice ra t.rs.length rc, .string t.nm, .slice ka t.kids.length kc, .int .i64 t.mn, .int .i64 t.mx] 25)
    have K1 := Lib.hid (And.intro hn3 (And.intro hK1 (And.intro htv1 (And.intro hsx1 hfr1))))
    clear hn3 hK1 htv1 hsx1 hfr1 htv hmc hfc
    go_wp2_with fail
    refine (K1.out.1).mono ?_
    rintro e wn ⟨⟨z3, rfl, hz30, hz31⟩, hmn, hfn⟩
    have hzn := hfn.size
    rw [Go.Deep.nblk_alloc] at hzn
    have hX := NBox.new wn (.int .i64 4) (.slice none 0 0) (.string ⟨#[]⟩) (.slice (some ⟨wc.heap.size, 0, none⟩) 1 1) (.int .i64 z3) (.int .i64 0)
    have hmx := hmn.alloc (.cells #[.int .i64 4, .slice none 0 0, .string ⟨#[]⟩, .slice (some ⟨wc.heap.size, 0, none⟩) 1 1, .int .i64 z3, .int .i64 0] 25)
    have hfx := (K1.out.2.2.2.2.trans hfn).alloc (.cells #[.int .i64 4, .slice none 0 0, .string ⟨#[]⟩, .slice (some ⟨wc.heap.size, 0, none⟩) 1 1, .int .i64 z3, .int .i64 0] 25)
    have hKx := (K1.out.2.1.fr hfn (by omega)).alloc (.cells #[.int .i64 4, .slice none 0 0, .string ⟨#[]⟩, .slice (some ⟨wc.heap.size, 0, none⟩) 1 1, .int .i64 z3, .int .i64 0] 25)
    have htx := NodeIn.keeps (keeps_alloc _ _ (.cells #[.int .i64 4, .slice none 0 0, .string ⟨#[]⟩, .slice (some ⟨wc.heap.size, 0, none⟩) 1 1, .int .i64 z3, .int .i64 0] 25)) _ _ (NodeIn.keeps (hfn.keeps (show C < w.heap.size + 1 by omega)) _ _ K1.out.2.2.1)
    have hsx := (K1.out.2.2.2.1.fr hfn (by omega)).al (.cells #[.int .i64 4, .slice none 0 0, .string ⟨#[]⟩, .slice (some ⟨wc.heap.size, 0, none⟩) 1 1, .int .i64 z3, .int .i64 0] 25)
    go_wp2_with fail
    have hzX : (wn.alloc (.cells #[.int .i64 4, .slice none 0 0, .string ⟨#[]⟩, .slice (some ⟨wc.heap.size, 0, none⟩) 1 1, .int .i64 z3, .int .i64 0] 25)).heap.size = wn.heap.size + 1 := by simp
    obtain ⟨wx, hwx⟩ : ∃ x, wn.alloc (.cells #[.int .i64 4, .slice none 0 0, .string ⟨#[]⟩, .slice (some ⟨wc.heap.size, 0, none⟩) 1 1, .int .i64 z3, .int .i64 0] 25) = x := ⟨_, rfl⟩
    rw [hwx] at hX hmx hfx hKx htx hsx hzX ⊢
    obtain ⟨X, hXe⟩ : ∃ x, wn.heap.size = x := ⟨_, rfl⟩
    have hwxe := hwx
    rw [hXe] at hX hzX hzn ⊢
    have htn := NodeIn.keeps (hfn.keeps (show C < w.heap.size + 1 by omega)) _ _ K1.out.2.2.1
    have hkeepX : ∀ W', (∀ b, b < X → b ≠ C → W'.heap[b]? = wx.heap[b]?) → NodeIn (w.heap.size + 1) W' t (.agg #[.int .i64 t.op, .slice ra t.rs.length rc, .string t.nm, .slice ka t.kids.length kc, .int .i64 t.mn, .int .i64 t.mx]) := fun W' hW => htn.keeps (fun b o v hb hc => by
      have hbl : b < wn.heap.size := block_lt_of_cell (a := ⟨b, o, none⟩) hc
      have e1 : wx.heap[b]? = wn.heap[b]? := by rw [← hwxe]; exact Lib.alloc_old wn _ b hbl
      rw [← hc]
      exact World.cell?_of_block (w := wn) ((hW b (by omega) (by omega)).trans e1))
    have HKX := Lib.hid hkeepX
    clear hwx hXe hmn hfn K1 KX hwxe htn hkeepX
    have ew1 : IntKind.i64.wrap (z3 + 1) = z3 + 1 := IntWalk.i64_in _ (by omega)
    have ew2 : IntKind.i64.wrap (z3 + 2) = z3 + 2 := IntWalk.i64_in _ (by omega)
    have hmd := hmx
    have hXd := hX
    obtain ⟨x0, x1, x2, x3, x4, x5⟩ := hX.cells
    have hnx := fun W (hW : MkAt C W) => next_any C 4 W hW (by omega) (by omega)
    have KY := Lib.hid (And.intro hnx (And.intro hmd (And.intro hXd (And.intro hfx (And.intro hKx (And.intro htx hsx))))))
    have HZ := Lib.hid hzX
    clear hnx hmd hXd hfx hKx htx hsx hmx hX hzX
    go_wp2_with fail
    refine wp_region_held_drew (S := fun w' => w'.cell? ⟨X, 4, none⟩ = some (.int .i64 z3)) (by kernel_rfl) (show wx.drew.cell? ⟨X, 4, none⟩ = some (.int .i64 z3) from x4) (fun hHeld => ?_)
    refine wpAnyH_take (i := 0) (v := ?v0) rfl (by kernel_rfl) (by kernel_rfl) (by kernel_rfl) (fun _ _ _ h => h) (Or.inl ⟨by rfl, fun w' hSw => ?y0⟩) (by assumption) ?r0
    case y0 =>
      go_simp
      try with_reducible rfl
    try simp only [Act.put, List.setIfInBounds_toArray, List.set_cons_zero, List.set_cons_succ]
    refine wpAnyH_take (i := 1) (v := ?v1) rfl (by kernel_rfl) (by kernel_rfl) (by kernel_rfl) (fun _ _ _ h => h) (Or.inl ⟨by rfl, fun w' hSw => ?y1⟩) (by assumption) ?r1
    case y1 =>
      go_simp
      try with_reducible rfl
    try simp only [Act.put, List.setIfInBounds_toArray, List.set_cons_zero, List.set_cons_succ]
    refine wpAnyH_take (i := 2) (v := ?v2) rfl (by kernel_rfl) (by kernel_rfl) (by kernel_rfl) (fun _ _ _ h => h) (Or.inl ⟨by rfl, fun w' hSw => ?y2⟩) (by assumption) ?r2
    case y2 =>
      go_simp
      try with_reducible rfl
    try simp only [Act.put, List.setIfInBounds_toArray, List.set_cons_zero, List.set_cons_succ]
    refine wpAnyH_take (i := 3) (v := ?v3) rfl (by kernel_rfl) (by kernel_rfl) (by kernel_rfl) (fun _ _ _ h => h) (Or.inl ⟨by rfl, fun w' hSw => ?y3⟩) (by assumption) ?r3
    case y3 =>
      go_simp
      try with_reducible rfl
    try simp only [Act.put, List.setIfInBounds_toArray, List.set_cons_zero, List.set_cons_succ]
    refine wpAnyH_take (i := 4) (v := ?v4) rfl (by kernel_rfl) (by kernel_rfl) (by kernel_rfl) (fun _ _ _ h => h) (Or.inl ⟨by rfl, fun w' hSw => ?y4⟩) (by assumption) ?r4
    case y4 =>
      go_simp
      try with_reducible rfl
    try simp only [Act.put, List.setIfInBounds_toArray, List.set_cons_zero, List.set_cons_succ]
    refine wpAnyH_take (i := 5) (v := ?v5) rfl (by kernel_rfl) (by kernel_rfl) (by kernel_rfl) (fun _ _ _ h => h) (Or.inl ⟨by rfl, fun w' hSw => ?y5⟩) (by assumption) ?r5
    case y5 =>
      go_simp
      try with_reducible rfl
    try simp only [Act.put, List.setIfInBounds_toArray, List.set_cons_zero, List.set_cons_succ]
    refine wpAnyH_take (i := 6) (v := ?v6) rfl (by kernel_rfl) (by kernel_rfl) (by kernel_rfl) (fun _ _ _ h => h) (Or.inl ⟨by rfl, fun w' hSw => ?y6⟩) (by assumption) ?r6
    case y6 =>
      go_simp
      try with_reducible rfl
    try simp only [Act.put, List.setIfInBounds_toArray, List.set_cons_zero, List.set_cons_succ]
    refine wpAnyH_take (i := 7) (v := ?v7) rfl (by kernel_rfl) (by kernel_rfl) (by kernel_rfl) (fun _ _ _ h => h) (Or.inl ⟨by rfl, fun w' hSw => ?y7⟩) (by assumption) ?r7
    case y7 =>
      go_simp
      try with_reducible rfl
    try simp only [Act.put, List.setIfInBounds_toArray, List.set_cons_zero, List.set_cons_succ]
    refine wpAnyH_take (i := 9) (v := ?v9) rfl (by kernel_rfl) (by kernel_rfl) (by kernel_rfl) (fun _ _ _ h => h) (Or.inl ⟨by rfl, fun w' hSw => ?y9⟩) (by assumption) ?r9
    case y9 =>
      go_simp
      try with_reducible rfl
    try simp only [Act.put, List.setIfInBounds_toArray, List.set_cons_zero, List.set_cons_succ]
    refine wpAnyH_ready (rs := [8, 10]) (by kernel_rfl) (by simp) (AllReadyH.cons rfl (fun K hK => ?_) (AllReadyH.cons rfl (fun K hK => ?_) AllReadyH.nil))
    · go_simp
      refine hK.out _ _ (KY.out.2.2.1.alloc _).drew.cells.2.2.2.2.1 (fun hHeld8 => ?_)
      clear hK K
      try simp only [Act.put, List.setIfInBounds_toArray, List.set_cons_zero, List.set_cons_succ]
      refine wpAnyH_ready (rs := [10]) (by kernel_rfl) (by simp) (AllReadyH.cons rfl (fun K hK => ?_) AllReadyH.nil)
      go_simp
      go_wp2_with (go_at_call 13; refine (KY.out.1 _ (by first | exact KY.out.2.1.drew | exact (KY.out.2.1.alloc _).drew)).mono ?_; rintro e wm ⟨⟨z4, rfl, hz40, hz41⟩, hmm, hfm⟩; obtain ⟨i4, rfl⟩ : ∃ i : Nat, z4 = (i : Int) := ⟨z4.toNat, by omega⟩)
      have hXm := Lib.hid (NBox.fr (KY.out.2.2.1.alloc (.cells #[.int .i64 (-1), .int .i64 z3, .int .i64 (z3 + 1), .int .i64 (z3 + 2)] 3)).drew hfm (by omega))
      have m4 := hXm.out.cells.2.2.2.2.1
      have m5 := hXm.out.cells.2.2.2.2.2
      have mf5 := hXm.out.frozen 5
      have hBB := ints4 ((World.grownBy.block hfm wx.heap.size (by show wx.heap.size < (wx.alloc _).heap.size; rw [Go.Deep.nblk_alloc]; exact Nat.lt_succ_self _) (by simp only [ne_eq, Option.some.injEq]; have := HZ.out; omega)).trans (heap_alloc_new wx (.cells #[.int .i64 (-1), .int .i64 z3, .int .i64 (z3 + 1), .int .i64 (z3 + 2)] 3))) i4 (by omega)
      refine hK.out _ _ (m4) (fun hHeld10 => ?_)
      clear hK K
      try simp only [Act.put, List.setIfInBounds_toArray, List.set_cons_zero, List.set_cons_succ]
      refine wpAnyH_ready (rs := [11]) (by kernel_rfl) (by simp) (AllReadyH.cons rfl (fun K hK => ?_) AllReadyH.nil)
      go_simp
      refine hK.out _ _ (m4) (fun hHeld11 => ?_)
      clear hK K
      try simp only [Act.put, List.setIfInBounds_toArray, List.set_cons_zero, List.set_cons_succ]
      refine wpAnyH_ready (rs := [12]) (by kernel_rfl) (by simp) (AllReadyH.cons rfl (fun K hK => ?_) AllReadyH.nil)
      go_simp
      refine hK.out _ _ (m4) (fun hHeld12 => ?_)
      clear hK K
      try simp only [Act.put, List.setIfInBounds_toArray, List.set_cons_zero, List.set_cons_succ]
      refine wpAnyH_ready (rs := [13]) (by kernel_rfl) (by simp) (AllReadyH.cons rfl (fun K hK => ?_) AllReadyH.nil)
      go_simp
      refine hK.out _ _ (m4) (fun hHeld13 => ?_)
      clear hK K
      try simp only [Act.put, List.setIfInBounds_toArray, List.set_cons_zero, List.set_cons_succ]
      refine wpAnyH_ready (rs := [14]) (by kernel_rfl) (by simp) (AllReadyH.cons rfl (fun K hK => ?_) AllReadyH.nil)
      go_simp
      refine hK.out _ _ ((NBox.put5 hXm.out _).cells.2.2.2.2.1) (fun hHeld14 => ?_)
      clear hK K
      try simp only [Act.put, List.setIfInBounds_toArray, List.set_cons_zero, List.set_cons_succ]
      refine wpAnyH_done (by kernel_rfl) ?_ _
      have hB : ∀ b, b < X → b ≠ C → (wm.setCell ⟨X, 5, none⟩ (.int .i64 (y4 z3 i4))).heap[b]? = wx.heap[b]? := fun b h1 h2 => (Below.heap_setCell wm ⟨X, 5, none⟩ _ b (by simp only [ne_eq]; omega)).trans ((World.grownBy.block hfm b (by show b < (wx.alloc _).heap.size; rw [Go.Deep.nblk_alloc]; have := HZ.out; omega) (by simpa using h2)).trans (Lib.alloc_old wx (.cells #[.int .i64 (-1), .int .i64 z3, .int .i64 (z3 + 1), .int .i64 (z3 + 2)] 3) b (by have := HZ.out; omega)))
      have hmkF : MkAt C (wm.setCell ⟨X, 5, none⟩ (.int .i64 (y4 z3 i4))) := mk_put hmm (by omega) 5 _
      have hfrF : Fr C w (wm.setCell ⟨X, 5, none⟩ (.int .i64 (y4 z3 i4))) := fr_put ((KY.out.2.2.2.1.alloc (.cells #[.int .i64 (-1), .int .i64 z3, .int .i64 (z3 + 1), .int .i64 (z3 + 2)] 3)).drew.trans hfm) (by omega) 5 _
      have hsF : SixAt (wm.setCell ⟨X, 5, none⟩ (.int .i64 (y4 z3 i4))) w.heap.size (.int .i64 0) (.slice none 0 0) (.string ⟨#[]⟩) (.slice none 0 0) (.int .i64 0) (.int .i64 0) := by
        obtain ⟨ty, hty⟩ := KY.out.2.2.2.2.2.2
        exact ⟨ty, (hB _ (by omega) (by omega)).trans hty⟩
      have hKF : NBox (wm.setCell ⟨X, 5, none⟩ (.int .i64 (y4 z3 i4))) wc.heap.size (.int .i64 t.op) (.slice ra t.rs.length rc) (.string t.nm) (.slice ka t.kids.length kc) (.int .i64 t.mn) (.int .i64 t.mx) := (hB _ (by omega) (by omega)).trans KY.out.2.2.2.2.1
      have htF := HKX.out _ hB
      obtain ⟨p0, p1, p2, p3, p4, p5⟩ := (NBox.put5 hXm.out (.int .i64 (y4 z3 i4))).cells
      obtain ⟨r0, r1, r2, r3, r4, r5⟩ := hsF.cells
      obtain ⟨q0, q1, q2, q3, q4, q5⟩ := hsF.free
      have hy4 := y4_in z3 ⟨hz30, hz31⟩ i4
      have KF := Lib.hid (And.intro hmkF (And.intro hfrF (And.intro hKF htF)))
      clear hmkF hfrF hKF htF hsF hB
      go_wp2
      refine bodyPost_ret (v := .agg #[.int .i64 4, .slice none 0 0, .string ⟨#[]⟩, .slice (some ⟨wc.heap.size, 0, none⟩) 1 1, .int .i64 z3, .int .i64 (y4 z3 i4)]) (by simp [results, Try.results6, go_sem, r0, r1, r2, r3, r4, r5]) rfl ?_
      exact kid_out 4 (by omega) ⟨#[]⟩ (Nat.zero_le _) z3 (y4 z3 i4) (small64 (by omega)) (small64 (by omega)) t hsl wc.heap.size _ _ _ _ _ _ KF.out.1 KF.out.2.1 hlo (by omega) hCl _ _ _ _ _ _ ⟨_, _, _, _, _, _, _, _, _, _, rfl, rfl, rfl, rfl, rfl, rfl⟩ KF.out.2.2.2 KF.out.2.2.1
    · go_simp
      go_wp2_with (go_at_call 13; refine (KY.out.1 _ (by first | exact KY.out.2.1.drew | exact (KY.out.2.1.alloc _).drew)).mono ?_; rintro e wm ⟨⟨z4, rfl, hz40, hz41⟩, hmm, hfm⟩; obtain ⟨i4, rfl⟩ : ∃ i : Nat, z4 = (i : Int) := ⟨z4.toNat, by omega⟩)
      have hXm := Lib.hid (NBox.fr KY.out.2.2.1.drew hfm (by omega))
      have m4 := hXm.out.cells.2.2.2.2.1
      refine hK.out _ _ m4 (fun hHeld10 => ?_)
      clear hK K
      try simp only [Act.put, List.setIfInBounds_toArray, List.set_cons_zero, List.set_cons_succ]
      refine wpAnyH_ready (rs := [8]) (by kernel_rfl) (by simp) (AllReadyH.cons rfl (fun K hK => ?_) AllReadyH.nil)
      go_simp
      have hXa := Lib.hid (hXm.out.alloc (.cells #[.int .i64 (-1), .int .i64 z3, .int .i64 (z3 + 1), .int .i64 (z3 + 2)] 3))
      have a4 := hXa.out.cells.2.2.2.2.1
      have a5 := hXa.out.cells.2.2.2.2.2
      have af5 := hXa.out.frozen 5
      have hBB := ints4 (heap_alloc_new wm (.cells #[.int .i64 (-1), .int .i64 z3, .int .i64 (z3 + 1), .int .i64 (z3 + 2)] 3)) i4 (by omega)
      refine hK.out _ _ (a4) (fun hHeld8 => ?_)
      clear hK K
      try simp only [Act.put, List.setIfInBounds_toArray, List.set_cons_zero, List.set_cons_succ]
      refine wpAnyH_ready (rs := [11]) (by kernel_rfl) (by simp) (AllReadyH.cons rfl (fun K hK => ?_) AllReadyH.nil)
      go_simp
      refine hK.out _ _ (a4) (fun hHeld11 => ?_)
      clear hK K
      try simp only [Act.put, List.setIfInBounds_toArray, List.set_cons_zero, List.set_cons_succ]
      refine wpAnyH_ready (rs := [12]) (by kernel_rfl) (by simp) (AllReadyH.cons rfl (fun K hK => ?_) AllReadyH.nil)
      go_simp
      refine hK.out _ _ (a4) (fun hHeld12 => ?_)
      clear hK K
      try simp only [Act.put, List.setIfInBounds_toArray, List.set_cons_zero, List.set_cons_succ]
      refine wpAnyH_ready (rs := [13]) (by kernel_rfl) (by simp) (AllReadyH.cons rfl (fun K hK => ?_) AllReadyH.nil)
      go_simp
      refine hK.out _ _ (a4) (fun hHeld13 => ?_)
      clear hK K
      try simp only [Act.put, List.setIfInBounds_toArray, List.set_cons_zero, List.set_cons_succ]
      refine wpAnyH_ready (rs := [14]) (by kernel_rfl) (by simp) (AllReadyH.cons rfl (fun K hK => ?_) AllReadyH.nil)
      go_simp
      refine hK.out _ _ ((NBox.put5 hXa.out _).cells.2.2.2.2.1) (fun hHeld14 => ?_)
      clear hK K
      try simp only [Act.put, List.setIfInBounds_toArray, List.set_cons_zero, List.set_cons_succ]
      refine wpAnyH_done (by kernel_rfl) ?_ _
      have hB : ∀ b, b < X → b ≠ C → ((wm.alloc (.cells #[.int .i64 (-1), .int .i64 z3, .int .i64 (z3 + 1), .int .i64 (z3 + 2)] 3)).setCell ⟨X, 5, none⟩ (.int .i64 (y4 z3 i4))).heap[b]? = wx.heap[b]? := fun b h1 h2 => (Below.heap_setCell (wm.alloc (.cells #[.int .i64 (-1), .int .i64 z3, .int .i64 (z3 + 1), .int .i64 (z3 + 2)] 3)) ⟨X, 5, none⟩ _ b (by simp only [ne_eq]; omega)).trans ((Lib.alloc_old wm (.cells #[.int .i64 (-1), .int .i64 z3, .int .i64 (z3 + 1), .int .i64 (z3 + 2)] 3) b (by have := HZ.out; have := hfm.size; have e : wx.drew.heap.size = wx.heap.size := rfl; omega)).trans (World.grownBy.block hfm b (by show b < wx.heap.size; have := HZ.out; omega) (by simpa using h2)))
      have hmkF : MkAt C ((wm.alloc (.cells #[.int .i64 (-1), .int .i64 z3, .int .i64 (z3 + 1), .int .i64 (z3 + 2)] 3)).setCell ⟨X, 5, none⟩ (.int .i64 (y4 z3 i4))) := mk_put (hmm.alloc _) (by omega) 5 _
      have hfrF : Fr C w ((wm.alloc (.cells #[.int .i64 (-1), .int .i64 z3, .int .i64 (z3 + 1), .int .i64 (z3 + 2)] 3)).setCell ⟨X, 5, none⟩ (.int .i64 (y4 z3 i4))) := fr_put ((KY.out.2.2.2.1.drew.trans hfm).alloc (.cells #[.int .i64 (-1), .int .i64 z3, .int .i64 (z3 + 1), .int .i64 (z3 + 2)] 3)) (by omega) 5 _
      have hsF : SixAt ((wm.alloc (.cells #[.int .i64 (-1), .int .i64 z3, .int .i64 (z3 + 1), .int .i64 (z3 + 2)] 3)).setCell ⟨X, 5, none⟩ (.int .i64 (y4 z3 i4))) w.heap.size (.int .i64 0) (.slice none 0 0) (.string ⟨#[]⟩) (.slice none 0 0) (.int .i64 0) (.int .i64 0) := by
        obtain ⟨ty, hty⟩ := KY.out.2.2.2.2.2.2
        exact ⟨ty, (hB _ (by omega) (by omega)).trans hty⟩
      have hKF : NBox ((wm.alloc (.cells #[.int .i64 (-1), .int .i64 z3, .int .i64 (z3 + 1), .int .i64 (z3 + 2)] 3)).setCell ⟨X, 5, none⟩ (.int .i64 (y4 z3 i4))) wc.heap.size (.int .i64 t.op) (.slice ra t.rs.length rc) (.string t.nm) (.slice ka t.kids.length kc) (.int .i64 t.mn) (.int .i64 t.mx) := (hB _ (by omega) (by omega)).trans KY.out.2.2.2.2.1
      have htF := HKX.out _ hB
      obtain ⟨p0, p1, p2, p3, p4, p5⟩ := (NBox.put5 hXa.out (.int .i64 (y4 z3 i4))).cells
      obtain ⟨r0, r1, r2, r3, r4, r5⟩ := hsF.cells
      obtain ⟨q0, q1, q2, q3, q4, q5⟩ := hsF.free
      have hy4 := y4_in z3 ⟨hz30, hz31⟩ i4
      have KF := Lib.hid (And.intro hmkF (And.intro hfrF (And.intro hKF htF)))
      clear hmkF hfrF hKF htF hsF hB
      go_wp2
      refine bodyPost_ret (v := .agg #[.int .i64 4, .slice none 0 0, .string ⟨#[]⟩, .slice (some ⟨wc.heap.size, 0, none⟩) 1 1, .int .i64 z3, .int .i64 (y4 z3 i4)]) (by simp [results, Try.results6, go_sem, r0, r1, r2, r3, r4, r5]) rfl ?_
      exact kid_out 4 (by omega) ⟨#[]⟩ (Nat.zero_le _) z3 (y4 z3 i4) (small64 (by omega)) (small64 (by omega)) t hsl wc.heap.size _ _ _ _ _ _ KF.out.1 KF.out.2.1 hlo (by omega) hCl _ _ _ _ _ _ ⟨_, _, _, _, _, _, _, _, _, _, rfl, rfl, rfl, rfl, rfl, rfl⟩ KF.out.2.2.2 KF.out.2.2.1

set_option maxRecDepth 100000 in
set_option maxHeartbeats 8000000 in
theorem node_zero : MakeOk 0 := by
  intro C lo w h hC hlo
  have hCl := h.lt
  have hR1 := SixAt.new w (.int .i64 0) (.slice none 0 0) (.string ⟨#[]⟩) (.slice none 0 0) (.int .i64 0) (.int .i64 0) 25
  have hT1 := (Fr.refl C w).alloc (.cells #[.int .i64 0, .slice none 0 0, .string ⟨#[]⟩, .slice none 0 0, .int .i64 0, .int .i64 0] 25)
  have hlf := leaf_any C (w.heap.size + 1) _ (h.alloc (.cells #[.int .i64 0, .slice none 0 0, .string ⟨#[]⟩, .slice none 0 0, .int .i64 0, .int .i64 0] 25)) (by omega) (by rw [Go.Deep.nblk_alloc]; omega)
  have KL := Lib.hid (And.intro hlf (And.intro hR1 hT1))
  clear hlf hR1 hT1 h
  go_enter Try.func6, Try.ntmps6
  go_wp2_with fail
  refine (KL.out.1).mono ?_
  rintro e w2 ⟨t, tv, rfl, htv, hm2, hf2, hsl⟩
  obtain ⟨ra, rc, ka, kc, rfl⟩ := id htv.shape
  have hR2 := KL.out.2.1.fr hf2 (by omega)
  obtain ⟨r0, r1, r2, r3, r4, r5⟩ := hR2.cells
  obtain ⟨q0, q1, q2, q3, q4, q5⟩ := hR2.free
  have K2 := Lib.hid (And.intro htv (And.intro hm2 (KL.out.2.2.trans hf2)))
  clear htv hm2 hf2 hR2
  go_wp2
  refine bodyPost_ret (v := .agg #[.int .i64 t.op, .slice ra t.rs.length rc, .string t.nm, .slice ka t.kids.length kc, .int .i64 t.mn, .int .i64 t.mx]) (by simp [results, Try.results6, go_sem, r0, r1, r2, r3, r4, r5]) rfl ?_
  exact ⟨t, _, rfl, NodeIn.lower (lo := w.heap.size + 1) (by omega) _ _ (NodeIn.keeps (put6_keeps (keeps_refl _ _) (by omega) _ _ _ _ _ _) _ _ K2.out.1), mk_put6 K2.out.2.1 hCl _ _ _ _ _ _, put6_fr K2.out.2.2 (Nat.le_refl _) _ _ _ _ _ _, hsl⟩
theorem make_ok : ∀ d : Nat, d ≤ 100 → MakeOk d
  | 0, _ => node_zero
  | d + 1, h => node_succ d (by omega) (make_ok d (by omega))
/-- What New and Node make of a list of choices: some node. -/
theorem make_any (C : Nat) (d : Nat) (hd : d ≤ 100) (w : World) (h : MkAt C w) :
    Calls Try.prog 6 #[.pointer (some ⟨C, 0, none⟩), .int .i64 (d : Int)] w (MkOut C w.heap.size w) :=
  make_ok d hd C w.heap.size w h h.lt (Nat.le_refl _)
end Go.Proofs.Ytfmoidhpafpgnaa
