/- The statement PatternChecks: the law returns true. -/
import Derived.Test.YtfmoidhpafpgnaaSpoilB
import Derived.Test.YtfmoidhpafpgnaaPatAwake
import Derived.Test.YtfmoidhpafpgnaaPatSize
import Derived.Test.YtfmoidhpafpgnaaRefCheck
namespace Go.Proofs.Ytfmoidhpafpgnaa
open Go.RowKit

set_option linter.unusedSimpArgs false in
set_option maxRecDepth 100000 in
set_option maxHeartbeats 16000000 in
theorem lawChecks (t : Nd) (v sv : Value) (l : List UInt8) (w : World) (hn : NodeIn 0 w t v) (hA : ArgB w w.heap.size sv l) :
    Calls Try.prog 3 #[v, sv] w fun e w' => e = .returned (.bool true) ∧ Below w.heap.size w w' := by
  have hv := hn
  obtain ⟨ra, rc, ka, kc, rfl⟩ := hv.shape
  clear hv
  have haw := awake_any (w.alloc (.cells #[.int .i64 t.op, .slice ra t.rs.length rc, .string t.nm, .slice ka t.kids.length kc, .int .i64 t.mn, .int .i64 t.mx] 25))
  have hX1 := NBox.new w (.int .i64 t.op) (.slice ra t.rs.length rc) (.string t.nm) (.slice ka t.kids.length kc) (.int .i64 t.mn) (.int .i64 t.mx)
  have hb1 := (Below.refl w.heap.size w).alloc (Nat.le_refl _) (.cells #[.int .i64 t.op, .slice ra t.rs.length rc, .string t.nm, .slice ka t.kids.length kc, .int .i64 t.mn, .int .i64 t.mx] 25)
  have H := Lib.hid (And.intro haw (And.intro hX1 (And.intro hb1 (And.intro hA hn))))
  clear haw hX1 hb1 hA hn
  go_enter Try.func3, Try.ntmps3
  go_wp2_with fail
  refine (H.out.1).mono ?_
  rintro e w2 ⟨rfl, hb2⟩
  have hX2 := H.out.2.1.below hb2
  have hw2 : Below w.heap.size w w2 := H.out.2.2.1.trans (hb2.mono (by rw [Go.Deep.nblk_alloc]; omega))
  have hnew := new_any sv l 200 w2 (H.out.2.2.2.1.below hw2) (by omega)
  have K2 := Lib.hid (And.intro hnew (And.intro hX2 hw2))
  clear hnew hX2 hw2 hb2
  go_wp2_with fail
  refine (K2.out.1).mono ?_
  rintro e w3 ⟨rfl, hm3, hb3⟩
  have hC3 := hm3.lt
  have hmk := make_any w2.heap.size 4 (by omega) w3 hm3
  have hX3 := K2.out.2.1.below hb3
  have hw3 := K2.out.2.2.trans (hb3.mono K2.out.2.2.size)
  have hzz := K2.out.2.2.size
  have K3 := Lib.hid (And.intro hmk (And.intro hX3 hw3))
  clear hmk hX3 hw3 hb3 hm3
  go_wp2_with fail
  refine (K3.out.1).mono ?_
  rintro e w4 ⟨tp, vp, rfl, hvp, hm4, hf4, hsl⟩
  obtain ⟨rap, rcp, kap, kcp, rfl⟩ := id hvp.shape
  -- REGION
  have hzX : w.heap.size < w2.heap.size := by have := K2.out.2.1; exact (Array.getElem?_eq_some_iff.1 this).1
  go_wp2
  have hX4 := (K3.out.2.1.fr hf4 (by omega)).alloc (.cells #[.int .i64 tp.op, .slice rap tp.rs.length rcp, .string tp.nm, .slice kap tp.kids.length kcp, .int .i64 tp.mn, .int .i64 tp.mx] 25)
  have hP4 := NBox.new w4 (.int .i64 tp.op) (.slice rap tp.rs.length rcp) (.string tp.nm) (.slice kap tp.kids.length kcp) (.int .i64 tp.mn) (.int .i64 tp.mx)
  have hz4 := hf4.size
  have hw4 : Below w.heap.size w (w4.alloc (.cells #[.int .i64 tp.op, .slice rap tp.rs.length rcp, .string tp.nm, .slice kap tp.kids.length kcp, .int .i64 tp.mn, .int .i64 tp.mx] 25)) := (K3.out.2.2.trans (hf4.toBelow (show w2.heap.size ≤ w3.heap.size by omega) |>.mono (by omega))).alloc (by have := K3.out.2.2.size; omega) _
  have hm5 := hm4.alloc (.cells #[.int .i64 tp.op, .slice rap tp.rs.length rcp, .string tp.nm, .slice kap tp.kids.length kcp, .int .i64 tp.mn, .int .i64 tp.mx] 25)
  have hS1 : ∀ b, Olds w3.heap.size w4 b → w2.heap.size < b ∧ b < w4.heap.size := fun b hb => ⟨Nat.lt_of_lt_of_le hC3 hb.1, hb.2⟩
  have hnp := NodeS.to (w' := w4.alloc (.cells #[.int .i64 tp.op, .slice rap tp.rs.length rcp, .string tp.nm, .slice kap tp.kids.length kcp, .int .i64 tp.mn, .int .i64 tp.mx] 25)) (agree_grown (World.grownBy_alloc w4 _ none) fun b hb => by cases hb) (fun _ h => h) _ _ (NodeIn.toS _ _ hvp)
  have hz5 : (w4.alloc (.cells #[.int .i64 tp.op, .slice rap tp.rs.length rcp, .string tp.nm, .slice kap tp.kids.length kcp, .int .i64 tp.mn, .int .i64 tp.mx] 25)).heap.size = w4.heap.size + 1 := by simp
  obtain ⟨w5, hw5⟩ : ∃ x, w4.alloc (.cells #[.int .i64 tp.op, .slice rap tp.rs.length rcp, .string tp.nm, .slice kap tp.kids.length kcp, .int .i64 tp.mn, .int .i64 tp.mx] 25) = x := ⟨_, rfl⟩
  rw [hw5] at hX4 hP4 hw4 hm5 hnp hz5 ⊢
  have hsp1 := spoil_any tp (Olds w3.heap.size w4) w2.heap.size 3 w5.drew _ (NodeS.to (w := w5) (w' := w5.drew) (fun _ _ _ _ h => h) (fun _ h => h) _ _ hnp) hm5.drew (fun b hb => ⟨(hS1 b hb).1, by have := (hS1 b hb).2; have e : w5.drew.heap.size = w5.heap.size := rfl; omega⟩) hsl (by omega)
  have K5 := Lib.hid (And.intro hsp1 (And.intro hX4 (And.intro hP4 (And.intro hw4 (And.intro hnp hS1)))))
  clear hsp1 hX4 hP4 hw4 hm5 hnp hS1 hw5 hvp hm4 hf4
  refine wp_region_held_drew (S := fun w' => NBox w' w.heap.size (.int .i64 t.op) (.slice ra t.rs.length rc) (.string t.nm) (.slice ka t.kids.length kc) (.int .i64 t.mn) (.int .i64 t.mx) ∧ NBox w' w4.heap.size (.int .i64 tp.op) (.slice rap tp.rs.length rcp) (.string tp.nm) (.slice kap tp.kids.length kcp) (.int .i64 tp.mn) (.int .i64 tp.mx)) (by kernel_rfl) (show _ from ⟨K5.out.2.1.drew, K5.out.2.2.1.drew⟩) (fun hHeld => ?_)
  refine wpAnyH_take (i := 0) (v := ?v0) rfl (by kernel_rfl) (by kernel_rfl) (by kernel_rfl) (fun _ _ _ h => h) (Or.inl ⟨by rfl, fun w' hSw => ?y0⟩) (by assumption) ?r0
  case y0 =>
    obtain ⟨a0, a1, a2, a3, a4, a5⟩ := hSw.1.cells
    go_simp
    try with_reducible rfl
  try simp only [Act.put, List.setIfInBounds_toArray, List.set_cons_zero, List.set_cons_succ]
  refine wpAnyH_take (i := 1) (v := ?v1) rfl (by kernel_rfl) (by kernel_rfl) (by kernel_rfl) (fun _ _ _ h => h) (Or.inl ⟨by rfl, fun w' hSw => ?y1⟩) (by assumption) ?r1
  case y1 =>
    obtain ⟨a0, a1, a2, a3, a4, a5⟩ := hSw.2.cells
    go_simp
    try with_reducible rfl
  try simp only [Act.put, List.setIfInBounds_toArray, List.set_cons_zero, List.set_cons_succ]
  refine wpAnyH_take (i := 2) (v := ?v2) rfl (by kernel_rfl) (by kernel_rfl) (by kernel_rfl) (fun _ _ _ h => h) (Or.inl ⟨by rfl, fun w' hSw => ?y2⟩) (by assumption) ?r2
  case y2 =>
    go_simp
    try with_reducible rfl
  try simp only [Act.put, List.setIfInBounds_toArray, List.set_cons_zero, List.set_cons_succ]
  refine wpAnyH_take (i := 3) (v := ?v3) rfl (by kernel_rfl) (by kernel_rfl) (by kernel_rfl) (fun _ _ _ h => h) (Or.inl ⟨by rfl, fun w' hSw => ?y3⟩) (by assumption) ?r3
  case y3 =>
    obtain ⟨a0, a1, a2, a3, a4, a5⟩ := hSw.2.cells
    go_simp
    try with_reducible rfl
  try simp only [Act.put, List.setIfInBounds_toArray, List.set_cons_zero, List.set_cons_succ]
  refine wpAnyH_take (i := 5) (v := ?v5) rfl (by kernel_rfl) (by kernel_rfl) (by kernel_rfl) (fun _ _ _ h => h) (Or.inl ⟨by rfl, fun w' hSw => ?y5⟩) (by assumption) ?r5
  case y5 =>
    go_simp
    try with_reducible rfl
  try simp only [Act.put, List.setIfInBounds_toArray, List.set_cons_zero, List.set_cons_succ]
  refine wpAnyH_take (i := 6) (v := ?v6) rfl (by kernel_rfl) (by kernel_rfl) (by kernel_rfl) (fun _ _ _ h => h) (Or.inl ⟨by rfl, fun w' hSw => ?y6⟩) (by assumption) ?r6
  case y6 =>
    go_simp
    try with_reducible rfl
  try simp only [Act.put, List.setIfInBounds_toArray, List.set_cons_zero, List.set_cons_succ]
  refine wpAnyH_take (i := 7) (v := ?v7) rfl (by kernel_rfl) (by kernel_rfl) (by kernel_rfl) (fun _ _ _ h => h) (Or.inl ⟨by rfl, fun w' hSw => ?y7⟩) (by assumption) ?r7
  case y7 =>
    obtain ⟨a0, a1, a2, a3, a4, a5⟩ := hSw.2.cells
    go_simp
    try with_reducible rfl
  try simp only [Act.put, List.setIfInBounds_toArray, List.set_cons_zero, List.set_cons_succ]
  refine wpAnyH_take (i := 12) (v := ?v12) rfl (by kernel_rfl) (by kernel_rfl) (by kernel_rfl) (fun _ _ _ h => h) (Or.inl ⟨by rfl, fun w' hSw => ?y12⟩) (by assumption) ?r12
  case y12 =>
    go_simp
    try with_reducible rfl
  try simp only [Act.put, List.setIfInBounds_toArray, List.set_cons_zero, List.set_cons_succ]
  refine wpAnyH_ready (rs := [4]) (by kernel_rfl) (by simp) (AllReadyH.cons rfl (fun K hK => ?_) AllReadyH.nil)
  go_simp
  go_wp2_with (go_at_call 7; refine (K5.out.1).mono ?_; rintro e w6 ⟨t6, v6, rfl, hn6, hm6, hf6, hsl6⟩)
  have hz6 := hf6.size
  have e5d : w5.drew.heap.size = w5.heap.size := rfl
  have hX6 := (K5.out.2.1.drew).fr hf6 (by omega)
  have hP6 := (K5.out.2.2.1.drew).fr hf6 (by omega)
  have hnp6 := NodeS.to (w := w5.drew) (w' := w6) (agree_grown hf6 fun b hb hs => by cases hb; have := (K5.out.2.2.2.2.2 _ hs).1; omega) (fun _ h => h) _ _ (NodeS.to (w := w5) (w' := w5.drew) (fun _ _ _ _ h => h) (fun _ h => h) _ _ K5.out.2.2.2.2.1)
  have hw6 : Below w.heap.size w w6 := K5.out.2.2.2.1.drew.trans (Below.mono (hf6.toBelow (show w2.heap.size ≤ w5.drew.heap.size by omega)) (by omega))
  have hsp2 := spoil_any tp (Olds w3.heap.size w4) w2.heap.size 3 w6 _ hnp6 hm6 (fun b hb => ⟨(K5.out.2.2.2.2.2 b hb).1, by have := (K5.out.2.2.2.2.2 b hb).2; omega⟩) hsl (by omega)
  have K6 := Lib.hid (And.intro hsp2 (And.intro hX6 (And.intro hP6 (And.intro hw6 (And.intro hnp6 hn6)))))
  clear hsp2 hX6 hP6 hw6 hnp6 hn6 hm6 hf6
  refine hK.out _ _ ⟨K6.out.2.1, K6.out.2.2.1⟩ (fun hHeld4 => ?_)
  clear hK K
  try simp only [Act.put, List.setIfInBounds_toArray, List.set_cons_zero, List.set_cons_succ]
  refine wpAnyH_ready (rs := [8]) (by kernel_rfl) (by simp) (AllReadyH.cons rfl (fun K hK => ?_) AllReadyH.nil)
  go_simp
  go_wp2_with (go_at_call 7; refine (K6.out.1).mono ?_; rintro e w7 ⟨t7, v7, rfl, hn7, hm7, hf7, hsl7⟩)
  have hz7 := hf7.size
  have hX7 := K6.out.2.1.fr hf7 (by omega)
  have hP7 := K6.out.2.2.1.fr hf7 (by omega)
  have hw7 : Below w.heap.size w w7 := K6.out.2.2.2.1.trans (Below.mono (hf7.toBelow (show w2.heap.size ≤ w6.heap.size by omega)) (by omega))
  have hn67 := NodeS.to (w := w6) (w' := w7) (agree_grown hf7 fun b hb hs => by
    cases hb
    rcases hs with hs | hs
    · have := (K5.out.2.2.2.2.2 _ hs).1; omega
    · omega) (fun _ h => h) _ _ K6.out.2.2.2.2.2
  have hnp7 := NodeS.to (w := w6) (w' := w7) (agree_grown hf7 fun b hb hs => by cases hb; have := (K5.out.2.2.2.2.2 _ hs).1; omega) (fun _ h => h) _ _ K6.out.2.2.2.2.1
  have hn7i := NodeS.toIn (lo := w2.heap.size + 1) (fun b hs => by
    rcases hs with hs | hs
    · have := (K5.out.2.2.2.2.2 _ hs).1; omega
    · omega) _ _ hn7
  have hsp3 := spoil_any t7 (Olds (w2.heap.size + 1) w7) w2.heap.size 4 w7 _ (NodeIn.toS _ _ hn7i) hm7 (fun b hb => ⟨hb.1, hb.2⟩) hsl7 (by omega)
  have K7 := Lib.hid (And.intro hsp3 (And.intro hX7 (And.intro hP7 (And.intro hw7 (And.intro hn67 hnp7)))))
  clear hsp3 hX7 hP7 hw7 hn67 hnp7 hn7 hn7i hm7 hf7
  refine hK.out _ _ ⟨K7.out.2.1, K7.out.2.2.1⟩ (fun hHeld8 => ?_)
  clear hK K
  try simp only [Act.put, List.setIfInBounds_toArray, List.set_cons_zero, List.set_cons_succ]
  refine wpAnyH_ready (rs := [9]) (by kernel_rfl) (by simp) (AllReadyH.cons rfl (fun K hK => ?_) AllReadyH.nil)
  go_simp
  go_wp2_with (go_at_call 7; refine (K7.out.1).mono ?_; rintro e w8 ⟨t8, v8, rfl, hn8, hm8, hf8, hsl8⟩)
  have hz8 := hf8.size
  have hX8 := K7.out.2.1.fr hf8 (by omega)
  have hP8 := K7.out.2.2.1.fr hf8 (by omega)
  have hw8 : Below w.heap.size w w8 := K7.out.2.2.2.1.trans (Below.mono (hf8.toBelow (show w2.heap.size ≤ w7.heap.size by omega)) (by omega))
  have i6 := NodeS.toIn (lo := 0) (fun b _ => Nat.zero_le b) _ _ (NodeS.to (w := w7) (w' := w8) (agree_grown hf8 fun b hb hs => by
    cases hb
    rcases hs with hs | hs
    · have := (K5.out.2.2.2.2.2 _ hs).1; omega
    · omega) (fun _ h => h) _ _ K7.out.2.2.2.2.1)
  have ip := NodeS.toIn (lo := 0) (fun b _ => Nat.zero_le b) _ _ (NodeS.to (w := w7) (w' := w8) (agree_grown hf8 fun b hb hs => by cases hb; have := (K5.out.2.2.2.2.2 _ hs).1; omega) (fun _ h => h) _ _ K7.out.2.2.2.2.2)
  have i8 := NodeS.toIn (lo := 0) (fun b _ => Nat.zero_le b) _ _ hn8
  have it := NodeIn.keeps (keeps_below (lo := 0) hw8) _ _ H.out.2.2.2.2
  obtain ⟨ra6, rc6, ka6, kc6, rfl⟩ := i6.shape
  obtain ⟨ra8, rc8, ka8, kc8, rfl⟩ := i8.shape
  have K8 := Lib.hid (And.intro hX8 (And.intro hP8 (And.intro hw8 (And.intro it (And.intro ip (And.intro i6 i8))))))
  clear hX8 hP8 hw8 hn8 hm8 hf8 i6 ip i8 it K7 K6 K5
  refine hK.out _ _ ⟨K8.out.1, K8.out.2.1⟩ (fun hHeld9 => ?_)
  clear hK K
  try simp only [Act.put, List.setIfInBounds_toArray, List.set_cons_zero, List.set_cons_succ]
  refine wpAnyH_ready (rs := [10]) (by kernel_rfl) (by simp) (AllReadyH.cons rfl (fun K hK => ?_) AllReadyH.nil)
  go_simp
  refine hK.out _ _ ⟨K8.out.1.alloc _, K8.out.2.1.alloc _⟩ (fun hHeld10 => ?_)
  clear hK K
  try simp only [Act.put, List.setIfInBounds_toArray, List.set_cons_zero, List.set_cons_succ]
  refine wpAnyH_ready (rs := [11]) (by kernel_rfl) (by simp) (AllReadyH.cons rfl (fun K hK => ?_) AllReadyH.nil)
  go_simp
  refine hK.out _ _ ⟨K8.out.1.alloc _, K8.out.2.1.alloc _⟩ (fun hHeld11 => ?_)
  clear hK K
  try simp only [Act.put, List.setIfInBounds_toArray, List.set_cons_zero, List.set_cons_succ]
  refine wpAnyH_done (by kernel_rfl) ?_ _
  have hbC := heap_alloc_new w8 (.cells #[.int .i64 t.op, .slice ra t.rs.length rc, .string t.nm, .slice ka t.kids.length kc, .int .i64 t.mn, .int .i64 t.mx, .int .i64 tp.op, .slice rap tp.rs.length rcp, .string tp.nm, .slice kap tp.kids.length kcp, .int .i64 tp.mn, .int .i64 tp.mx, .int .i64 t6.op, .slice ra6 t6.rs.length rc6, .string t6.nm, .slice ka6 t6.kids.length kc6, .int .i64 t6.mn, .int .i64 t6.mx, .int .i64 t8.op, .slice ra8 t8.rs.length rc8, .string t8.nm, .slice ka8 t8.kids.length kc8, .int .i64 t8.mn, .int .i64 t8.mx] 25)
  have hkin : KidsIn 0 (w8.alloc (.cells #[.int .i64 t.op, .slice ra t.rs.length rc, .string t.nm, .slice ka t.kids.length kc, .int .i64 t.mn, .int .i64 t.mx, .int .i64 tp.op, .slice rap tp.rs.length rcp, .string tp.nm, .slice kap tp.kids.length kcp, .int .i64 tp.mn, .int .i64 tp.mx, .int .i64 t6.op, .slice ra6 t6.rs.length rc6, .string t6.nm, .slice ka6 t6.kids.length kc6, .int .i64 t6.mn, .int .i64 t6.mx, .int .i64 t8.op, .slice ra8 t8.rs.length rc8, .string t8.nm, .slice ka8 t8.kids.length kc8, .int .i64 t8.mn, .int .i64 t8.mx] 25)) [t, tp, t6, t8] w8.heap.size 0 := by
    have kp := fun (x : Nd) (u : Value) (h : NodeIn 0 w8 x u) => NodeIn.keeps (keeps_alloc 0 w8 (.cells #[.int .i64 t.op, .slice ra t.rs.length rc, .string t.nm, .slice ka t.kids.length kc, .int .i64 t.mn, .int .i64 t.mx, .int .i64 tp.op, .slice rap tp.rs.length rcp, .string tp.nm, .slice kap tp.kids.length kcp, .int .i64 tp.mn, .int .i64 tp.mx, .int .i64 t6.op, .slice ra6 t6.rs.length rc6, .string t6.nm, .slice ka6 t6.kids.length kc6, .int .i64 t6.mn, .int .i64 t6.mx, .int .i64 t8.op, .slice ra8 t8.rs.length rc8, .string t8.nm, .slice ka8 t8.kids.length kc8, .int .i64 t8.mn, .int .i64 t8.mx] 25)) x u h
    unfold KidsIn
    refine ⟨⟨_, _, _, _, _, _, kp _ _ K8.out.2.2.2.1, ?_, ?_, ?_, ?_, ?_, ?_⟩, ?_⟩
    case refine_7 =>
      unfold KidsIn
      refine ⟨⟨_, _, _, _, _, _, kp _ _ K8.out.2.2.2.2.1, ?_, ?_, ?_, ?_, ?_, ?_⟩, ?_⟩
      case refine_7 =>
        unfold KidsIn
        refine ⟨⟨_, _, _, _, _, _, kp _ _ K8.out.2.2.2.2.2.1, ?_, ?_, ?_, ?_, ?_, ?_⟩, ?_⟩
        case refine_7 =>
          unfold KidsIn
          refine ⟨⟨_, _, _, _, _, _, kp _ _ K8.out.2.2.2.2.2.2, ?_, ?_, ?_, ?_, ?_, ?_⟩, by unfold KidsIn; trivial⟩
          all_goals (rw [Lib.cell_of_heap hbC]; rfl)
        all_goals (rw [Lib.cell_of_heap hbC]; rfl)
      all_goals (rw [Lib.cell_of_heap hbC]; rfl)
    all_goals (rw [Lib.cell_of_heap hbC]; rfl)
  have hw9 : Below w.heap.size w (w8.alloc (.cells #[.int .i64 t.op, .slice ra t.rs.length rc, .string t.nm, .slice ka t.kids.length kc, .int .i64 t.mn, .int .i64 t.mx, .int .i64 tp.op, .slice rap tp.rs.length rcp, .string tp.nm, .slice kap tp.kids.length kcp, .int .i64 tp.mn, .int .i64 tp.mx, .int .i64 t6.op, .slice ra6 t6.rs.length rc6, .string t6.nm, .slice ka6 t6.kids.length kc6, .int .i64 t6.mn, .int .i64 t6.mx, .int .i64 t8.op, .slice ra8 t8.rs.length rc8, .string t8.nm, .slice ka8 t8.kids.length kc8, .int .i64 t8.mn, .int .i64 t8.mx] 25)) := K8.out.2.2.1.alloc K8.out.2.2.1.size _
  have hB9 : w8.heap.size < (w8.alloc (.cells #[.int .i64 t.op, .slice ra t.rs.length rc, .string t.nm, .slice ka t.kids.length kc, .int .i64 t.mn, .int .i64 t.mx, .int .i64 tp.op, .slice rap tp.rs.length rcp, .string tp.nm, .slice kap tp.kids.length kcp, .int .i64 tp.mn, .int .i64 tp.mx, .int .i64 t6.op, .slice ra6 t6.rs.length rc6, .string t6.nm, .slice ka6 t6.kids.length kc6, .int .i64 t6.mn, .int .i64 t6.mx, .int .i64 t8.op, .slice ra8 t8.rs.length rc8, .string t8.nm, .slice ka8 t8.kids.length kc8, .int .i64 t8.mn, .int .i64 t8.mx] 25)).heap.size := by rw [Go.Deep.nblk_alloc]; omega
  obtain ⟨w9, hw9e⟩ : ∃ x, w8.alloc (.cells #[.int .i64 t.op, .slice ra t.rs.length rc, .string t.nm, .slice ka t.kids.length kc, .int .i64 t.mn, .int .i64 t.mx, .int .i64 tp.op, .slice rap tp.rs.length rcp, .string tp.nm, .slice kap tp.kids.length kcp, .int .i64 tp.mn, .int .i64 tp.mx, .int .i64 t6.op, .slice ra6 t6.rs.length rc6, .string t6.nm, .slice ka6 t6.kids.length kc6, .int .i64 t6.mn, .int .i64 t6.mx, .int .i64 t8.op, .slice ra8 t8.rs.length rc8, .string t8.nm, .slice ka8 t8.kids.length kc8, .int .i64 t8.mn, .int .i64 t8.mx] 25) = x := ⟨_, rfl⟩
  rw [hw9e] at hkin hw9 hB9 ⊢
  have K9 := Lib.hid (And.intro hkin hw9)
  clear hkin hw9 hw9e hbC K8 hHeld hHeld4 hHeld8 hHeld9 hHeld10 hHeld11
  go_wp2
  go_loopw [8, 27] (fun _ i wr => ∃ j : Nat, j ≤ 4 ∧ i = .int .i64 j ∧ Below w9.heap.size w9 wr) (fun _ i _ => 4 - (intOf i).toNat)
  case atStart => exact ⟨0, by omega, rfl, Below.refl _ _⟩
  case round =>
    obtain ⟨j, hj, rfl, hbr⟩ := hrel
    obtain ⟨W1, rfl⟩ : ∃ W1, W1 = wr := ⟨_, rfl⟩
    by_cases hlt : j < 4
    · obtain ⟨xo, ya, yn, yc, xn, za, zn, zc, x4, x5, hin, b0, b1, b2, b3, b4, b5⟩ := kid_cells K9.out.1 (show j < [t, tp, t6, t8].length from hlt)
      rw [Nat.zero_add] at b0 b1 b2 b3 b4 b5
      have kp := keeps_below (lo := 0) hbr
      have g0 := kp _ _ _ (Nat.zero_le _) b0
      have g1 := kp _ _ _ (Nat.zero_le _) b1
      have g2 := kp _ _ _ (Nat.zero_le _) b2
      have g3 := kp _ _ _ (Nat.zero_le _) b3
      have g4 := kp _ _ _ (Nat.zero_le _) b4
      have g5 := kp _ _ _ (Nat.zero_le _) b5
      obtain ⟨q, hq⟩ : ∃ q, [t, tp, t6, t8][j]'hlt = q := ⟨_, rfl⟩
      rw [hq] at hin
      have hinr := NodeIn.keeps kp _ _ hin
      have dj1 : decide ((j : Int) < 4) = true := by rw [decide_eq_true_eq]; omega
      have dj2 : decide (j < 4) = true := by rw [decide_eq_true_eq]; omega
      have KR := Lib.hid (And.intro hinr hbr)
      clear hq b0 b1 b2 b3 b4 b5 hin hinr hbr kp
      go_wp2
      have hX := NBox.new W1 (.int .i64 xo) (.slice ya yn yc) (.string xn) (.slice za zn zc) (.int .i64 x4) (.int .i64 x5)
      have hnn := NodeIn.keeps (keeps_alloc 0 W1 (.cells #[.int .i64 xo, .slice ya yn yc, .string xn, .slice za zn zc, .int .i64 x4, .int .i64 x5] 25)) _ _ KR.out.1
      have hbb := KR.out.2.alloc KR.out.2.size (.cells #[.int .i64 xo, .slice ya yn yc, .string xn, .slice za zn zc, .int .i64 x4, .int .i64 x5] 25)
      have hzW : (W1.alloc (.cells #[.int .i64 xo, .slice ya yn yc, .string xn, .slice za zn zc, .int .i64 x4, .int .i64 x5] 25)).heap.size = W1.heap.size + 1 := by simp
      obtain ⟨W2, hW2⟩ : ∃ x, W1.alloc (.cells #[.int .i64 xo, .slice ya yn yc, .string xn, .slice za zn zc, .int .i64 x4, .int .i64 x5] 25) = x := ⟨_, rfl⟩
      rw [hW2] at hX hnn hbb hzW ⊢
      obtain ⟨X, hXe⟩ : ∃ x, W1.heap.size = x := ⟨_, rfl⟩
      rw [hXe] at hX hzW ⊢
      have hck := fun W (hW : NodeIn 0 W q (.agg #[.int .i64 xo, .slice ya yn yc, .string xn, .slice za zn zc, .int .i64 x4, .int .i64 x5])) => check_any q _ W hW
      have hrk := fun W (hW : NodeIn 0 W q (.agg #[.int .i64 xo, .slice ya yn yc, .string xn, .slice za zn zc, .int .i64 x4, .int .i64 x5])) => rcheck_any q _ W hW
      have hsz := fun W (hW : NodeIn 0 W q (.agg #[.int .i64 xo, .slice ya yn yc, .string xn, .slice za zn zc, .int .i64 x4, .int .i64 x5])) => size_any q _ W hW
      have hrz := fun W (hW : NodeIn 0 W q (.agg #[.int .i64 xo, .slice ya yn yc, .string xn, .slice za zn zc, .int .i64 x4, .int .i64 x5])) => rsize_any q _ W hW
      obtain ⟨ck, hck0⟩ : ∃ x, chkN q = x := ⟨_, rfl⟩
      obtain ⟨cz, hcz0⟩ : ∃ x : Int, (cntN q 401 : Int) = x := ⟨_, rfl⟩
      simp only [hck0, hcz0] at hck hrk hsz hrz
      have hnd := NodeIn.keeps (lo := 0) (w := W2) (w' := W2.drew) (fun _ _ _ _ h => h) _ _ hnn
      have hck1 := hck W2.drew hnd
      have KQ := Lib.hid (And.intro hck1 (And.intro hX (And.intro hnd (And.intro hbb (And.intro hrk (And.intro hsz hrz))))))
      clear hck hrk hsz hrz hX hnn hbb hW2 hXe hnd hck1 KR hck0 hcz0 g0 g1 g2 g3 g4 g5
      refine wp_region_held_drew (S := fun w' => NBox w' X (.int .i64 xo) (.slice ya yn yc) (.string xn) (.slice za zn zc) (.int .i64 x4) (.int .i64 x5)) (by kernel_rfl) (show _ from KQ.out.2.1.drew) (fun hHeld => ?_)
      refine wpAnyH_take (i := 0) (v := ?v0b) rfl (by kernel_rfl) (by kernel_rfl) (by kernel_rfl) (fun _ _ _ h => h) (Or.inl ⟨by rfl, fun w' hSw => ?y0b⟩) (by assumption) ?r0b
      case y0b =>
        obtain ⟨a0, a1, a2, a3, a4, a5⟩ := NBox.cells hSw
        go_simp
        try with_reducible rfl
      try simp only [Act.put, List.setIfInBounds_toArray, List.set_cons_zero, List.set_cons_succ]
      refine wpAnyH_take (i := 2) (v := ?v2b) rfl (by kernel_rfl) (by kernel_rfl) (by kernel_rfl) (fun _ _ _ h => h) (Or.inl ⟨by rfl, fun w' hSw => ?y2b⟩) (by assumption) ?r2b
      case y2b =>
        obtain ⟨a0, a1, a2, a3, a4, a5⟩ := NBox.cells hSw
        go_simp
        try with_reducible rfl
      try simp only [Act.put, List.setIfInBounds_toArray, List.set_cons_zero, List.set_cons_succ]
      refine wpAnyH_ready (rs := [1]) (by kernel_rfl) (by simp) (AllReadyH.cons rfl (fun K hK => ?_) AllReadyH.nil)
      go_simp
      go_wp2_with (go_at_call 8; refine (KQ.out.1).mono ?_; rintro e w11 ⟨rfl, hb11⟩)
      have hX11 := KQ.out.2.1.drew.below hb11
      have hn11 := NodeIn.keeps (keeps_below (lo := 0) hb11) _ _ KQ.out.2.2.1
      have hB11 := KQ.out.2.2.2.1.drew.trans (hb11.mono (show w9.heap.size ≤ W2.drew.heap.size from KQ.out.2.2.2.1.size))
      have hrk1 := KQ.out.2.2.2.2.1 w11 hn11
      have Q11 := Lib.hid (And.intro hrk1 (And.intro hX11 (And.intro hn11 hB11)))
      clear hX11 hn11 hB11 hrk1 hb11
      refine hK.out _ _ Q11.out.2.1 (fun hHeld1 => ?_)
      clear hK K
      try simp only [Act.put, List.setIfInBounds_toArray, List.set_cons_zero, List.set_cons_succ]
      refine wpAnyH_ready (rs := [3]) (by kernel_rfl) (by simp) (AllReadyH.cons rfl (fun K hK => ?_) AllReadyH.nil)
      go_simp
      go_wp2_with (go_at_call 9; refine (Q11.out.1).mono ?_; rintro e w12 ⟨rfl, hb12⟩)
      have hX12 := Q11.out.2.1.below hb12
      have hn12 := NodeIn.keeps (keeps_below (lo := 0) hb12) _ _ Q11.out.2.2.1
      have hB12 := Q11.out.2.2.2.trans (hb12.mono Q11.out.2.2.2.size)
      have hsz1 := KQ.out.2.2.2.2.2.1 w12 hn12
      have Q12 := Lib.hid (And.intro hsz1 (And.intro hX12 (And.intro hn12 hB12)))
      clear hX12 hn12 hB12 hsz1 hb12
      refine hK.out _ _ Q12.out.2.1 (fun hHeld3 => ?_)
      clear hK K
      try simp only [Act.put, List.setIfInBounds_toArray, List.set_cons_zero, List.set_cons_succ]
      refine wpAnyH_take (i := 4) (v := ?v4b) rfl (by kernel_rfl) (by kernel_rfl) (by kernel_rfl) (fun _ _ _ h => h) (Or.inl ⟨by rfl, fun w' hSw => ?y4b⟩) (by assumption) ?r4b
      case y4b =>
        go_simp
        try with_reducible rfl
      try simp only [Act.put, List.setIfInBounds_toArray, List.set_cons_zero, List.set_cons_succ]
      refine wpAnyH_take (i := 5) (v := ?v5b) rfl (by kernel_rfl) (by kernel_rfl) (by kernel_rfl) (fun _ _ _ h => h) (Or.inl ⟨by rfl, fun w' hSw => ?y5b⟩) (by assumption) ?r5b
      case y5b =>
        go_simp
        try with_reducible rfl
      try simp only [Act.put, List.setIfInBounds_toArray, List.set_cons_zero, List.set_cons_succ]
      refine wpAnyH_take (i := 6) (v := ?v6b) rfl (by kernel_rfl) (by kernel_rfl) (by kernel_rfl) (fun _ _ _ h => h) (Or.inl ⟨by rfl, fun w' hSw => ?y6b⟩) (by assumption) ?r6b
      case y6b =>
        obtain ⟨a0, a1, a2, a3, a4, a5⟩ := NBox.cells hSw
        go_simp
        try with_reducible rfl
      try simp only [Act.put, List.setIfInBounds_toArray, List.set_cons_zero, List.set_cons_succ]
      refine wpAnyH_take (i := 8) (v := ?v8b) rfl (by kernel_rfl) (by kernel_rfl) (by kernel_rfl) (fun _ _ _ h => h) (Or.inl ⟨by rfl, fun w' hSw => ?y8b⟩) (by assumption) ?r8b
      case y8b =>
        obtain ⟨a0, a1, a2, a3, a4, a5⟩ := NBox.cells hSw
        go_simp
        try with_reducible rfl
      try simp only [Act.put, List.setIfInBounds_toArray, List.set_cons_zero, List.set_cons_succ]
      refine wpAnyH_ready (rs := [7]) (by kernel_rfl) (by simp) (AllReadyH.cons rfl (fun K hK => ?_) AllReadyH.nil)
      go_simp
      go_wp2_with (go_at_call 10; refine (Q12.out.1).mono ?_; rintro e w13 ⟨rfl, hb13⟩)
      have hX13 := Q12.out.2.1.below hb13
      have hn13 := NodeIn.keeps (keeps_below (lo := 0) hb13) _ _ Q12.out.2.2.1
      have hB13 := Q12.out.2.2.2.trans (hb13.mono Q12.out.2.2.2.size)
      have hrz1 := KQ.out.2.2.2.2.2.2 w13 hn13
      have Q13 := Lib.hid (And.intro hrz1 (And.intro hX13 (And.intro hn13 hB13)))
      clear hX13 hn13 hB13 hrz1 hb13
      refine hK.out _ _ Q13.out.2.1 (fun hHeld7 => ?_)
      clear hK K
      try simp only [Act.put, List.setIfInBounds_toArray, List.set_cons_zero, List.set_cons_succ]
      refine wpAnyH_ready (rs := [9]) (by kernel_rfl) (by simp) (AllReadyH.cons rfl (fun K hK => ?_) AllReadyH.nil)
      go_simp
      go_wp2_with (go_at_call 11; refine (Q13.out.1).mono ?_; rintro e w14 ⟨rfl, hb14⟩)
      have hX14 := Q13.out.2.1.below hb14
      have hB14 := Q13.out.2.2.2.trans (hb14.mono Q13.out.2.2.2.size)
      have Q14 := Lib.hid (And.intro hX14 hB14)
      clear hX14 hB14 hb14
      refine hK.out _ _ Q14.out.1 (fun hHeld9 => ?_)
      clear hK K
      try simp only [Act.put, List.setIfInBounds_toArray, List.set_cons_zero, List.set_cons_succ]
      refine wpAnyH_take (i := 10) (v := ?v10b) rfl (by kernel_rfl) (by kernel_rfl) (by kernel_rfl) (fun _ _ _ h => h) (Or.inl ⟨by rfl, fun w' hSw => ?y10b⟩) (by assumption) ?r10b
      case y10b =>
        go_simp
        try with_reducible rfl
      try simp only [Act.put, List.setIfInBounds_toArray, List.set_cons_zero, List.set_cons_succ]
      refine wpAnyH_take (i := 11) (v := ?v11b) rfl (by kernel_rfl) (by kernel_rfl) (by kernel_rfl) (fun _ _ _ h => h) (Or.inl ⟨by rfl, fun w' hSw => ?y11b⟩) (by assumption) ?r11b
      case y11b =>
        go_simp
        try with_reducible rfl
      try simp only [Act.put, List.setIfInBounds_toArray, List.set_cons_zero, List.set_cons_succ]
      refine wpAnyH_done (by kernel_rfl) ?_ _
      go_wp2
      go_roundw
      case rel => exact ⟨j + 1, by omega, by simp, Q14.out.2⟩
      case measure => simp [intOf]; omega
    · obtain rfl : j = 4 := by omega
      go_wp2
      go_ret
      exact ⟨rfl, K9.out.2.trans (hbr.mono K9.out.2.size)⟩
end Go.Proofs.Ytfmoidhpafpgnaa
