/- slices.Grow of nil and slices.Concat of two rows of bytes. -/
import Derived.Test.YtbpboghjgbgjfaaFsJ
import Derived.Lib.AppendZeros
namespace Go.Proofs.Ytbpboghjgbgjfaa
open Go.RowKit

theorem infoB2 : (Try.prog.info? 5).map (fun i => (i.zero, i.size, i.bytes)) = some (some (.int .u8 0), 1, 1) := by kernel_rfl
theorem row_zeros (w : World) (n cap : Nat) (hc : n ≤ cap) (hm : cap ≤ maxLen) : (w.alloc (.cells (Builtin.zeroCells (Value.int .u8 0).cells n ++ Builtin.zeroCells (Value.int .u8 0).cells (cap - n)) 5)).ownsRow w.heap.size 5 1 (.slice (some ⟨w.heap.size, 0, none⟩) 0 cap) 0 [] := by
  refine ⟨rfl, .inr ⟨w.heap.size, cap, _, rfl, Nat.le_refl _, heap_alloc_new _ _, Nat.zero_le _, hm, ?_, by simp⟩⟩
  simp only [Array.size_append, size_zeroCells]
  simp [Value.cells]
  omega
set_option maxRecDepth 100000 in
set_option maxHeartbeats 4000000 in
theorem growB_nil (n : Nat) (w : World) (h0 : 0 < n) (h1 : n ≤ 200000) :
    Calls Try.prog 79 #[.slice none 0 0, .int .i64 (n : Int)] w fun e w' => ∃ g cap, e = .returned (.slice (some ⟨g, 0, none⟩) 0 cap) ∧ w'.ownsRow w.heap.size 5 1 (.slice (some ⟨g, 0, none⟩) 0 cap) 0 [] ∧ Below w.heap.size w w' := by
  obtain ⟨i0, hi, hz0, hz1, hz2⟩ := info_parts infoB2
  have hrun := fun (W : World) (ty : TypeId) => Lib.run_append_nil_zeros (P := Try.prog) W 22 3 ty 5 i0 (.int .u8 0) .i64 .i64 Try.underlying22 Try.underlying3 hi hz0 n h0 (by omega) (by omega) (by rw [hz2]; omega)
  have hge := fun W => grownCap_ge W n 0 5
  have hle := fun W => grownCap_le_maxLen W n 0 5 (by unfold maxLen; omega)
  have hrow := row_zeros w.drew n (grownCap w n 0 5) (hge w) (hle w)
  have hcm : grownCap w n 0 5 ≤ 9223372036854775807 := by have := hle w; unfold maxLen at this; omega
  have d1 : decide ((n : Int) < 0) = false := by rw [decide_eq_false_iff_not]; omega
  have d2 : decide ((0 : Int) < (n : Int)) = true := by rw [decide_eq_true_iff]; omega
  obtain ⟨C, hC⟩ : ∃ C, grownCap w n 0 5 = C := ⟨_, rfl⟩
  have hr2 := hrun w 22
  rw [hC] at hr2 hrow hcm
  have HR := Lib.hid (And.intro hrow hr2)
  clear hrun hge hle hrow hC hr2
  go_enter Try.func79, Try.ntmps79
  go_wp2_with (at_builtin; refine Lib.wpList_append_run _ rfl (.tmp 20) (.tmp 21) _ _ rfl _ _ rfl rfl _ _ HR.out.2 ?_)
  go_ret
  exact ⟨_, _, rfl, HR.out.1, (below_new w (.cells (Builtin.zeroCells (Value.int .u8 0).cells n ++ Builtin.zeroCells (Value.int .u8 0).cells (C - n)) 5)).drew⟩
/-- Bytes that are read alone, and are there. -/
def SrcC (w : World) (v : Value) (l : List UInt8) : Prop := ∃ g c, v = .slice (some ⟨g, 0, none⟩) l.length c ∧ g < w.heap.size ∧ ∀ j u, (byC l)[j]? = some u → w.cell? ((⟨g, 0, none⟩ : Addr).add j) = some u
theorem SrcC.below {w w' : World} {v : Value} {l : List UInt8} (h : SrcC w v l) (k : Below w.heap.size w w') : SrcC w' v l := by
  obtain ⟨g, c, h1, h2, h4⟩ := h
  refine ⟨g, c, h1, Nat.lt_of_lt_of_le h2 k.size, fun j u hj => ?_⟩
  rw [← h4 j u hj]
  have hbl : ((⟨g, 0, none⟩ : Addr).add j).block = g := by unfold Addr.add; split <;> rfl
  exact k.cell (by rw [hbl]; exact h2)
def catL (l1 l2 : List UInt8) : Nat → List UInt8
  | 0 => []
  | 1 => l1
  | _ => l1 ++ l2
structure CatI (w : World) (l1 l2 : List UInt8) (t : Nat) (v : Value) (wr : World) : Prop where
  r : wr.ownsRow w.heap.size 5 1 v (catL l1 l2 t).length (byC (catL l1 l2 t))
  b : Below w.heap.size w wr
set_option maxRecDepth 100000 in
set_option linter.unusedSimpArgs false in
set_option maxHeartbeats 8000000 in
theorem concat_two (sb : Nat) (v1 v2 : Value) (l1 l2 : List UInt8) (w : World) (hs : BkAt sb 22 #[v1, v2] w) (h1 : SrcC w v1 l1) (h2 : SrcC w v2 l2) (hn0 : 0 < l1.length + l2.length) (hn : l1.length + l2.length ≤ 200000) :
    Calls Try.prog 65 #[.slice (some ⟨sb, 0, none⟩) 2 2] w fun e w' => (∃ v', e = .returned v' ∧ w'.ownsRow w.heap.size 5 1 v' (l1 ++ l2).length (byC (l1 ++ l2))) ∧ Below w.heap.size w w' := by
  obtain ⟨i0, hi, hz0, hz1, hz2⟩ := info_parts infoB2
  have hx : ∀ t, t < 2 → ∃ (g c : Nat) (l : List UInt8), catL l1 l2 (t + 1) = catL l1 l2 t ++ l ∧ (∀ W, Below w.heap.size w W → W.cell? ⟨sb, t, none⟩ = some (.slice (some ⟨g, 0, none⟩) l.length c) ∧ ∀ j u, (byC l)[j]? = some u → W.cell? ((⟨g, 0, none⟩ : Addr).add j) = some u) := fun t ht => by
    have hc : t = 0 ∨ t = 1 := by omega
    rcases hc with rfl | rfl
    · obtain ⟨g, c, rfl, -, -⟩ := id h1
      exact ⟨g, c, l1, rfl, fun W hW => by
        obtain ⟨g2, c2, e, -, q⟩ := h1.below hW
        cases e
        exact ⟨(hs.below hW).cell 0, q⟩⟩
    · obtain ⟨g, c, rfl, -, -⟩ := id h2
      exact ⟨g, c, l2, rfl, fun W hW => by
        obtain ⟨g2, c2, e, -, q⟩ := h2.below hW
        cases e
        exact ⟨(hs.below hW).cell 1, q⟩⟩
  have hlen2 : (catL l1 l2 2).length = l1.length + l2.length := List.length_append
  have hlt2 : ∀ t, t ≤ 2 → (catL l1 l2 t).length ≤ l1.length + l2.length := fun t ht => by
    have hc : t = 0 ∨ t = 1 ∨ t = 2 := by omega
    rcases hc with rfl | rfl | rfl
    · exact Nat.zero_le _
    · exact Nat.le_add_right _ _
    · exact Nat.le_of_eq hlen2
  have H := Lib.hid (And.intro hx (And.intro hlen2 hlt2))
  obtain ⟨N, hN⟩ : ∃ N, l1.length + l2.length = N := ⟨_, rfl⟩
  rw [hN] at hn0 hn H
  clear hx hlen2 hlt2 hs h1 h2 hN
  go_enter Try.func65, Try.ntmps65
  go_wp2_with fail
  go_loopw [3, 11] (fun sv iv wr => ∃ t : Nat, iv = .int .i64 t ∧ t ≤ 2 ∧ sv = .int .i64 ((catL l1 l2 t).length : Nat) ∧ Below w.heap.size w wr) (fun _ iv _ => 2 - (intOf iv).toNat)
  case atStart => exact ⟨0, rfl, by omega, rfl, Below.refl _ _⟩
  case round =>
    obtain ⟨t, rfl, ht, rfl, hb⟩ := hrel
    by_cases hlt : t < 2
    · have d1 : decide ((t : Int) < 2) = true := by rw [decide_eq_true_iff]; omega
      obtain ⟨g, c, l, hcat, hcell⟩ := H.out.1 t hlt
      obtain ⟨cx, -⟩ := hcell wr hb
      have hle := H.out.2.2 (t + 1) (by omega)
      have hsum : (catL l1 l2 (t + 1)).length = (catL l1 l2 t).length + l.length := by rw [hcat, List.length_append]
      obtain ⟨A, hA⟩ : ∃ A, (catL l1 l2 t).length = A := ⟨_, rfl⟩
      obtain ⟨B, hB⟩ : ∃ B, l.length = B := ⟨_, rfl⟩
      rw [hA, hB] at hsum
      rw [hB] at cx
      rw [hA]
      have HB := Lib.hid (And.intro hb hsum)
      have hAB : A + B ≤ 200000 := by omega
      clear hb hcell hcat hle hA hB hsum
      have d2 : decide ((A : Int) + (B : Int) < 0) = false := by rw [decide_eq_false_iff_not]; omega
      go_wp2
      go_roundw
      case rel => exact ⟨t + 1, by congr 1, by omega, by rw [HB.out.2]; push_cast; rfl, HB.out.1⟩
      case measure => simp [intOf]; omega
    · obtain rfl : t = 2 := by omega
      have HB := Lib.hid hb
      clear hb
      rw [H.out.2.1]
      go_wp2_with fail
      refine (growB_nil N _ hn0 hn).mono ?_
      rintro e w1 ⟨g0, c0, rfl, hr, hb1⟩
      have hI0 : CatI w l1 l2 0 (.slice (some ⟨g0, 0, none⟩) 0 c0) w1 := ⟨row_base hr HB.out.size, bl_trans' HB.out hb1⟩
      have HI := Lib.hid hI0
      clear hr hb1 hI0
      go_wp2_with fail
      go_loopw [6, 27] (fun vv iv wr => ∃ t : Nat, iv = .int .i64 t ∧ t ≤ 2 ∧ CatI w l1 l2 t vv wr) (fun _ iv _ => 2 - (intOf iv).toNat)
      case atStart => exact ⟨0, rfl, by omega, HI.out⟩
      case round =>
        obtain ⟨t, rfl, ht, hI⟩ := hrel
        have HJ := Lib.hid hI
        clear hI
        by_cases hlt : t < 2
        · have d1 : decide ((t : Int) < 2) = true := by rw [decide_eq_true_iff]; omega
          obtain ⟨g, c, l, hcat, hcell⟩ := H.out.1 t hlt
          obtain ⟨cx, cy⟩ := hcell _ HJ.out.b
          have hle := H.out.2.2 (t + 1) (by omega)
          rw [hcat, List.length_append] at hle
          have HY := Lib.hid (And.intro cy (And.intro hcat hle))
          clear cy hcell hcat hle
          go_wp2_with (at_builtin; refine wpList_append_own_at _ rfl (.tmp 31) (.tmp 32) 22 rfl w.heap.size 5 i0 (.int .u8 0) 1 1 Try.underlying22 hi hz0 hz1 hz2 rfl (by decide) _ _ _ rfl HJ.out.r ⟨g, 0, none⟩ l.length c (byC l) rfl (byC_len l) ?c1 ?c2 ?c3 ?c4 ?c5 ?_)
          case c1 => exact HY.out.1
          case c2 => exact byC_one l
          case c3 => have := HY.out.2.2; unfold maxLen; omega
          case c4 => have := HY.out.2.2; omega
          case c5 => exact HJ.out.b.size
          intro v' w2 hown hgrow _ _
          have hnx : CatI w l1 l2 (t + 1) v' w2 := ⟨by rw [HY.out.2.1, List.length_append]; simpa [byC] using hown, below_own HJ.out.b hgrow (fun k hk => (World.ownsRow.lt HJ.out.r k hk).1)⟩
          have HN := Lib.hid hnx
          clear hown hgrow hnx
          go_wp2
          go_roundw
          case rel => exact ⟨t + 1, by congr 1, by omega, HN.out⟩
          case measure => simp [intOf]; omega
        · obtain rfl : t = 2 := by omega
          obtain ⟨ra, rn, rc, rfl⟩ := row_slice HJ.out.r
          go_wp2
          go_ret
          exact ⟨⟨_, rfl, HJ.out.r⟩, HJ.out.b⟩
end Go.Proofs.Ytbpboghjgbgjfaa
