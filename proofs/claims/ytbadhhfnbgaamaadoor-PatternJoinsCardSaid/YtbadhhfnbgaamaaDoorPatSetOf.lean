/- The contract of a byte set that add fills, wherever the ranges lie, and of setOf. -/
import Derived.Test.YtbadhhfnbgaamaaDoorPatSet
namespace Go.Proofs.YtbadhhfnbgaamaaDoor
open Go.RowKit

set_option maxRecDepth 100000 in
set_option maxHeartbeats 4000000 in
theorem add_gen (G lo : Nat) (f : Nat → Bool) (rs : List (Nat × Nat)) (v : Value) (w : World) (hk0 : ∀ w', Fr G w w' → RangesIn lo w' v rs) (hs : SetAt G f w) :
    Calls Tryd.prog 46 #[.pointer (some ⟨G, 0, none⟩), v] w fun e w' => e = .returned (.tuple #[]) ∧ SetAt G (addS f rs) w' ∧ Fr G w w' := by
  obtain ⟨a, c, rfl, hl, hb, -⟩ := hk0 w (Fr.refl G w)
  have hc0 : ∀ w', Fr G w w' → ∀ i (h : i < rs.length), ∃ b o, a = some ⟨b, o, none⟩ ∧ lo ≤ b ∧ w'.cell? ⟨b, o + i * 2, none⟩ = some (.int .u8 (rs[i].1 : Nat)) ∧ w'.cell? ⟨b, o + i * 2 + 1, none⟩ = some (.int .u8 (rs[i].2 : Nat)) := fun w' hf => by
    obtain ⟨a', c', he, -, -, hc⟩ := hk0 w' hf
    cases he
    exact hc
  have HC := Lib.hid hc0
  clear hc0
  have HB := Lib.hid hb
  have HS := Lib.hid hs
  clear hb hs hk0
  unfold maxLen at hl
  go_enter Tryd.func46, Tryd.ntmps46
  go_wp2
  go_loopw [9] (fun i wr => ∃ k : Nat, k ≤ rs.length ∧ i = .int .i64 k ∧ SetAt G (addS f (rs.take k)) wr ∧ Fr G w wr) (fun i _ => rs.length - (intOf i).toNat)
  case atStart => exact ⟨0, by omega, rfl, HS.out.congr fun i _ => by simp [addS], Fr.refl _ _⟩
  case round =>
    obtain ⟨k, hk, rfl, hset, hfr⟩ := hrel
    obtain ⟨W1, rfl⟩ : ∃ W1, W1 = wr := ⟨_, rfl⟩
    by_cases hlt : k < rs.length
    · obtain ⟨b, o, rfl, hbl, g1, g2⟩ := HC.out W1 hfr k hlt
      obtain ⟨x1, x2⟩ := HB.out rs[k] (List.getElem_mem hlt)
      have hst := addS_take f rs k hlt
      obtain ⟨x, hx⟩ : ∃ x, rs[k].1 = x := ⟨_, rfl⟩
      obtain ⟨y, hy⟩ : ∃ y, rs[k].2 = y := ⟨_, rfl⟩
      have hin : ∀ c, inR rs[k] c = decide (x ≤ c ∧ c ≤ y) := fun c => by unfold inR; rw [hx, hy]
      rw [hx] at g1 x1
      rw [hy] at g2 x2
      have hnew := heap_alloc_new W1 (.cells #[.int .u8 (x : Int), .int .u8 (y : Int)] 57)
      have hfa := (Fr.refl G W1).alloc (.cells #[.int .u8 (x : Int), .int .u8 (y : Int)] 57)
      have hsa := hset.alloc (.cells #[.int .u8 (x : Int), .int .u8 (y : Int)] 57)
      have hGl := hset.lt
      have K := Lib.hid (And.intro hst (And.intro hin (And.intro hnew (And.intro hfa (And.intro hsa hfr)))))
      clear hst hin hnew hfa hsa hfr hset hx hy
      go_wp2
      go_loopw [6] (fun c w2 => ∃ m : Nat, x ≤ m ∧ (m = x ∨ m ≤ y + 1) ∧ c = .int .i64 m ∧ SetAt G (addTo (addS f (rs.take k)) x m) w2 ∧ w2.heap[W1.heap.size]? = some (.cells #[.int .u8 (x : Int), .int .u8 (y : Int)] 57 (0, 0)) ∧ Fr G W1 w2) (fun c _ => 256 - (intOf c).toNat)
      case atStart => exact ⟨x, by omega, .inl rfl, rfl, K.out.2.2.2.2.1.congr fun i _ => by simp [addTo]; omega, K.out.2.2.1, K.out.2.2.2.1⟩
      case round =>
        obtain ⟨m, hm1, hm2, rfl, hset, hbox, hfr⟩ := hrel
        have b1 : wr.cell? ⟨W1.heap.size, 1, none⟩ = some (.int .u8 (y : Int)) := by rw [Lib.cell_of_heap hbox]; rfl
        have hf := hset.frozen m
        by_cases hm : m ≤ y
        · have hc := hset.cell m (by omega)
          have KK := Lib.hid (And.intro hset (And.intro hbox hfr))
          clear hset hbox hfr
          go_wp2
          go_roundw
          case rel =>
            refine ⟨m + 1, by omega, .inr (by omega), by simp, (KK.out.1.set m true).congr fun i _ => ?_, ?_, KK.out.2.2.setCell m _⟩
            · unfold addTo
              by_cases he : i = m
              · rw [if_pos he, he, decide_eq_true (by omega), Bool.or_true]
              · rw [if_neg he]; congr 1; exact decide_eq_decide.2 (by omega)
            · rw [Below.heap_setCell _ ⟨G, m, none⟩ _ _ (by have := K.out.2.2.2.2.1.lt; simp only [ne_eq]; omega)]; exact KK.out.2.1
          case measure => simp [intOf]; omega
        · have d1 : decide ((m : Int) ≤ (y : Int)) = false := by simp; omega
          have KK := Lib.hid (And.intro hset (And.intro hbox hfr))
          clear hset hbox hfr
          go_wp2
          go_roundw
          case rel =>
            refine ⟨k + 1, by omega, by simp, KK.out.1.congr fun i _ => ?_, K.out.2.2.2.2.2.trans KK.out.2.2⟩
            rw [K.out.1, K.out.2.1]
            unfold addTo; congr 1; exact decide_eq_decide.2 (by omega)
          case measure => simp [intOf]; omega
    · obtain rfl : k = rs.length := by omega
      rw [List.take_length] at hset
      have KK := Lib.hid (And.intro hset hfr)
      clear hset hfr
      go_wp2
      go_end0
      exact ⟨rfl, KK.out.1, KK.out.2⟩

set_option maxRecDepth 100000 in
set_option maxHeartbeats 2000000 in
theorem setOf_any (lo : Nat) (rs : List (Nat × Nat)) (v : Value) (w : World) (h : RangesIn lo w v rs) :
    Calls Tryd.prog 33 #[v] w fun e w' => e = .returned (.agg (rowB (addS (fun _ => false) rs))) ∧ Below w.heap.size w w' := by
  have hfr0 := fun X => (Fr.refl (w.heap.size + 1) w).alloc X
  have hk0 : ∀ X Y w', Fr (w.heap.size + 1) ((w.alloc X).alloc Y) w' → RangesIn lo w' v rs := fun X Y w' hf => by
    have hb : Below w.heap.size w w' := by
      have hx : Below w.heap.size w ((w.alloc X).alloc Y) := ((Below.refl _ _).alloc (Nat.le_refl _) _).alloc (by simp) _
      exact ⟨hf.os.trans hx.os, hf.tape.trans hx.tape, hf.output.trans hx.output, Nat.le_trans hx.size hf.size, fun k hk => (World.grownBy.block hf k (by simp; omega) (by simp; omega)).trans (hx.block k hk)⟩
    exact h.keeps (keeps_below hb)
  have hset : ∀ X, SetAt (w.heap.size + 1) (fun _ => false) ((w.alloc X).alloc (.cells (rowB fun _ => false) 80)) := fun X => by
    have := heap_alloc_new (w.alloc X) (.cells (rowB fun _ => false) 80)
    have e : (w.alloc X).heap.size = w.heap.size + 1 := by simp
    rw [e] at this
    exact this
  have HK := Lib.hid fun X => add_gen (w.heap.size + 1) lo (fun _ => false) rs v ((w.alloc X).alloc (.cells (rowB fun _ => false) 80)) (hk0 X _) (hset X)
  clear hk0 hset h hfr0
  go_enter Tryd.func33, Tryd.ntmps33
  go_wp2_with fail
  rw [zeroRowB]
  refine (HK.out _).mono ?_
  rintro e w1 ⟨rfl, hs1, hf1⟩
  have hm : w1.heap[w.heap.size]? = some (.cells (rowB fun _ => false) 80 (0, 0)) := by
    rw [World.grownBy.block hf1 w.heap.size (by simp; omega) (by simp)]
    exact heap_alloc2_old _ _ _
  have HO := Lib.hid (And.intro hs1 (And.intro hf1 hm))
  clear hs1 hf1 hm
  unfold SetAt at HO
  go_wp2_with (first
    | (with_reducible refine wpList_load_row rfl 80 (.tmp 3) rfl (w.heap.size + 1) rfl 80 (rowB (addS (fun _ => false) rs)) (0, 0) _ HO.out.1 Tryd.underlying80 rfl (by rw [rowB_size]; exact sizeSet) ?_)
    | (with_reducible refine wpList_store_row rfl 80 (.tmp 2) (.tmp 6) rfl w.heap.size (rowB (addS (fun _ => false) rs)) rfl rfl 80 (rowB fun _ => false) HO.out.2.2 (by rw [rowB_size]; exact sizeSet) (by rw [rowB_size, rowB_size]) (rowB_one _) ?_))
  refine bodyPost_ret (results_cell_row rfl _ _ w.heap.size 80 (rowB (addS (fun _ => false) rs)) (0, 0) _ rfl (setRow_heap _ _ _ _ _ _ HO.out.2.2) Tryd.underlying80 rfl (by rw [rowB_size]; exact sizeSet)) rfl ⟨rfl, ?_⟩
  have hf := HO.out.2.1
  have hx : Below w.heap.size w ((w.alloc (.cells (rowB fun _ => false) 80)).alloc (.cells (rowB fun _ => false) 80)) := ((Below.refl _ _).alloc (Nat.le_refl _) _).alloc (by simp) _
  have hb1 : Below w.heap.size w w1 := ⟨hf.os.trans hx.os, hf.tape.trans hx.tape, hf.output.trans hx.output, Nat.le_trans hx.size hf.size, fun k hk => (World.grownBy.block hf k (by simp; omega) (by simp; omega)).trans (hx.block k hk)⟩
  exact below_setRow hb1 (Nat.le_refl _) _
end Go.Proofs.YtbadhhfnbgaamaaDoor
