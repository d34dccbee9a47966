/- The contracts of the byte sets that brackets fill: setOf, add, others; the set's block alone is written. The contracts of others and ranges of a byte set. -/
import Derived.Test.YtfmoidhpafpgnaaPatEsc
import Derived.Laws.Rows
import Derived.Deep.Heap
namespace Go.Proofs.Ytfmoidhpafpgnaa
open Go.RowKit

/-- A row of 256 bools. -/
def rowB (f : Nat → Bool) : Array Value := ((List.range 256).map fun i => Value.bool (f i)).toArray
theorem rowB_size (f : Nat → Bool) : (rowB f).size = 256 := by simp [rowB]
theorem rowB_get (f : Nat → Bool) (i : Nat) (h : i < 256) : (rowB f)[i]? = some (.bool (f i)) := by simp [rowB, h]
theorem rowB_set (f : Nat → Bool) (k : Nat) (b : Bool) : (rowB f).setIfInBounds k (.bool b) = rowB fun i => if i = k then b else f i := by
  apply Array.ext
  · simp [rowB]
  · intro i h1 h2
    have h3 : i < 256 := by simpa [rowB] using h2
    rw [Array.getElem_setIfInBounds]
    · by_cases e : k = i
      · simp [rowB, e]
      · simp [rowB, e, Ne.symm e]
    · simpa [rowB] using h3
theorem rowB_congr {f g : Nat → Bool} (h : ∀ i, i < 256 → f i = g i) : rowB f = rowB g := by
  unfold rowB
  congr 1
  exact List.map_congr_left fun i hi => by rw [h i (by simpa using hi)]
theorem rowB_one (f : Nat → Bool) : (rowB f).all (·.oneCell') = true := by simp [rowB, Value.oneCell']
theorem zeroRowB : Try.zeroCells82 = rowB fun _ => false := by kernel_rfl
theorem sizeSet : (Try.prog.info? 82).map (·.size) = some 256 := by kernel_rfl

def SetAt (G : Nat) (f : Nat → Bool) (w : World) : Prop := w.heap[G]? = some (.cells (rowB f) 82 (0, 0))
theorem SetAt.lt {G : Nat} {f : Nat → Bool} {w : World} (h : SetAt G f w) : G < w.heap.size := (Array.getElem?_eq_some_iff.1 h).1
theorem SetAt.cell {G : Nat} {f : Nat → Bool} {w : World} (h : SetAt G f w) (k : Nat) (hk : k < 256) : w.cell? ⟨G, k, none⟩ = some (.bool (f k)) := by
  rw [cell_of_row _ _ _ _ _ _ h, rowB_get f k hk]
theorem SetAt.frozen {G : Nat} {f : Nat → Bool} {w : World} (h : SetAt G f w) (k : Nat) : w.frozen? ⟨G, k, none⟩ = false := frozen_of_row _ _ _ _ _ h
theorem SetAt.congr {G : Nat} {f g : Nat → Bool} {w : World} (h : SetAt G f w) (e : ∀ i, i < 256 → f i = g i) : SetAt G g w := by
  unfold SetAt at *; rw [← rowB_congr e]; exact h
theorem SetAt.set {G : Nat} {f : Nat → Bool} {w : World} (h : SetAt G f w) (k : Nat) (b : Bool) : SetAt G (fun i => if i = k then b else f i) (w.setCell ⟨G, k, none⟩ (.bool b)) := by
  unfold SetAt at *
  simp only [World.setCell, Array.getElem?_modify, if_true, h, Option.map_some, rowB_set]
  rfl
theorem SetAt.keep {G B : Nat} {f : Nat → Bool} {w w' : World} (h : SetAt G f w) (k : Fr B w w') (hB : G ≠ B) : SetAt G f w' :=
  (World.grownBy.block k G h.lt (fun e => hB (Option.some.inj e))).trans h
theorem SetAt.below {G : Nat} {f : Nat → Bool} {w w' : World} (h : SetAt G f w) (k : Below w.heap.size w w') : SetAt G f w' := (k.block G h.lt).trans h
theorem SetAt.alloc {G : Nat} {f : Nat → Bool} {w : World} (h : SetAt G f w) (o : Obj) : SetAt G f (w.alloc o) := (Below.heap_alloc w o G h.lt).trans h

def inR (r : Nat × Nat) (c : Nat) : Bool := decide (r.1 ≤ c ∧ c ≤ r.2)
def addS (f : Nat → Bool) (rs : List (Nat × Nat)) (c : Nat) : Bool := f c || rs.any fun r => inR r c
def addTo (f : Nat → Bool) (a m : Nat) (c : Nat) : Bool := f c || decide (a ≤ c ∧ c < m)
theorem addS_take (f : Nat → Bool) (rs : List (Nat × Nat)) (k : Nat) (h : k < rs.length) (c : Nat) : addS f (rs.take (k + 1)) c = (addS f (rs.take k) c || inR rs[k] c) := by
  unfold addS
  rw [List.take_succ_eq_append_getElem h, List.any_append, Bool.or_assoc]
  simp

set_option maxRecDepth 100000 in
set_option maxHeartbeats 4000000 in
theorem add_any (G lo : Nat) (f : Nat → Bool) (rs : List (Nat × Nat)) (v : Value) (w : World) (h : RangesIn lo w v rs) (hs : SetAt G f w) (hG : G < lo) :
    Calls Try.prog 56 #[.pointer (some ⟨G, 0, none⟩), v] w fun e w' => e = .returned (.tuple #[]) ∧ SetAt G (addS f rs) w' ∧ Fr G w w' := by
  obtain ⟨a, c, rfl, hl, hb, hc⟩ := h
  have HC := Lib.hid hc
  have HB := Lib.hid hb
  have HS := Lib.hid hs
  clear hb hc hs
  unfold maxLen at hl
  go_enter Try.func56, Try.ntmps56
  go_wp2
  go_loopw [9] (fun i wr => ∃ k : Nat, k ≤ rs.length ∧ i = .int .i64 k ∧ SetAt G (addS f (rs.take k)) wr ∧ Fr G w wr) (fun i _ => rs.length - (intOf i).toNat)
  case atStart => exact ⟨0, by omega, rfl, HS.out.congr fun i _ => by simp [addS], Fr.refl _ _⟩
  case round =>
    obtain ⟨k, hk, rfl, hset, hfr⟩ := hrel
    obtain ⟨W1, rfl⟩ : ∃ W1, W1 = wr := ⟨_, rfl⟩
    by_cases hlt : k < rs.length
    · obtain ⟨b, o, rfl, hbl, hc1, hc2⟩ := HC.out k hlt
      have g1 : W1.cell? ⟨b, o + k * 2, none⟩ = some (.int .u8 (rs[k].1 : Nat)) := hfr.keeps hG b _ _ hbl hc1
      have g2 : W1.cell? ⟨b, o + k * 2 + 1, none⟩ = some (.int .u8 (rs[k].2 : Nat)) := hfr.keeps hG b _ _ hbl hc2
      obtain ⟨x1, x2⟩ := HB.out rs[k] (List.getElem_mem hlt)
      have hst := addS_take f rs k hlt
      obtain ⟨x, hx⟩ : ∃ x, rs[k].1 = x := ⟨_, rfl⟩
      obtain ⟨y, hy⟩ : ∃ y, rs[k].2 = y := ⟨_, rfl⟩
      have hin : ∀ c, inR rs[k] c = decide (x ≤ c ∧ c ≤ y) := fun c => by unfold inR; rw [hx, hy]
      rw [hx] at g1 x1
      rw [hy] at g2 x2
      have hnew := heap_alloc_new W1 (.cells #[.int .u8 (x : Int), .int .u8 (y : Int)] 46)
      have hfa := (Fr.refl G W1).alloc (.cells #[.int .u8 (x : Int), .int .u8 (y : Int)] 46)
      have hsa := hset.alloc (.cells #[.int .u8 (x : Int), .int .u8 (y : Int)] 46)
      have hGl := hset.lt
      have K := Lib.hid (And.intro hst (And.intro hin (And.intro hnew (And.intro hfa (And.intro hsa hfr)))))
      clear hst hin hnew hfa hsa hfr hset hx hy hc1 hc2
      go_wp2
      go_loopw [6] (fun c w2 => ∃ m : Nat, x ≤ m ∧ (m = x ∨ m ≤ y + 1) ∧ c = .int .i64 m ∧ SetAt G (addTo (addS f (rs.take k)) x m) w2 ∧ w2.heap[W1.heap.size]? = some (.cells #[.int .u8 (x : Int), .int .u8 (y : Int)] 46 (0, 0)) ∧ Fr G W1 w2) (fun c _ => 256 - (intOf c).toNat)
      case atStart => exact ⟨x, by omega, .inl rfl, rfl, K.out.2.2.2.2.1.congr fun i _ => by simp [addTo]; omega, K.out.2.2.1, K.out.2.2.2.1⟩
      case round =>
        obtain ⟨m, hm1, hm2, rfl, hset, hbox, hfr⟩ := hrel
        have b1 : wr.cell? ⟨W1.heap.size, 1, none⟩ = some (.int .u8 (y : Int)) := by rw [Lib.cell_of_heap hbox]; rfl
        have hf := hset.frozen m
        by_cases hm : m ≤ y
        · have hc := hset.cell m (by omega)
          have KK := Lib.hid (And.intro hset (And.intro hbox hfr))
          clear hset hbox hfr
          go_wp2
          go_roundw
          case rel =>
            refine ⟨m + 1, by omega, .inr (by omega), by simp, (KK.out.1.set m true).congr fun i _ => ?_, ?_, KK.out.2.2.setCell m _⟩
            · unfold addTo
              by_cases he : i = m
              · rw [if_pos he, he, decide_eq_true (by omega), Bool.or_true]
              · rw [if_neg he]; congr 1; exact decide_eq_decide.2 (by omega)
            · rw [Below.heap_setCell _ ⟨G, m, none⟩ _ _ (by have := K.out.2.2.2.2.1.lt; simp only [ne_eq]; omega)]; exact KK.out.2.1
          case measure => simp [intOf]; omega
        · have d1 : decide ((m : Int) ≤ (y : Int)) = false := by simp; omega
          have KK := Lib.hid (And.intro hset (And.intro hbox hfr))
          clear hset hbox hfr
          go_wp2
          go_roundw
          case rel =>
            refine ⟨k + 1, by omega, by simp, KK.out.1.congr fun i _ => ?_, K.out.2.2.2.2.2.trans KK.out.2.2⟩
            rw [K.out.1, K.out.2.1]
            unfold addTo; congr 1; exact decide_eq_decide.2 (by omega)
          case measure => simp [intOf]; omega
    · obtain rfl : k = rs.length := by omega
      rw [List.take_length] at hset
      have KK := Lib.hid (And.intro hset hfr)
      clear hset hfr
      go_wp2
      go_end0
      exact ⟨rfl, KK.out.1, KK.out.2⟩
end Go.Proofs.Ytfmoidhpafpgnaa

namespace Go.Proofs.Ytfmoidhpafpgnaa
open Go.RowKit

theorem heap_alloc3_old (w : World) (a b c : Obj) : (((w.alloc a).alloc b).alloc c).heap[w.heap.size]? = some a :=
  (Below.heap_alloc ((w.alloc a).alloc b) c _ (by rw [Go.Deep.nblk_alloc, Go.Deep.nblk_alloc]; omega)).trans (heap_alloc2_old w a b)
theorem heap_alloc3_mid (w : World) (a b c : Obj) : (((w.alloc a).alloc b).alloc c).heap[w.heap.size + 1]? = some b :=
  (Below.heap_alloc ((w.alloc a).alloc b) c _ (by rw [Go.Deep.nblk_alloc, Go.Deep.nblk_alloc]; omega)).trans (heap_alloc2_new w a b)
theorem heap_alloc3_new (w : World) (a b c : Obj) : (((w.alloc a).alloc b).alloc c).heap[w.heap.size + 1 + 1]? = some c := by
  have := heap_alloc_new ((w.alloc a).alloc b) c
  rw [Go.Deep.nblk_alloc, Go.Deep.nblk_alloc] at this
  exact this
theorem run_index_set (f : Nat → Bool) (k : IntKind) (i : Nat) (h : i < 256) (w : World) :
    (Instr.index 82 (.agg (rowB f)) (.int k i)).run Try.prog w = .ok (.bool (f i)) w := by
  have hg := rowB_get f i h
  unfold Instr.index
  have hz : (Try.prog.info? 4).map (·.size) = some 1 := by kernel_rfl
  cases hq : Try.prog.info? 4 with
  | none => simp [hq] at hz
  | some j =>
    have hj : j.size = 1 := by simpa [hq] using hz
    simp [go_sem, asIntOf, run_underlying Try.underlying82, sizeOf, typeInfo, hq, hj, h, hg]
def notTo (f : Nat → Bool) (k c : Nat) : Bool := if c < k then !f c else false

/-- The world while others is being filled. -/
def othW (w : World) (f g : Nat → Bool) : World := ((w.alloc (.cells (rowB f) 82)).alloc (.cells (rowB fun _ => false) 82)).alloc (.cells (rowB g) 82)
theorem othW_set (w : World) (f g : Nat → Bool) (k : Nat) (b : Bool) : (othW w f g).setCell ⟨w.heap.size + 1 + 1, k, none⟩ (.bool b) = othW w f fun i => if i = k then b else g i := by
  unfold othW
  rw [World.setCell_alloc_at _ _ _ _ _ (by rw [Go.Deep.nblk_alloc, Go.Deep.nblk_alloc])]
  rw [rowB_set]
theorem othW_congr (w : World) (f : Nat → Bool) {g g' : Nat → Bool} (h : ∀ i, i < 256 → g i = g' i) : othW w f g = othW w f g' := by
  unfold othW; rw [rowB_congr h]
theorem othW_at (w : World) (f g : Nat → Bool) : SetAt (w.heap.size + 1 + 1) g (othW w f g) := heap_alloc3_new _ _ _ _

set_option maxRecDepth 100000 in
set_option maxHeartbeats 4000000 in
theorem others_any (f : Nat → Bool) (w : World) :
    Calls Try.prog 58 #[.agg (rowB f)] w fun e w' => e = .returned (.agg (rowB fun c => !f c)) ∧ Below w.heap.size w w' := by
  go_enter Try.func58, Try.ntmps58
  go_wp2_with (with_reducible refine wpList_load_row rfl 82 (.tmp 1) rfl w.heap.size rfl 82 (rowB f) (0, 0) _ (heap_alloc3_old _ _ _ _) Try.underlying82 rfl (by rw [rowB_size]; exact sizeSet) ?_)
  rw [zeroRowB]
  go_loopw [7] (fun i wr => ∃ k : Nat, k ≤ 256 ∧ i = .int .i64 k ∧ wr = othW w f (notTo f k)) (fun i _ => 256 - (intOf i).toNat)
  case atStart => exact ⟨0, by omega, rfl, by rw [othW_congr w f (g := notTo f 0) (g' := fun _ => false) (fun i _ => by simp [notTo])]; rfl⟩
  case round =>
    obtain ⟨k, hk, rfl, rfl⟩ := hrel
    by_cases hlt : k < 256
    · have hi := fun q W => run_index_set f q k hlt W
      have hc := (othW_at w f (notTo f k)).cell k hlt
      have hf := (othW_at w f (notTo f k)).frozen k
      go_wp2
      go_roundw
      case rel => exact ⟨k + 1, by omega, by simp, by
        rw [othW_set]
        refine othW_congr w f fun i _ => ?_
        unfold notTo
        by_cases he : i = k
        · rw [if_pos he, he, if_pos (by omega)]
        · rw [if_neg he]
          by_cases h2 : i < k
          · rw [if_pos h2, if_pos (by omega)]
          · rw [if_neg h2, if_neg (by omega)]⟩
      case measure => simp [intOf]; omega
    · obtain rfl : k = 256 := by omega
      have d1 : decide (((256 : Nat) : Int) < 256) = false := by decide
      have hE : othW w f (notTo f 256) = othW w f (fun c => !f c) := othW_congr w f fun i hi => by unfold notTo; rw [if_pos hi]
      rw [hE]
      have ho := othW_at w f (fun c => !f c)
      unfold othW SetAt at *
      clear hE
      have HO := Lib.hid ho
      clear ho
      go_wp2_with (first
        | (with_reducible refine wpList_load_row rfl 82 (.tmp 3) rfl (w.heap.size + 1 + 1) rfl 82 (rowB fun c => !f c) (0, 0) _ HO.out Try.underlying82 rfl (by rw [rowB_size]; exact sizeSet) ?_)
        | (with_reducible refine wpList_store_row rfl 82 (.tmp 2) (.tmp 16) rfl (w.heap.size + 1) (rowB fun c => !f c) rfl rfl 82 (rowB fun _ => false) (heap_alloc3_mid _ _ _ _) (by rw [rowB_size]; exact sizeSet) (by rw [rowB_size, rowB_size]) (rowB_one _) ?_))
      refine bodyPost_ret (results_cell_row rfl _ _ (w.heap.size + 1) 82 (rowB fun c => !f c) (0, 0) _ rfl (setRow_heap _ _ _ _ _ _ (heap_alloc3_mid _ _ _ _)) Try.underlying82 rfl (by rw [rowB_size]; exact sizeSet)) rfl ⟨rfl, ?_⟩
      exact below_setRow ((((Below.refl _ w).alloc (Nat.le_refl _) _).alloc (by simp) _).alloc (by simp; omega) _) (by omega) _
end Go.Proofs.Ytfmoidhpafpgnaa
