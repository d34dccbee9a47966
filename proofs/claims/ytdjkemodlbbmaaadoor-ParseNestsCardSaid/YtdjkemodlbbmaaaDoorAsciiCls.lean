/- The table of byte classes that package ascii fills: the contract of classes, and of Digit, Letter, Word, Space and their references. -/
import Derived.Test.YtdjkemodlbbmaaaDoorProg
import Derived.WalkKit
import Derived.ProofKit
import Derived.Laws.Rows
import Derived.Laws.NewBlocks
import Derived.Outline
import Derived.Below
import Derived.Laws.CopyOwn
import Derived.Lib.Hide
namespace Go.Proofs.YtdjkemodlbbmaaaDoor
open Go.RowKit

/-- A row of 256 bytes. -/
def rowOf (f : Nat → Nat) : Array Value := ((List.range 256).map fun i => Value.int .u8 (f i)).toArray
theorem rowOf_size (f : Nat → Nat) : (rowOf f).size = 256 := by simp [rowOf]
theorem rowOf_get (f : Nat → Nat) (i : Nat) (h : i < 256) : (rowOf f)[i]? = some (.int .u8 (f i)) := by simp [rowOf, h]
theorem rowOf_set (f : Nat → Nat) (k v : Nat) : (rowOf f).setIfInBounds k (.int .u8 v) = rowOf fun i => if i = k then v else f i := by
  apply Array.ext
  · simp [rowOf]
  · intro i h1 h2
    have h3 : i < 256 := by simpa [rowOf] using h2
    rw [Array.getElem_setIfInBounds]
    · by_cases e : k = i
      · simp [rowOf, e]
      · simp [rowOf, e, Ne.symm e]
    · simpa [rowOf] using h3
theorem rowOf_congr {f g : Nat → Nat} (h : ∀ i, f i = g i) : rowOf f = rowOf g := by
  have : f = g := funext h
  rw [this]

def clsDig (k i : Nat) : Nat := if 48 ≤ i ∧ i < k then 1 else 0
def clsLow (k i : Nat) : Nat := if 97 ≤ i ∧ i < k then 2 else clsDig 58 i
def clsUp (k i : Nat) : Nat := if 65 ≤ i ∧ i < k then 2 else clsLow 123 i
def cls1 (i : Nat) : Nat := if i = 95 then 4 else clsUp 91 i
def cls2 (i : Nat) : Nat := if i = 32 then 8 else cls1 i
def cls (i : Nat) : Nat := if i = 9 then 8 else cls2 i

theorem zeroRow : Tryd.zeroCells80 = rowOf fun _ => 0 := by kernel_rfl

theorem size43 : (Tryd.prog.info? 80).map (·.size) = some 256 := by kernel_rfl
theorem rowOf_one (f : Nat → Nat) : (rowOf f).all (·.oneCell') = true := by simp [rowOf, Value.oneCell']

/-- The world while the table is being filled. -/
def clsWorld (w : World) (f : Nat → Nat) : World := (w.alloc (Obj.cells (rowOf fun _ => 0) 80)).alloc (Obj.cells (rowOf f) 80)
theorem clsWorld_heap (w : World) (f : Nat → Nat) : (clsWorld w f).heap[w.heap.size + 1]? = some (.cells (rowOf f) 80 (0, 0)) := heap_alloc2_new _ _ _
theorem clsWorld_set (w : World) (f : Nat → Nat) (k v : Nat) {z : Int} (hz : z = v) : (clsWorld w f).setCell ⟨w.heap.size + 1, k, none⟩ (.int .u8 z) = clsWorld w fun i => if i = k then v else f i := by
  subst hz
  unfold clsWorld
  rw [World.setCell_alloc_at _ _ _ _ _ (by simp)]
  rw [rowOf_set]
theorem clsWorld_congr (w : World) {f g : Nat → Nat} (h : ∀ i, f i = g i) : clsWorld w f = clsWorld w g := by
  have : f = g := funext h
  rw [this]

theorem clsWorld_cell (w : World) (f : Nat → Nat) (k : Nat) (h : k < 256) : (clsWorld w f).cell? ⟨w.heap.size + 1, k, none⟩ = some (.int .u8 (f k)) := by
  rw [cell_of_row _ _ _ _ _ _ (clsWorld_heap w f), rowOf_get f k h]
theorem clsWorld_frozen (w : World) (f : Nat → Nat) (k : Nat) : (clsWorld w f).frozen? ⟨w.heap.size + 1, k, none⟩ = false := frozen_of_row _ _ _ _ _ (clsWorld_heap w f)

set_option maxRecDepth 100000 in
set_option maxHeartbeats 1000000 in
theorem classes_any (w : World) :
    Calls Tryd.prog 53 #[] w fun e w' => e = .returned (.agg (rowOf cls)) ∧ Below w.heap.size w w' := by
  go_enter Tryd.func53, Tryd.ntmps53
  go_wp2
  rw [zeroRow]
  go_loopw [2] (fun i wr => ∃ k : Nat, 48 ≤ k ∧ k ≤ 58 ∧ i = .int .i32 k ∧ wr = clsWorld w (clsDig k)) (fun i _ => 58 - (intOf i).toNat)
  case atStart => exact ⟨48, by omega, by omega, rfl, by rw [clsWorld_congr w (g := fun _ => 0) (fun i => by unfold clsDig; split <;> omega)]; rfl⟩
  case round =>
    obtain ⟨k, hk1, hk2, rfl, rfl⟩ := hrel
    have hc := clsWorld_cell w (clsDig k) k (by omega)
    have hf := clsWorld_frozen w (clsDig k) k
    by_cases hlt : k < 58
    · go_wp2
      go_roundw
      case rel => exact ⟨k + 1, by omega, by omega, by simp, by rw [clsWorld_set w _ k 1 (z := 1) rfl]; exact clsWorld_congr w (fun i => by unfold clsDig; (repeat' split) <;> omega)⟩
      case measure => simp [intOf]; omega
    · obtain rfl : k = 58 := by omega
      clear hc hf hlt hk1 hk2
      have hd : decide ((58 : Int) ≤ 57) = false := by decide
      go_wp2
      clear hd
      go_loopw [3] (fun i wr => ∃ k : Nat, 97 ≤ k ∧ k ≤ 123 ∧ i = .int .i32 k ∧ wr = clsWorld w (clsLow k)) (fun i _ => 123 - (intOf i).toNat)
      case atStart => exact ⟨97, by omega, by omega, rfl, clsWorld_congr w (fun i => by unfold clsLow; split <;> omega)⟩
      case round =>
        obtain ⟨k, hk1, hk2, rfl, rfl⟩ := hrel
        have hc := clsWorld_cell w (clsLow k) k (by omega)
        have hf := clsWorld_frozen w (clsLow k) k
        by_cases hlt : k < 123
        · go_wp2
          go_roundw
          case rel => exact ⟨k + 1, by omega, by omega, by simp, by rw [clsWorld_set w _ k 2 (z := 2) rfl]; exact clsWorld_congr w (fun i => by unfold clsLow; (repeat' split) <;> omega)⟩
          case measure => simp [intOf]; omega
        · obtain rfl : k = 123 := by omega
          clear hc hf hlt hk1 hk2
          have hd : decide ((123 : Int) ≤ 122) = false := by decide
          go_wp2
          clear hd
          go_loopw [4] (fun i wr => ∃ k : Nat, 65 ≤ k ∧ k ≤ 91 ∧ i = .int .i32 k ∧ wr = clsWorld w (clsUp k)) (fun i _ => 91 - (intOf i).toNat)
          case atStart => exact ⟨65, by omega, by omega, rfl, clsWorld_congr w (fun i => by unfold clsUp; split <;> omega)⟩
          case round =>
            obtain ⟨k, hk1, hk2, rfl, rfl⟩ := hrel
            have hc := clsWorld_cell w (clsUp k) k (by omega)
            have hf := clsWorld_frozen w (clsUp k) k
            by_cases hlt : k < 91
            · go_wp2
              go_roundw
              case rel => exact ⟨k + 1, by omega, by omega, by simp, by rw [clsWorld_set w _ k 2 (z := 2) rfl]; exact clsWorld_congr w (fun i => by unfold clsUp; (repeat' split) <;> omega)⟩
              case measure => simp [intOf]; omega
            · obtain rfl : k = 91 := by omega
              clear hc hf hlt hk1 hk2
              have hd : decide ((91 : Int) ≤ 90) = false := by decide
              have s1 : (clsWorld w (clsUp 91)).setCell ⟨w.heap.size + 1, 95, none⟩ (.int .u8 4) = clsWorld w cls1 := clsWorld_set w _ 95 4 (z := 4) rfl
              have s2 : (clsWorld w cls1).setCell ⟨w.heap.size + 1, 32, none⟩ (.int .u8 8) = clsWorld w cls2 := clsWorld_set w _ 32 8 (z := 8) rfl
              have s3 : (clsWorld w cls2).setCell ⟨w.heap.size + 1, 9, none⟩ (.int .u8 8) = clsWorld w cls := clsWorld_set w _ 9 8 (z := 8) rfl
              have c1 := clsWorld_cell w (clsUp 91) 95 (by omega)
              have f1 := clsWorld_frozen w (clsUp 91) 95
              have c2 := clsWorld_cell w cls1 32 (by omega)
              have f2 := clsWorld_frozen w cls1 32
              have c3 := clsWorld_cell w cls2 9 (by omega)
              have f3 := clsWorld_frozen w cls2 9
              go_wp2_with (first
                | (with_reducible refine wpList_load_row rfl 80 (.tmp 1) rfl (w.heap.size + 1) rfl 80 (rowOf cls) (0, 0) _ (clsWorld_heap w cls) Tryd.underlying80 rfl (by rw [rowOf_size]; exact size43) ?_)
                | (with_reducible refine wpList_store_row rfl 80 (.tmp 0) (.tmp 26) rfl w.heap.size (rowOf cls) rfl rfl 80 (rowOf fun _ => 0) (heap_alloc2_old _ _ _) (by rw [rowOf_size]; exact size43) (by rw [rowOf_size, rowOf_size]) (rowOf_one _) ?_))
              refine bodyPost_ret (results_cell_row rfl _ _ w.heap.size 80 (rowOf cls) (0, 0) _ rfl (setRow_heap _ _ _ _ _ _ (heap_alloc2_old _ _ _)) Tryd.underlying80 rfl (by rw [rowOf_size]; exact size43)) rfl ⟨rfl, ?_⟩
              exact below_setRow (((Below.refl _ w).alloc (Nat.le_refl _) _).alloc (by simp) _) (Nat.le_refl _) _

theorem size41 : (Tryd.prog.info? 78).map (·.size) = some 1 := by kernel_rfl
theorem run_index_row (f : Nat → Nat) (k : IntKind) (i : Nat) (h : i < 256) (w : World) :
    (Instr.index 80 (.agg (rowOf f)) (.int k i)).run Tryd.prog w = .ok (.int .u8 (f i)) w := by
  have hg := rowOf_get f i h
  have hz := size41
  unfold Instr.index
  cases hq : Tryd.prog.info? 78 with
  | none => simp [hq] at hz
  | some j =>
    have hj : j.size = 1 := by simpa [hq] using hz
    simp [go_sem, asIntOf, run_underlying Tryd.underlying80, sizeOf, typeInfo, hq, hj, h, hg]

def digB (c : Nat) : Bool := decide (48 ≤ c ∧ c ≤ 57)
def letB (c : Nat) : Bool := decide (97 ≤ c ∧ c ≤ 122 ∨ 65 ≤ c ∧ c ≤ 90)
def wrdB (c : Nat) : Bool := digB c || letB c || decide (c = 95)
def spcB (c : Nat) : Bool := decide (c = 32 ∨ c = 9)
theorem digB_bits : ∀ c : Fin 256, (bits BinOp.and IntKind.u8 (↑(cls c.1)) 1 != 0) = digB c.1 := by decide +kernel
theorem letB_bits : ∀ c : Fin 256, (bits BinOp.and IntKind.u8 (↑(cls c.1)) 2 != 0) = letB c.1 := by decide +kernel
theorem wrdB_bits : ∀ c : Fin 256, (bits BinOp.and IntKind.u8 (↑(cls c.1)) 7 != 0) = wrdB c.1 := by decide +kernel
theorem spcB_bits : ∀ c : Fin 256, (bits BinOp.and IntKind.u8 (↑(cls c.1)) 8 != 0) = spcB c.1 := by decide +kernel

set_option maxRecDepth 100000 in
theorem letter_any (c : Nat) (hc : c < 256) (w : World) :
    Calls Tryd.prog 33 #[.int .u8 c] w fun e w' => e = .returned (.bool (letB c)) ∧ Below w.heap.size w w' := by
  have hi := fun k w => run_index_row cls k c hc w
  have hb0 := letB_bits ⟨c, hc⟩
  go_enter Tryd.func33, Tryd.ntmps33
  go_wp2_with (go_at_call 53; refine (classes_any _).mono ?_; rintro e w' ⟨rfl, hb⟩)
  go_ret
  exact ⟨rfl, hb⟩

set_option maxRecDepth 100000 in
theorem word_any (c : Nat) (hc : c < 256) (w : World) :
    Calls Tryd.prog 34 #[.int .u8 c] w fun e w' => e = .returned (.bool (wrdB c)) ∧ Below w.heap.size w w' := by
  have hi := fun k w => run_index_row cls k c hc w
  have hb0 := wrdB_bits ⟨c, hc⟩
  go_enter Tryd.func34, Tryd.ntmps34
  go_wp2_with (go_at_call 53; refine (classes_any _).mono ?_; rintro e w' ⟨rfl, hb⟩)
  go_ret
  exact ⟨rfl, hb⟩

theorem ret_bool {a b : Bool} (h : a = b) : Ending.returned (.bool a) = .returned (.bool b) := by rw [h]
theorem rdigit_any (c : Nat) (w : World) :
    Calls Tryd.prog 64 #[.int .u8 c] w fun e w' => e = .returned (.bool (digB c)) ∧ w = w' := by
  go_enter Tryd.func64, Tryd.ntmps64
  go_wp2
  all_goals
    go_ret
    exact ⟨ret_bool (by rw [Bool.eq_iff_iff]; simp [digB]; try omega), rfl⟩
theorem rletter_any (c : Nat) (w : World) :
    Calls Tryd.prog 38 #[.int .u8 c] w fun e w' => e = .returned (.bool (letB c)) ∧ w = w' := by
  go_enter Tryd.func38, Tryd.ntmps38
  go_wp2
  all_goals
    go_ret
    exact ⟨ret_bool (by rw [Bool.eq_iff_iff]; simp [letB]; try omega), rfl⟩
theorem rword_any (c : Nat) (w : World) :
    Calls Tryd.prog 39 #[.int .u8 c] w fun e w' => e = .returned (.bool (wrdB c)) ∧ w = w' := by
  cases hd : digB c <;> cases hl : letB c
  all_goals
    go_enter Tryd.func39, Tryd.ntmps39
    go_wp2_with (first | (go_at_call 64; refine (rdigit_any _ _).mono ?_; rintro e w' ⟨rfl, rfl⟩) | (go_at_call 38; refine (rletter_any _ _).mono ?_; rintro e w' ⟨rfl, rfl⟩))
    all_goals
      go_ret
      exact ⟨ret_bool (by rw [Bool.eq_iff_iff]; simp [wrdB, hd, hl]; try omega), rfl⟩

end Go.Proofs.YtdjkemodlbbmaaaDoor
