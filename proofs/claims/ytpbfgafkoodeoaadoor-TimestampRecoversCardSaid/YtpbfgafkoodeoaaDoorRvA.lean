/- The table of byte classes that package ascii fills: the contract of classes, and of Digit, Letter, Word, Space and their references. The contracts of package ascii's Number and of its reference: both return the number of a decimal integer of at most 18 digits. -/
import Derived.Test.YtpbfgafkoodeoaaDoorProg
import Derived.WalkKit
import Derived.ProofKit
import Derived.Laws.Rows
import Derived.Laws.NewBlocks
import Derived.Outline
import Derived.Below
import Derived.Laws.CopyOwn
import Derived.Lib.Hide
import Derived.Test.YtpbfgafkoodeoaaDoorShelf
import Derived.LoopTactic
namespace Go.Proofs.YtpbfgafkoodeoaaDoor
open Go.RowKit

/-- A row of 256 bytes. -/
def rowOf (f : Nat → Nat) : Array Value := ((List.range 256).map fun i => Value.int .u8 (f i)).toArray
theorem rowOf_size (f : Nat → Nat) : (rowOf f).size = 256 := by simp [rowOf]
theorem rowOf_get (f : Nat → Nat) (i : Nat) (h : i < 256) : (rowOf f)[i]? = some (.int .u8 (f i)) := by simp [rowOf, h]
theorem rowOf_set (f : Nat → Nat) (k v : Nat) : (rowOf f).setIfInBounds k (.int .u8 v) = rowOf fun i => if i = k then v else f i := by
  apply Array.ext
  · simp [rowOf]
  · intro i h1 h2
    have h3 : i < 256 := by simpa [rowOf] using h2
    rw [Array.getElem_setIfInBounds]
    · by_cases e : k = i
      · simp [rowOf, e]
      · simp [rowOf, e, Ne.symm e]
    · simpa [rowOf] using h3
theorem rowOf_congr {f g : Nat → Nat} (h : ∀ i, f i = g i) : rowOf f = rowOf g := by
  have : f = g := funext h
  rw [this]

def clsDig (k i : Nat) : Nat := if 48 ≤ i ∧ i < k then 1 else 0
def clsLow (k i : Nat) : Nat := if 97 ≤ i ∧ i < k then 2 else clsDig 58 i
def clsUp (k i : Nat) : Nat := if 65 ≤ i ∧ i < k then 2 else clsLow 123 i
def cls1 (i : Nat) : Nat := if i = 95 then 4 else clsUp 91 i
def cls2 (i : Nat) : Nat := if i = 32 then 8 else cls1 i
def cls (i : Nat) : Nat := if i = 9 then 8 else cls2 i

theorem zeroRow : Tryd.zeroCells99 = rowOf fun _ => 0 := by kernel_rfl

theorem size43 : (Tryd.prog.info? 99).map (·.size) = some 256 := by kernel_rfl
theorem rowOf_one (f : Nat → Nat) : (rowOf f).all (·.oneCell') = true := by simp [rowOf, Value.oneCell']

/-- The world while the table is being filled. -/
def clsWorld (w : World) (f : Nat → Nat) : World := (w.alloc (Obj.cells (rowOf fun _ => 0) 99)).alloc (Obj.cells (rowOf f) 99)
theorem clsWorld_heap (w : World) (f : Nat → Nat) : (clsWorld w f).heap[w.heap.size + 1]? = some (.cells (rowOf f) 99 (0, 0)) := heap_alloc2_new _ _ _
theorem clsWorld_set (w : World) (f : Nat → Nat) (k v : Nat) {z : Int} (hz : z = v) : (clsWorld w f).setCell ⟨w.heap.size + 1, k, none⟩ (.int .u8 z) = clsWorld w fun i => if i = k then v else f i := by
  subst hz
  unfold clsWorld
  rw [World.setCell_alloc_at _ _ _ _ _ (by simp)]
  rw [rowOf_set]
theorem clsWorld_congr (w : World) {f g : Nat → Nat} (h : ∀ i, f i = g i) : clsWorld w f = clsWorld w g := by
  have : f = g := funext h
  rw [this]

theorem clsWorld_cell (w : World) (f : Nat → Nat) (k : Nat) (h : k < 256) : (clsWorld w f).cell? ⟨w.heap.size + 1, k, none⟩ = some (.int .u8 (f k)) := by
  rw [cell_of_row _ _ _ _ _ _ (clsWorld_heap w f), rowOf_get f k h]
theorem clsWorld_frozen (w : World) (f : Nat → Nat) (k : Nat) : (clsWorld w f).frozen? ⟨w.heap.size + 1, k, none⟩ = false := frozen_of_row _ _ _ _ _ (clsWorld_heap w f)

set_option maxRecDepth 100000 in
set_option maxHeartbeats 1000000 in
theorem classes_any (w : World) :
    Calls Tryd.prog 75 #[] w fun e w' => e = .returned (.agg (rowOf cls)) ∧ Below w.heap.size w w' := by
  go_enter Tryd.func75, Tryd.ntmps75
  go_wp2
  rw [zeroRow]
  go_loopw [2] (fun i wr => ∃ k : Nat, 48 ≤ k ∧ k ≤ 58 ∧ i = .int .i32 k ∧ wr = clsWorld w (clsDig k)) (fun i _ => 58 - (intOf i).toNat)
  case atStart => exact ⟨48, by omega, by omega, rfl, by rw [clsWorld_congr w (g := fun _ => 0) (fun i => by unfold clsDig; split <;> omega)]; rfl⟩
  case round =>
    obtain ⟨k, hk1, hk2, rfl, rfl⟩ := hrel
    have hc := clsWorld_cell w (clsDig k) k (by omega)
    have hf := clsWorld_frozen w (clsDig k) k
    by_cases hlt : k < 58
    · go_wp2
      go_roundw
      case rel => exact ⟨k + 1, by omega, by omega, by simp, by rw [clsWorld_set w _ k 1 (z := 1) rfl]; exact clsWorld_congr w (fun i => by unfold clsDig; (repeat' split) <;> omega)⟩
      case measure => simp [intOf]; omega
    · obtain rfl : k = 58 := by omega
      clear hc hf hlt hk1 hk2
      have hd : decide ((58 : Int) ≤ 57) = false := by decide
      go_wp2
      clear hd
      go_loopw [3] (fun i wr => ∃ k : Nat, 97 ≤ k ∧ k ≤ 123 ∧ i = .int .i32 k ∧ wr = clsWorld w (clsLow k)) (fun i _ => 123 - (intOf i).toNat)
      case atStart => exact ⟨97, by omega, by omega, rfl, clsWorld_congr w (fun i => by unfold clsLow; split <;> omega)⟩
      case round =>
        obtain ⟨k, hk1, hk2, rfl, rfl⟩ := hrel
        have hc := clsWorld_cell w (clsLow k) k (by omega)
        have hf := clsWorld_frozen w (clsLow k) k
        by_cases hlt : k < 123
        · go_wp2
          go_roundw
          case rel => exact ⟨k + 1, by omega, by omega, by simp, by rw [clsWorld_set w _ k 2 (z := 2) rfl]; exact clsWorld_congr w (fun i => by unfold clsLow; (repeat' split) <;> omega)⟩
          case measure => simp [intOf]; omega
        · obtain rfl : k = 123 := by omega
          clear hc hf hlt hk1 hk2
          have hd : decide ((123 : Int) ≤ 122) = false := by decide
          go_wp2
          clear hd
          go_loopw [4] (fun i wr => ∃ k : Nat, 65 ≤ k ∧ k ≤ 91 ∧ i = .int .i32 k ∧ wr = clsWorld w (clsUp k)) (fun i _ => 91 - (intOf i).toNat)
          case atStart => exact ⟨65, by omega, by omega, rfl, clsWorld_congr w (fun i => by unfold clsUp; split <;> omega)⟩
          case round =>
            obtain ⟨k, hk1, hk2, rfl, rfl⟩ := hrel
            have hc := clsWorld_cell w (clsUp k) k (by omega)
            have hf := clsWorld_frozen w (clsUp k) k
            by_cases hlt : k < 91
            · go_wp2
              go_roundw
              case rel => exact ⟨k + 1, by omega, by omega, by simp, by rw [clsWorld_set w _ k 2 (z := 2) rfl]; exact clsWorld_congr w (fun i => by unfold clsUp; (repeat' split) <;> omega)⟩
              case measure => simp [intOf]; omega
            · obtain rfl : k = 91 := by omega
              clear hc hf hlt hk1 hk2
              have hd : decide ((91 : Int) ≤ 90) = false := by decide
              have s1 : (clsWorld w (clsUp 91)).setCell ⟨w.heap.size + 1, 95, none⟩ (.int .u8 4) = clsWorld w cls1 := clsWorld_set w _ 95 4 (z := 4) rfl
              have s2 : (clsWorld w cls1).setCell ⟨w.heap.size + 1, 32, none⟩ (.int .u8 8) = clsWorld w cls2 := clsWorld_set w _ 32 8 (z := 8) rfl
              have s3 : (clsWorld w cls2).setCell ⟨w.heap.size + 1, 9, none⟩ (.int .u8 8) = clsWorld w cls := clsWorld_set w _ 9 8 (z := 8) rfl
              have c1 := clsWorld_cell w (clsUp 91) 95 (by omega)
              have f1 := clsWorld_frozen w (clsUp 91) 95
              have c2 := clsWorld_cell w cls1 32 (by omega)
              have f2 := clsWorld_frozen w cls1 32
              have c3 := clsWorld_cell w cls2 9 (by omega)
              have f3 := clsWorld_frozen w cls2 9
              go_wp2_with (first
                | (with_reducible refine wpList_load_row rfl 99 (.tmp 1) rfl (w.heap.size + 1) rfl 99 (rowOf cls) (0, 0) _ (clsWorld_heap w cls) Tryd.underlying99 rfl (by rw [rowOf_size]; exact size43) ?_)
                | (with_reducible refine wpList_store_row rfl 99 (.tmp 0) (.tmp 26) rfl w.heap.size (rowOf cls) rfl rfl 99 (rowOf fun _ => 0) (heap_alloc2_old _ _ _) (by rw [rowOf_size]; exact size43) (by rw [rowOf_size, rowOf_size]) (rowOf_one _) ?_))
              refine bodyPost_ret (results_cell_row rfl _ _ w.heap.size 99 (rowOf cls) (0, 0) _ rfl (setRow_heap _ _ _ _ _ _ (heap_alloc2_old _ _ _)) Tryd.underlying99 rfl (by rw [rowOf_size]; exact size43)) rfl ⟨rfl, ?_⟩
              exact below_setRow (((Below.refl _ w).alloc (Nat.le_refl _) _).alloc (by simp) _) (Nat.le_refl _) _

theorem size41 : (Tryd.prog.info? 97).map (·.size) = some 1 := by kernel_rfl
theorem run_index_row (f : Nat → Nat) (k : IntKind) (i : Nat) (h : i < 256) (w : World) :
    (Instr.index 99 (.agg (rowOf f)) (.int k i)).run Tryd.prog w = .ok (.int .u8 (f i)) w := by
  have hg := rowOf_get f i h
  have hz := size41
  unfold Instr.index
  cases hq : Tryd.prog.info? 97 with
  | none => simp [hq] at hz
  | some j =>
    have hj : j.size = 1 := by simpa [hq] using hz
    simp [go_sem, asIntOf, run_underlying Tryd.underlying99, sizeOf, typeInfo, hq, hj, h, hg]

def digB (c : Nat) : Bool := decide (48 ≤ c ∧ c ≤ 57)
def letB (c : Nat) : Bool := decide (97 ≤ c ∧ c ≤ 122 ∨ 65 ≤ c ∧ c ≤ 90)
def wrdB (c : Nat) : Bool := digB c || letB c || decide (c = 95)
def spcB (c : Nat) : Bool := decide (c = 32 ∨ c = 9)
theorem digB_bits : ∀ c : Fin 256, (bits BinOp.and IntKind.u8 (↑(cls c.1)) 1 != 0) = digB c.1 := by decide +kernel
theorem letB_bits : ∀ c : Fin 256, (bits BinOp.and IntKind.u8 (↑(cls c.1)) 2 != 0) = letB c.1 := by decide +kernel
theorem wrdB_bits : ∀ c : Fin 256, (bits BinOp.and IntKind.u8 (↑(cls c.1)) 7 != 0) = wrdB c.1 := by decide +kernel
theorem spcB_bits : ∀ c : Fin 256, (bits BinOp.and IntKind.u8 (↑(cls c.1)) 8 != 0) = spcB c.1 := by decide +kernel

set_option maxRecDepth 100000 in
theorem digit_any (c : Nat) (hc : c < 256) (w : World) :
    Calls Tryd.prog 73 #[.int .u8 c] w fun e w' => e = .returned (.bool (digB c)) ∧ Below w.heap.size w w' := by
  have hi := fun k w => run_index_row cls k c hc w
  have hb0 := digB_bits ⟨c, hc⟩
  go_enter Tryd.func73, Tryd.ntmps73
  go_wp2_with (go_at_call 75; refine (classes_any _).mono ?_; rintro e w' ⟨rfl, hb⟩)
  go_ret
  exact ⟨rfl, hb⟩

theorem ret_bool {a b : Bool} (h : a = b) : Ending.returned (.bool a) = .returned (.bool b) := by rw [h]
theorem rdigit_any (c : Nat) (w : World) :
    Calls Tryd.prog 45 #[.int .u8 c] w fun e w' => e = .returned (.bool (digB c)) ∧ w = w' := by
  go_enter Tryd.func45, Tryd.ntmps45
  go_wp2
  all_goals
    go_ret
    exact ⟨ret_bool (by rw [Bool.eq_iff_iff]; simp [digB]; try omega), rfl⟩
end Go.Proofs.YtpbfgafkoodeoaaDoor

namespace Go.Proofs.YtpbfgafkoodeoaaDoor
open Go.RowKit

def valD (l : List UInt8) : Nat := l.foldl (fun n c => 10 * n + (c.toNat - 48)) 0
theorem valD_snoc (l : List UInt8) (c : UInt8) : valD (l ++ [c]) = 10 * valD l + (c.toNat - 48) := by simp [valD]
def allD (l : List UInt8) : Bool := l.all fun c => digB c.toNat
theorem allD_snoc (l : List UInt8) (c : UInt8) : allD (l ++ [c]) = (allD l && digB c.toNat) := by simp [allD]
theorem valD_lt_aux (l : List UInt8) (h : allD l = true) : ∀ a : Nat, l.foldl (fun n c => 10 * n + (c.toNat - 48)) a < (a + 1) * 10 ^ l.length := by
  induction l with
  | nil => intro a; simp
  | cons c r ih =>
    intro a
    simp only [allD, List.all_cons, Bool.and_eq_true] at h
    have h2 : digB c.toNat = true := h.1
    simp [digB] at h2
    have := ih h.2 (10 * a + (c.toNat - 48))
    rw [List.foldl_cons, List.length_cons, Nat.pow_succ]
    refine Nat.lt_of_lt_of_le this ?_
    have e : (a + 1) * (10 ^ r.length * 10) = (10 * (a + 1)) * 10 ^ r.length := by rw [Nat.mul_comm (10 ^ r.length) 10, ← Nat.mul_assoc, Nat.mul_comm (a + 1) 10]
    rw [e]
    exact Nat.mul_le_mul_right _ (by omega)
theorem valD_lt (l : List UInt8) (h : allD l = true) : valD l < 10 ^ l.length := by
  have := valD_lt_aux l h 0
  simpa [valD] using this
theorem valD_bd (l : List UInt8) (k : Nat) (h : allD l = true) (hk : l.length ≤ k) : valD l < 10 ^ k :=
  Nat.lt_of_lt_of_le (valD_lt l h) (Nat.pow_le_pow_right (by omega) hk)
theorem take_snoc' (l : List UInt8) (k : Nat) (h : k < l.length) : l.take (k + 1) = l.take k ++ [l[k]] := by
  rw [List.take_succ_eq_append_getElem h]
theorem take_snocB (s : ByteArray) (k : Nat) (h : k < s.size) : s.data.toList.take (k + 1) = s.data.toList.take k ++ [s[k]] := by
  rw [List.take_succ_eq_append_getElem (by simpa using h)]; rfl
theorem sizeB (s : ByteArray) : s.data.toList.length = s.size := by rw [Array.length_toList]; rfl
theorem allD_falseB (s : ByteArray) (k : Nat) (h : k < s.size) (hd : digB s[k].toNat = false) : allD s.data.toList = false := by
  have hm : s[k] ∈ s.data.toList := List.getElem_mem (l := s.data.toList) (n := k) (by rw [sizeB]; exact h)
  rw [allD, List.all_eq_false]
  exact ⟨s[k], hm, by rw [hd]; exact Bool.false_ne_true⟩

def digOk (l : List UInt8) : Bool := decide (1 ≤ l.length ∧ l.length ≤ 18) && allD l
def isNeg (l : List UInt8) : Bool := l.head? == some 45
def digPart (l : List UInt8) : List UInt8 := if isNeg l then l.tail else l
def numB (l : List UInt8) : Bool := digOk (digPart l)
def numV (l : List UInt8) : Int := if numB l then (if isNeg l then -(valD (digPart l) : Int) else valD (digPart l)) else 0

theorem ret_ib {k : IntKind} {a a' : Int} {b b' : Bool} (h : a = a') (h' : b = b') : Ending.returned (.tuple #[.int k a, .bool b]) = .returned (.tuple #[.int k a', .bool b']) := by rw [h, h']

theorem cutMinus (l : List UInt8) : Lib.trimPrefix l [45] = digPart l ∧ Lib.hasPrefix l [45] = isNeg l := by
  cases l with
  | nil => simp [Lib.trimPrefix, Lib.hasPrefix, digPart, isNeg]
  | cons c r =>
    by_cases h : c = 45
    · subst h; simp [Lib.trimPrefix, Lib.hasPrefix, digPart, isNeg]
    · simp [Lib.trimPrefix, Lib.hasPrefix, digPart, isNeg, h, List.isPrefixOf, Bool.beq_comm]

set_option maxRecDepth 100000 in
set_option maxHeartbeats 1000000 in
theorem number_any (l : List UInt8) (w : World) :
    Calls Tryd.prog 62 #[.string ⟨l.toArray⟩] w fun e w' => e = .returned (.tuple #[.int .i64 (numV l), .bool (numB l)]) ∧ Below w.heap.size w w' := by
  obtain ⟨D, hD⟩ : ∃ D : ByteArray, ByteArray.mk (digPart l).toArray = D := ⟨_, rfl⟩
  have hd : digPart l = D.data.toList := by rw [← hD]
  obtain ⟨n, hn⟩ : ∃ n, isNeg l = n := ⟨_, rfl⟩
  have hcut := Tryd.strings_CutPrefix ⟨l.toArray⟩ ⟨#[45]⟩ w
  rw [show (ByteArray.mk l.toArray).data.toList = l from by simp, show (ByteArray.mk #[45]).data.toList = [45] from rfl, (cutMinus l).1, (cutMinus l).2, hD, hn] at hcut
  have hB : numB l = digOk D.data.toList := by unfold numB; rw [hd]
  have hV : numV l = if digOk D.data.toList then (if n then -(valD D.data.toList : Int) else valD D.data.toList) else 0 := by unfold numV; rw [hB, hd, hn]
  have HB := Lib.hid hB
  have HV := Lib.hid hV
  clear hB hV hd hn hD
  have HC : Hid (Calls Tryd.prog 74 #[.string ⟨l.toArray⟩, .string ⟨#[45]⟩] w fun e w' => e = .returned (.tuple #[.string D, .bool n]) ∧ w = w') := hcut.mono fun _ _ h => ⟨h.1, h.2.symm⟩
  clear hcut
  by_cases h1 : 1 ≤ D.size ∧ D.size ≤ 18
  · go_enter Tryd.func62, Tryd.ntmps62
    go_wp2_with (first
      | (go_at_call 74; refine (HC.out).mono ?_; rintro e w' ⟨rfl, rfl⟩)
      | (go_at_call 75; refine (classes_any _).mono ?_; rintro e w1 ⟨rfl, hb1⟩)
      | (with_reducible refine wpList_store_row rfl 99 (.tmp 6) (.tmp 22) rfl w1.heap.size (rowOf cls) rfl rfl 99 (rowOf fun _ => 0) (by rw [← zeroRow]; exact heap_alloc_new _ _) (by rw [rowOf_size]; exact size43) (by rw [rowOf_size, rowOf_size]) (rowOf_one _) ?_))
    obtain ⟨w2, hw2⟩ : ∃ w2, (w1.alloc (Obj.cells Tryd.zeroCells99 99)).setRow w1.heap.size (rowOf cls) = w2 := ⟨_, rfl⟩
    have hcel : ∀ i, i < 256 → w2.cell? ⟨w1.heap.size, i, none⟩ = some (.int .u8 (cls i)) := fun i hi => by
      rw [← hw2, cell_setRow_same _ _ _ _ _ _ _ (heap_alloc_new _ _), rowOf_get cls i hi]
    have hbel : Below w.heap.size w w2 := by
      rw [← hw2]
      exact below_setRow (hb1.alloc hb1.size _) hb1.size _
    rw [hw2]
    have HCEL := Lib.hid hcel
    clear hw2 hcel
    go_loop [7, 25] (fun v i => ∃ k : Nat, k ≤ D.size ∧ i = .int .i64 k ∧ v = .int .i64 (valD (D.data.toList.take k)) ∧ allD (D.data.toList.take k) = true) (fun _ i => D.size - (intOf i).toNat)
    case atStart => exact ⟨0, by omega, rfl, rfl, rfl⟩
    case round =>
      obtain ⟨k, hk, rfl, rfl, had⟩ := hrel
      by_cases hlt : k < D.size
      · have hv := valD_bd (D.data.toList.take k) 17 had (by simp; omega)
        have hc := HCEL.out D[k].toNat (UInt8.toNat_lt _)
        have hclt := UInt8.toNat_lt D[k]
        have hbits := digB_bits ⟨D[k].toNat, UInt8.toNat_lt _⟩
        simp only [] at hbits
        by_cases hdg : digB D[k].toNat = true
        · have h48 : 48 ≤ D[k].toNat ∧ D[k].toNat ≤ 57 := by simpa [digB] using hdg
          have hsn : valD (D.data.toList.take (k + 1)) = 10 * valD (D.data.toList.take k) + (D[k].toNat - 48) := by rw [take_snocB D k hlt, valD_snoc]
          have hal : allD (D.data.toList.take (k + 1)) = true := by rw [take_snocB D k hlt, allD_snoc, had, hdg]; rfl
          rw [hdg] at hbits
          have hb2 : (bits BinOp.and IntKind.u8 (↑(cls D[k].toNat)) 1 == 0) = false := by
            rw [bne_iff_ne] at hbits
            rw [beq_eq_false_iff_ne]
            exact hbits
          have HSN := Lib.hid hsn
          have HAL := Lib.hid hal
          clear hsn hal hbits
          go_wp2
          go_round
          case rel => exact ⟨k + 1, by omega, by simp, by rw [HSN.out]; congr 1; omega, HAL.out⟩
          case measure => simp [intOf]; omega
        · have hdf : digB D[k].toNat = false := by simpa using hdg
          have hok : digOk D.data.toList = false := by unfold digOk; rw [allD_falseB D k hlt hdf, Bool.and_false]
          rw [hdf] at hbits
          have hb2 : (bits BinOp.and IntKind.u8 (↑(cls D[k].toNat)) 1 == 0) = true := by
            rw [bne_eq_false_iff_eq] at hbits
            rw [beq_iff_eq]
            exact hbits
          have HOK := Lib.hid hok
          clear hok hbits hdg hdf
          go_wp2
          go_ret2
          exact ⟨ret_ib (by rw [HV.out, HOK.out]; rfl) (by rw [HB.out, HOK.out]), hbel⟩
      · obtain rfl : k = D.size := by omega
        have htk : D.data.toList.take D.size = D.data.toList := by rw [← sizeB, List.take_length]
        rw [htk] at had ⊢
        have hok : digOk D.data.toList = true := by unfold digOk; rw [had, sizeB]; simp; omega
        have hv := valD_bd D.data.toList 18 had (by rw [sizeB]; omega)
        have HOK := Lib.hid hok
        clear hok
        cases n
        all_goals
          go_wp2
          go_ret2
          exact ⟨ret_ib (by rw [HV.out, HOK.out]; rfl) (by rw [HB.out, HOK.out]), hbel⟩
  · have hok : digOk D.data.toList = false := by unfold digOk; rw [sizeB]; simp; omega
    have HOK := Lib.hid hok
    clear hok
    by_cases h2 : D.size < 1
    all_goals
      go_enter Tryd.func62, Tryd.ntmps62
      go_wp2_with (go_at_call 74; refine (HC.out).mono ?_; rintro e w' ⟨rfl, rfl⟩)
      all_goals
        go_ret2
        exact ⟨ret_ib (by rw [HV.out, HOK.out]; rfl) (by rw [HB.out, HOK.out]), Below.refl _ _⟩
end Go.Proofs.YtpbfgafkoodeoaaDoor
