/- The contracts of package ascii's Number and of its reference: both return the number of a decimal integer of at most 18 digits. -/
import Derived.Test.YtofomlbhbbhdjaaDoorAsciiCls
import Derived.Test.YtofomlbhbbhdjaaDoorShelf
import Derived.LoopTactic
namespace Go.Proofs.YtofomlbhbbhdjaaDoor
open Go.RowKit

def valD (l : List UInt8) : Nat := l.foldl (fun n c => 10 * n + (c.toNat - 48)) 0
theorem valD_snoc (l : List UInt8) (c : UInt8) : valD (l ++ [c]) = 10 * valD l + (c.toNat - 48) := by simp [valD]
def allD (l : List UInt8) : Bool := l.all fun c => digB c.toNat
theorem allD_snoc (l : List UInt8) (c : UInt8) : allD (l ++ [c]) = (allD l && digB c.toNat) := by simp [allD]
theorem valD_lt_aux (l : List UInt8) (h : allD l = true) : ∀ a : Nat, l.foldl (fun n c => 10 * n + (c.toNat - 48)) a < (a + 1) * 10 ^ l.length := by
  induction l with
  | nil => intro a; simp
  | cons c r ih =>
    intro a
    simp only [allD, List.all_cons, Bool.and_eq_true] at h
    have h2 : digB c.toNat = true := h.1
    simp [digB] at h2
    have := ih h.2 (10 * a + (c.toNat - 48))
    rw [List.foldl_cons, List.length_cons, Nat.pow_succ]
    refine Nat.lt_of_lt_of_le this ?_
    have e : (a + 1) * (10 ^ r.length * 10) = (10 * (a + 1)) * 10 ^ r.length := by rw [Nat.mul_comm (10 ^ r.length) 10, ← Nat.mul_assoc, Nat.mul_comm (a + 1) 10]
    rw [e]
    exact Nat.mul_le_mul_right _ (by omega)
theorem valD_lt (l : List UInt8) (h : allD l = true) : valD l < 10 ^ l.length := by
  have := valD_lt_aux l h 0
  simpa [valD] using this
theorem valD_bd (l : List UInt8) (k : Nat) (h : allD l = true) (hk : l.length ≤ k) : valD l < 10 ^ k :=
  Nat.lt_of_lt_of_le (valD_lt l h) (Nat.pow_le_pow_right (by omega) hk)
theorem take_snoc' (l : List UInt8) (k : Nat) (h : k < l.length) : l.take (k + 1) = l.take k ++ [l[k]] := by
  rw [List.take_succ_eq_append_getElem h]
theorem take_snocB (s : ByteArray) (k : Nat) (h : k < s.size) : s.data.toList.take (k + 1) = s.data.toList.take k ++ [s[k]] := by
  rw [List.take_succ_eq_append_getElem (by simpa using h)]; rfl
theorem sizeB (s : ByteArray) : s.data.toList.length = s.size := by rw [Array.length_toList]; rfl
theorem allD_falseB (s : ByteArray) (k : Nat) (h : k < s.size) (hd : digB s[k].toNat = false) : allD s.data.toList = false := by
  have hm : s[k] ∈ s.data.toList := List.getElem_mem (l := s.data.toList) (n := k) (by rw [sizeB]; exact h)
  rw [allD, List.all_eq_false]
  exact ⟨s[k], hm, by rw [hd]; exact Bool.false_ne_true⟩

def digOk (l : List UInt8) : Bool := decide (1 ≤ l.length ∧ l.length ≤ 18) && allD l
def isNeg (l : List UInt8) : Bool := l.head? == some 45
def digPart (l : List UInt8) : List UInt8 := if isNeg l then l.tail else l
def numB (l : List UInt8) : Bool := digOk (digPart l)
def numV (l : List UInt8) : Int := if numB l then (if isNeg l then -(valD (digPart l) : Int) else valD (digPart l)) else 0

theorem ret_ib {k : IntKind} {a a' : Int} {b b' : Bool} (h : a = a') (h' : b = b') : Ending.returned (.tuple #[.int k a, .bool b]) = .returned (.tuple #[.int k a', .bool b']) := by rw [h, h']

theorem cutMinus (l : List UInt8) : Lib.trimPrefix l [45] = digPart l ∧ Lib.hasPrefix l [45] = isNeg l := by
  cases l with
  | nil => simp [Lib.trimPrefix, Lib.hasPrefix, digPart, isNeg]
  | cons c r =>
    by_cases h : c = 45
    · subst h; simp [Lib.trimPrefix, Lib.hasPrefix, digPart, isNeg]
    · simp [Lib.trimPrefix, Lib.hasPrefix, digPart, isNeg, h, List.isPrefixOf, Bool.beq_comm]

set_option maxRecDepth 100000 in
set_option maxHeartbeats 1000000 in
theorem number_any (l : List UInt8) (w : World) :
    Calls Tryd.prog 81 #[.string ⟨l.toArray⟩] w fun e w' => e = .returned (.tuple #[.int .i64 (numV l), .bool (numB l)]) ∧ Below w.heap.size w w' := by
  obtain ⟨D, hD⟩ : ∃ D : ByteArray, ByteArray.mk (digPart l).toArray = D := ⟨_, rfl⟩
  have hd : digPart l = D.data.toList := by rw [← hD]
  obtain ⟨n, hn⟩ : ∃ n, isNeg l = n := ⟨_, rfl⟩
  have hcut := Tryd.strings_CutPrefix ⟨l.toArray⟩ ⟨#[45]⟩ w
  rw [show (ByteArray.mk l.toArray).data.toList = l from by simp, show (ByteArray.mk #[45]).data.toList = [45] from rfl, (cutMinus l).1, (cutMinus l).2, hD, hn] at hcut
  have hB : numB l = digOk D.data.toList := by unfold numB; rw [hd]
  have hV : numV l = if digOk D.data.toList then (if n then -(valD D.data.toList : Int) else valD D.data.toList) else 0 := by unfold numV; rw [hB, hd, hn]
  have HB := Lib.hid hB
  have HV := Lib.hid hV
  clear hB hV hd hn hD
  have HC : Hid (Calls Tryd.prog 96 #[.string ⟨l.toArray⟩, .string ⟨#[45]⟩] w fun e w' => e = .returned (.tuple #[.string D, .bool n]) ∧ w = w') := hcut.mono fun _ _ h => ⟨h.1, h.2.symm⟩
  clear hcut
  by_cases h1 : 1 ≤ D.size ∧ D.size ≤ 18
  · go_enter Tryd.func81, Tryd.ntmps81
    go_wp2_with (first
      | (go_at_call 96; refine (HC.out).mono ?_; rintro e w' ⟨rfl, rfl⟩)
      | (go_at_call 97; refine (classes_any _).mono ?_; rintro e w1 ⟨rfl, hb1⟩)
      | (with_reducible refine wpList_store_row rfl 126 (.tmp 6) (.tmp 22) rfl w1.heap.size (rowOf cls) rfl rfl 126 (rowOf fun _ => 0) (by rw [← zeroRow]; exact heap_alloc_new _ _) (by rw [rowOf_size]; exact size43) (by rw [rowOf_size, rowOf_size]) (rowOf_one _) ?_))
    obtain ⟨w2, hw2⟩ : ∃ w2, (w1.alloc (Obj.cells Tryd.zeroCells126 126)).setRow w1.heap.size (rowOf cls) = w2 := ⟨_, rfl⟩
    have hcel : ∀ i, i < 256 → w2.cell? ⟨w1.heap.size, i, none⟩ = some (.int .u8 (cls i)) := fun i hi => by
      rw [← hw2, cell_setRow_same _ _ _ _ _ _ _ (heap_alloc_new _ _), rowOf_get cls i hi]
    have hbel : Below w.heap.size w w2 := by
      rw [← hw2]
      exact below_setRow (hb1.alloc hb1.size _) hb1.size _
    rw [hw2]
    have HCEL := Lib.hid hcel
    clear hw2 hcel
    go_loop [7, 25] (fun v i => ∃ k : Nat, k ≤ D.size ∧ i = .int .i64 k ∧ v = .int .i64 (valD (D.data.toList.take k)) ∧ allD (D.data.toList.take k) = true) (fun _ i => D.size - (intOf i).toNat)
    case atStart => exact ⟨0, by omega, rfl, rfl, rfl⟩
    case round =>
      obtain ⟨k, hk, rfl, rfl, had⟩ := hrel
      by_cases hlt : k < D.size
      · have hv := valD_bd (D.data.toList.take k) 17 had (by simp; omega)
        have hc := HCEL.out D[k].toNat (UInt8.toNat_lt _)
        have hclt := UInt8.toNat_lt D[k]
        have hbits := digB_bits ⟨D[k].toNat, UInt8.toNat_lt _⟩
        simp only [] at hbits
        by_cases hdg : digB D[k].toNat = true
        · have h48 : 48 ≤ D[k].toNat ∧ D[k].toNat ≤ 57 := by simpa [digB] using hdg
          have hsn : valD (D.data.toList.take (k + 1)) = 10 * valD (D.data.toList.take k) + (D[k].toNat - 48) := by rw [take_snocB D k hlt, valD_snoc]
          have hal : allD (D.data.toList.take (k + 1)) = true := by rw [take_snocB D k hlt, allD_snoc, had, hdg]; rfl
          rw [hdg] at hbits
          have hb2 : (bits BinOp.and IntKind.u8 (↑(cls D[k].toNat)) 1 == 0) = false := by
            rw [bne_iff_ne] at hbits
            rw [beq_eq_false_iff_ne]
            exact hbits
          have HSN := Lib.hid hsn
          have HAL := Lib.hid hal
          clear hsn hal hbits
          go_wp2
          go_round
          case rel => exact ⟨k + 1, by omega, by simp, by rw [HSN.out]; congr 1; omega, HAL.out⟩
          case measure => simp [intOf]; omega
        · have hdf : digB D[k].toNat = false := by simpa using hdg
          have hok : digOk D.data.toList = false := by unfold digOk; rw [allD_falseB D k hlt hdf, Bool.and_false]
          rw [hdf] at hbits
          have hb2 : (bits BinOp.and IntKind.u8 (↑(cls D[k].toNat)) 1 == 0) = true := by
            rw [bne_eq_false_iff_eq] at hbits
            rw [beq_iff_eq]
            exact hbits
          have HOK := Lib.hid hok
          clear hok hbits hdg hdf
          go_wp2
          go_ret2
          exact ⟨ret_ib (by rw [HV.out, HOK.out]; rfl) (by rw [HB.out, HOK.out]), hbel⟩
      · obtain rfl : k = D.size := by omega
        have htk : D.data.toList.take D.size = D.data.toList := by rw [← sizeB, List.take_length]
        rw [htk] at had ⊢
        have hok : digOk D.data.toList = true := by unfold digOk; rw [had, sizeB]; simp; omega
        have hv := valD_bd D.data.toList 18 had (by rw [sizeB]; omega)
        have HOK := Lib.hid hok
        clear hok
        cases n
        all_goals
          go_wp2
          go_ret2
          exact ⟨ret_ib (by rw [HV.out, HOK.out]; rfl) (by rw [HB.out, HOK.out]), hbel⟩
  · have hok : digOk D.data.toList = false := by unfold digOk; rw [sizeB]; simp; omega
    have HOK := Lib.hid hok
    clear hok
    by_cases h2 : D.size < 1
    all_goals
      go_enter Tryd.func81, Tryd.ntmps81
      go_wp2_with (go_at_call 96; refine (HC.out).mono ?_; rintro e w' ⟨rfl, rfl⟩)
      all_goals
        go_ret2
        exact ⟨ret_ib (by rw [HV.out, HOK.out]; rfl) (by rw [HB.out, HOK.out]), Below.refl _ _⟩
end Go.Proofs.YtofomlbhbbhdjaaDoor
