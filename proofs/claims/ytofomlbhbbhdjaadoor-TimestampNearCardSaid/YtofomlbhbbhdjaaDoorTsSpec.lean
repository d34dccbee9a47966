/- What package timestamp's cursor reads, as plain functions; no condition. -/
import Derived.Test.YtofomlbhbbhdjaaDoorAsciiCls
import Derived.Test.YtofomlbhbbhdjaaDoorNumber
namespace Go.Proofs.YtofomlbhbbhdjaaDoor

theorem bext {a b : ByteArray} (h : a.data.toList = b.data.toList) : a = b := by
  cases a; cases b; simp_all [Array.toList_inj]
theorem extract_list (s : ByteArray) (a b : Nat) : (s.extract a b).data.toList = (s.data.toList.take b).drop a := by
  rw [ByteArray.data_extract, Array.toList_extract, List.extract_eq_take_drop, List.drop_take]
/-- The byte at an offset, 0 behind the end. -/
def byN (s : ByteArray) (k : Nat) : Nat := if h : k < s.size then s[k].toNat else 0
theorem byN_in (s : ByteArray) (k : Nat) (h : k < s.size) : byN s k = s[k].toNat := by simp [byN, h]
theorem byN_out (s : ByteArray) (k : Nat) (h : ¬ k < s.size) : byN s k = 0 := by simp [byN, h]
theorem byN_lt (s : ByteArray) (k : Nat) : byN s k < 256 := by
  unfold byN; split
  · exact UInt8.toNat_lt _
  · omega
theorem byN_pos {s : ByteArray} {k : Nat} (h : byN s k ≠ 0) : k < s.size := by
  rcases Nat.lt_or_ge k s.size with l | l
  · exact l
  · exact absurd (byN_out s k (by omega)) h
theorem byN_dig {s : ByteArray} {k : Nat} (h : digB (byN s k) = true) : k < s.size := byN_pos (fun e => by rw [e] at h; simp [digB] at h)

/-- The cursor's state: the offset, and whether it failed. -/
structure CS where
  pos : Nat
  bad : Bool
def CS.next (p : CS) : CS := ⟨p.pos + 1, p.bad⟩
def takeC (s : ByteArray) (p : CS) (c : Nat) : CS := if byN s p.pos = c then p.next else p
def expectC (s : ByteArray) (p : CS) (c : Nat) : CS := if byN s p.pos = c then p.next else ⟨p.pos, true⟩
/-- How many digits there are from an offset on, at most n. -/
def dRun (s : ByteArray) : Nat → Nat → Nat
  | 0, _ => 0
  | n + 1, k => if digB (byN s k) = true then dRun s n (k + 1) + 1 else 0
theorem dRun_le (s : ByteArray) : ∀ n k, dRun s n k ≤ n
  | 0, _ => Nat.le_refl _
  | n + 1, k => by
    unfold dRun; split
    · exact Nat.succ_le_succ (dRun_le s n (k + 1))
    · omega
theorem dRun_in (s : ByteArray) : ∀ n k, k ≤ s.size → k + dRun s n k ≤ s.size
  | 0, k, h => by unfold dRun; omega
  | n + 1, k, h => by
    unfold dRun; split
    · rename_i hd
      have h2 := byN_dig hd
      have := dRun_in s n (k + 1) (by omega)
      omega
    · omega
theorem dRun_dig (s : ByteArray) : ∀ n k j, j < dRun s n k → digB (byN s (k + j)) = true
  | 0, k, j, h => by unfold dRun at h; omega
  | n + 1, k, j, h => by
    unfold dRun at h
    split at h
    · rename_i hd
      cases j with
      | zero => exact hd
      | succ j => rw [show k + (j + 1) = k + 1 + j by omega]; exact dRun_dig s n (k + 1) j (by omega)
    · omega
theorem dRun_stop (s : ByteArray) : ∀ n k, dRun s n k < n → digB (byN s (k + dRun s n k)) = false
  | 0, k, h => by omega
  | n + 1, k, h => by
    unfold dRun at h ⊢
    split
    · rename_i hd
      rw [if_pos hd] at h
      rw [show k + (dRun s n (k + 1) + 1) = k + 1 + dRun s n (k + 1) by omega]
      exact dRun_stop s n (k + 1) (by omega)
    · rename_i hd
      simpa using hd
theorem dRun_step {s : ByteArray} {n k j r : Nat} (h : r = j + dRun s (n - j) (k + j)) (hj : j < n) (hd : digB (byN s (k + j)) = true) : r = (j + 1) + dRun s (n - (j + 1)) (k + (j + 1)) := by
  obtain ⟨m, hm⟩ : ∃ m, n - j = m + 1 := ⟨n - j - 1, by omega⟩
  rw [hm] at h
  unfold dRun at h
  rw [if_pos hd] at h
  rw [show n - (j + 1) = m by omega, show k + (j + 1) = k + j + 1 by omega]
  omega
theorem dRun_end {s : ByteArray} {n k j r : Nat} (h : r = j + dRun s (n - j) (k + j)) (hd : j = n ∨ digB (byN s (k + j)) = false) : r = j := by
  rcases hd with rfl | hd
  · rw [Nat.sub_self] at h; unfold dRun at h; omega
  · cases hm : n - j with
    | zero => rw [hm] at h; unfold dRun at h; omega
    | succ m => rw [hm] at h; unfold dRun at h; rw [hd] at h; simpa using h
def digitsC (s : ByteArray) (p : CS) (a b : Nat) : CS := ⟨p.pos + dRun s b p.pos, p.bad || decide (dRun s b p.pos < a)⟩
def subL (s : ByteArray) (k n : Nat) : List UInt8 := (s.extract k (k + n)).data.toList
theorem subL_len {s : ByteArray} {k n : Nat} (h : k + n ≤ s.size) : (subL s k n).length = n := by
  unfold subL; rw [sizeB, ByteArray.size_extract]; omega
theorem subL_snoc {s : ByteArray} {k n : Nat} (h : k + n < s.size) : subL s k (n + 1) = subL s k n ++ [s[k + n]] := by
  unfold subL
  rw [extract_list, extract_list, show k + (n + 1) = (k + n) + 1 by omega, take_snocB s (k + n) h, List.drop_append_of_le_length (by rw [List.length_take, sizeB]; omega)]
theorem subL_all (s : ByteArray) (k : Nat) : ∀ n, k + n ≤ s.size → (∀ j, j < n → digB (byN s (k + j)) = true) → allD (subL s k n) = true
  | 0, _, _ => by unfold subL; rw [extract_list]; simp [allD]
  | n + 1, h, hd => by
    rw [subL_snoc (by omega), allD_snoc, subL_all s k n (by omega) (fun j hj => hd j (by omega))]
    have := hd n (by omega)
    rw [byN_in s (k + n) (by omega)] at this
    rw [this]; rfl
theorem run_all {s : ByteArray} {n k : Nat} (hk : k ≤ s.size) : allD (subL s k (dRun s n k)) = true := subL_all s k _ (dRun_in s n k hk) (dRun_dig s n k)
def numC (s : ByteArray) (k b : Nat) : Nat := valD (subL s k (dRun s b k))
theorem isNeg_digs {l : List UInt8} (h : allD l = true) : isNeg l = false := by
  cases l with
  | nil => rfl
  | cons c r =>
    simp only [allD, List.all_cons, Bool.and_eq_true] at h
    have h2 := h.1
    simp [digB] at h2
    unfold isNeg
    simp
    rintro rfl
    simp at h2
theorem numV_digs {l : List UInt8} (h : allD l = true) (hl : l.length ≤ 18) : numV l = (valD l : Int) := by
  unfold numV numB digPart
  rw [isNeg_digs h]
  simp only [Bool.false_eq_true, if_false]
  unfold digOk
  rw [h]
  cases l with
  | nil => rfl
  | cons c r =>
    rw [decide_eq_true (show 1 ≤ (c :: r).length ∧ (c :: r).length ≤ 18 from ⟨by simp, hl⟩)]
    rfl
theorem numC_eq {s : ByteArray} {k b : Nat} (hk : k ≤ s.size) (hb : b ≤ 18) : numV (subL s k (dRun s b k)) = (numC s k b : Int) :=
  numV_digs (run_all hk) (by rw [subL_len (dRun_in s b k hk)]; exact Nat.le_trans (dRun_le s b k) hb)
theorem numC_lt {s : ByteArray} {k b : Nat} (hk : k ≤ s.size) : numC s k b < 10 ^ b :=
  valD_bd _ b (run_all hk) (by rw [subL_len (dRun_in s b k hk)]; exact dRun_le s b k)

def clkC (s : ByteArray) (p : CS) : CS := digitsC s (expectC s (digitsC s (expectC s (digitsC s p 2 2) 58) 2 2) 58) 2 2
def clkH (s : ByteArray) (p : CS) : Nat := numC s p.pos 2
def clkI (s : ByteArray) (p : CS) : Nat := numC s (expectC s (digitsC s p 2 2) 58).pos 2
def clkS (s : ByteArray) (p : CS) : Nat := numC s (expectC s (digitsC s (expectC s (digitsC s p 2 2) 58) 2 2) 58).pos 2
/-- A fraction of a second. -/
def fracB (s : ByteArray) (p : CS) : Bool := !p.bad && (decide (byN s p.pos = 46) || decide (byN s p.pos = 44)) && digB (byN s (p.pos + 1))
def fracC (s : ByteArray) (p : CS) : CS := if fracB s p = true then ⟨p.pos + 1 + dRun s 9 (p.pos + 1), p.bad⟩ else p
def fracV (s : ByteArray) (p : CS) : Nat := if fracB s p = true then valD ((subL s (p.pos + 1) (dRun s 9 (p.pos + 1)) ++ [48, 48]).take 3) else 0
def clockC (s : ByteArray) (p : CS) : CS := fracC s (clkC s p)
def clkM (s : ByteArray) (p : CS) : Nat := fracV s (clkC s p)
/-- A zone. -/
def zon1 (s : ByteArray) (p : CS) : CS := digitsC s p.next 2 2
def zon2 (s : ByteArray) (p : CS) : CS := takeC s (zon1 s p) 58
def zon3 (s : ByteArray) (p : CS) : CS := digitsC s (zon2 s p) 2 2
def zonN (s : ByteArray) (p : CS) : Int := 60 * (numC s p.next.pos 2 : Int) + (numC s (zon2 s p).pos 2 : Int)
def zonB (s : ByteArray) (p : CS) : Bool := (decide (byN s p.pos = 45) || decide (byN s p.pos = 43)) && !(zon3 s p).bad
def zoneC (s : ByteArray) (p : CS) : CS := if byN s p.pos = 90 then p.next else if zonB s p = true then zon3 s p else p
def zoneV (s : ByteArray) (p : CS) (z : Int) : Int := if byN s p.pos = 90 then 0 else if zonB s p = true then (if byN s p.pos = 45 then -(zonN s p) else zonN s p) else z
def yearC (s : ByteArray) (p : CS) : CS := ⟨p.pos + dRun s 4 p.pos, p.bad || decide (dRun s 4 p.pos < 2) || decide (dRun s 4 p.pos = 3)⟩
def yearV (s : ByteArray) (p : CS) : Int :=
  if dRun s 4 p.pos = 4 then (numC s p.pos 4 : Int) else if dRun s 4 p.pos = 3 then 0 else if numC s p.pos 4 < 70 then 2000 + (numC s p.pos 4 : Int) else 1900 + (numC s p.pos 4 : Int)
theorem digitsC_bad {s : ByteArray} {p : CS} {a b : Nat} (h : p.bad = true) : (digitsC s p a b).bad = true := by simp [digitsC, h]
theorem takeC_bad {s : ByteArray} {p : CS} {c : Nat} : (takeC s p c).bad = p.bad := by unfold takeC; split <;> rfl
theorem expectC_bad {s : ByteArray} {p : CS} {c : Nat} (h : p.bad = true) : (expectC s p c).bad = true := by unfold expectC; split <;> simp [CS.next, h]
theorem frac_no {s : ByteArray} {p : CS} (h : fracB s p = false) : fracC s p = p ∧ fracV s p = 0 := by simp [fracC, fracV, h]
theorem frac_yes {s : ByteArray} {p : CS} (h : fracB s p = true) : fracC s p = ⟨p.pos + 1 + dRun s 9 (p.pos + 1), p.bad⟩ ∧ fracV s p = valD ((subL s (p.pos + 1) (dRun s 9 (p.pos + 1)) ++ [48, 48]).take 3) := by simp [fracC, fracV, h]
end Go.Proofs.YtofomlbhbbhdjaaDoor
