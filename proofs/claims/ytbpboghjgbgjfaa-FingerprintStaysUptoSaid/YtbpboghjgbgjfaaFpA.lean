/- The number of a file: package fingerprint's Number. -/
import Derived.Test.YtbpboghjgbgjfaaBys
namespace Go.Proofs.Ytbpboghjgbgjfaa
open Go.RowKit

def numK (l : List UInt8) : Nat → Int
  | 0 => 0
  | k + 1 => (numK l k * 257 + ((l[k]?.getD 0).toNat : Int) + 1) % 2147483647
theorem numK_bd (l : List UInt8) : ∀ k, 0 ≤ numK l k ∧ numK l k < 2147483647
  | 0 => ⟨Int.le_refl _, by show (0 : Int) < 2147483647; decide⟩
  | k + 1 => ⟨Int.emod_nonneg _ (by decide), Int.emod_lt_of_pos _ (by decide)⟩
theorem numK_take (l m : List UInt8) : ∀ k, (∀ i, i < k → l[i]? = m[i]?) → numK l k = numK m k
  | 0, _ => rfl
  | k + 1, h => by
    show (numK l k * 257 + ((l[k]?.getD 0).toNat : Int) + 1) % 2147483647 = _
    rw [numK_take l m k (fun i hi => h i (by omega)), h k (by omega)]
    rfl
set_option maxRecDepth 100000 in
set_option maxHeartbeats 4000000 in
theorem number_yes (sv : Value) (l : List UInt8) (k : Nat) (w : World) (h : BySl w sv l) (hk : 1 ≤ k) (hk2 : k ≤ 64) (hl : k ≤ l.length) :
    Calls Try.prog 7 #[sv, .int .i64 (k : Int)] w fun e w' => e = .returned (.tuple #[.int .i64 (numK l k), .bool true]) ∧ w = w' := by
  obtain ⟨a, c, rfl, hc1, hcell⟩ := h
  obtain ⟨g, o, rfl, -, -⟩ := hcell 0 (by omega)
  have hcl : ∀ i (h : i < l.length), w.cell? ⟨g, o + i, none⟩ = some (.int .u8 (l[i].toNat : Int)) := fun i hi => by
    obtain ⟨g2, o2, h1, -, h3⟩ := hcell i hi
    cases h1
    exact h3
  have d1 : decide ((k : Int) < 1) = false := by rw [decide_eq_false_iff_not]; omega
  have d2 : decide ((64 : Int) < (k : Int)) = false := by rw [decide_eq_false_iff_not]; omega
  obtain ⟨n, hn⟩ : ∃ n, l.length = n := ⟨_, rfl⟩
  rw [hn] at hc1 hl ⊢
  have d3 : decide ((n : Int) < (k : Int)) = false := by rw [decide_eq_false_iff_not]; omega
  have d4 : decide (n < k) = false := by rw [decide_eq_false_iff_not]; omega
  have H := Lib.hid (And.intro hn hcl)
  clear hn hcl hcell
  go_enter Try.func7, Try.ntmps7
  go_wp2
  go_loop [6, 25] (fun hv iv => ∃ j : Nat, j ≤ k ∧ iv = .int .i64 j ∧ hv = .int .i64 (numK l j)) (fun _ iv => k - (intOf iv).toNat)
  case atStart => exact ⟨0, Nat.zero_le _, rfl, rfl⟩
  case round =>
    obtain ⟨j, hj, rfl, rfl⟩ := hrel
    obtain ⟨b0, b1⟩ := numK_bd l j
    have hs := show numK l (j + 1) = (numK l j * 257 + ((l[j]?.getD 0).toNat : Int) + 1) % 2147483647 from rfl
    obtain ⟨x, hx⟩ : ∃ x, numK l j = x := ⟨_, rfl⟩
    rw [hx] at b0 b1 hs ⊢
    by_cases hlt : j < k
    · have cj := H.out.2 j (by have := H.out.1; omega)
      have hg : l[j]?.getD 0 = l[j]'(by have := H.out.1; omega) := by rw [List.getElem?_eq_getElem (by have := H.out.1; omega)]; rfl
      rw [hg] at hs
      have hy1 := (l[j]'(by have := H.out.1; omega)).toNat_lt
      obtain ⟨y, hy⟩ : ∃ y, ((l[j]'(by have := H.out.1; omega)).toNat) = y := ⟨_, rfl⟩
      rw [hy] at cj hs hy1
      have y1 : (y : Int) ≤ 255 := by omega
      have y0 : (0 : Int) ≤ (y : Int) := by omega
      have e4 : decide ((j : Int) < (k : Int)) = true := by rw [decide_eq_true_iff]; omega
      have e5 : decide (j < k) = true := decide_eq_true hlt
      have HS := Lib.hid hs
      clear hs hx hy hy1 hg
      go_wp2
      go_round
      case rel => exact ⟨j + 1, by omega, by go_num, by rw [HS.out]⟩
      case measure => simp [intOf]; omega
    · obtain rfl : j = k := by omega
      have e4 : decide ((j : Int) < (j : Int)) = false := by simp
      have e5 : decide (j < j) = false := by simp
      clear hlt
      have HX := Lib.hid hx
      clear hx hs
      go_wp2
      go_ret2
      exact ⟨by rw [HX.out]; rfl, rfl⟩
set_option maxRecDepth 100000 in
theorem number_no (a : Option Addr) (n c : Nat) (k : Int) (w : World) (h : k < 1 ∨ 64 < k ∨ (n : Int) < k) :
    Calls Try.prog 7 #[.slice a n c, .int .i64 k] w fun e w' => e = .returned (.tuple #[.int .i64 0, .bool false]) ∧ w = w' := by
  by_cases h1 : k < 1
  · have d1 : decide (k < 1) = true := decide_eq_true h1
    clear h
    go_enter Try.func7, Try.ntmps7
    go_wp2
    go_ret2
    exact ⟨rfl, rfl⟩
  · have d1 : decide (k < 1) = false := decide_eq_false h1
    by_cases h2 : 64 < k
    · have d2 : decide (64 < k) = true := decide_eq_true h2
      clear h
      go_enter Try.func7, Try.ntmps7
      go_wp2
      go_ret2
      exact ⟨rfl, rfl⟩
    · have d2 : decide (64 < k) = false := decide_eq_false h2
      have h3 : (n : Int) < k := by omega
      have d3 : decide ((n : Int) < k) = true := decide_eq_true h3
      clear h
      go_enter Try.func7, Try.ntmps7
      go_wp2
      go_ret2
      exact ⟨rfl, rfl⟩
end Go.Proofs.Ytbpboghjgbgjfaa
