/- The reference's Number and begins; bytes as a string. -/
import Derived.Test.YtfihnmfbgdjkpaaFpB
import Derived.Laws.IdiomStrings
import Derived.Deep.QuietTactic
import Derived.BigQuiet
namespace Go.Proofs.Ytfihnmfbgdjkpaa
open Go.RowKit

set_option maxRecDepth 100000 in
set_option maxHeartbeats 4000000 in
theorem rnumber_yes (sv : Value) (l : List UInt8) (k : Nat) (w : World) (h : BySl w sv l) (hk : 1 ≤ k) (hk2 : k ≤ 64) (hl : k ≤ l.length) :
    Calls Try.prog 22 #[sv, .int .i64 (k : Int)] w fun e w' => e = .returned (.tuple #[.int .i64 (numK l k), .bool true]) ∧ w = w' := by
  obtain ⟨a, c, rfl, hc1, hcell⟩ := h
  obtain ⟨g, o, rfl, -, -⟩ := hcell 0 (by omega)
  have hcl : ∀ i (h : i < l.length), w.cell? ⟨g, o + i, none⟩ = some (.int .u8 (l[i].toNat : Int)) := fun i hi => by
    obtain ⟨g2, o2, h1, -, h3⟩ := hcell i hi
    cases h1
    exact h3
  have d1 : decide ((k : Int) < 1) = false := by rw [decide_eq_false_iff_not]; omega
  have d2 : decide ((64 : Int) < (k : Int)) = false := by rw [decide_eq_false_iff_not]; omega
  obtain ⟨n, hn⟩ : ∃ n, l.length = n := ⟨_, rfl⟩
  rw [hn] at hc1 hl ⊢
  have d3 : decide ((n : Int) < (k : Int)) = false := by rw [decide_eq_false_iff_not]; omega
  have d4 : decide (n < k) = false := by rw [decide_eq_false_iff_not]; omega
  have H := Lib.hid (And.intro hn hcl)
  clear hn hcl hcell
  go_enter Try.func22, Try.ntmps22
  go_wp2
  go_loop [6, 7] (fun hv iv => ∃ j : Nat, j ≤ k ∧ iv = .int .i64 j ∧ hv = .int .i64 (numK l j)) (fun _ iv => k - (intOf iv).toNat)
  case atStart => exact ⟨0, Nat.zero_le _, rfl, rfl⟩
  case round =>
    obtain ⟨j, hj, rfl, rfl⟩ := hrel
    obtain ⟨b0, b1⟩ := numK_bd l j
    have hs := show numK l (j + 1) = (numK l j * 257 + ((l[j]?.getD 0).toNat : Int) + 1) % 2147483647 from rfl
    obtain ⟨x, hx⟩ : ∃ x, numK l j = x := ⟨_, rfl⟩
    rw [hx] at b0 b1 hs ⊢
    by_cases hlt : j < k
    · have cj := H.out.2 j (by have := H.out.1; omega)
      have hg : l[j]?.getD 0 = l[j]'(by have := H.out.1; omega) := by rw [List.getElem?_eq_getElem (by have := H.out.1; omega)]; rfl
      rw [hg] at hs
      have hy1 := (l[j]'(by have := H.out.1; omega)).toNat_lt
      obtain ⟨y, hy⟩ : ∃ y, ((l[j]'(by have := H.out.1; omega)).toNat) = y := ⟨_, rfl⟩
      rw [hy] at cj hs hy1
      have y1 : (y : Int) ≤ 255 := by omega
      have y0 : (0 : Int) ≤ (y : Int) := by omega
      have e4 : decide ((j : Int) < (k : Int)) = true := by rw [decide_eq_true_iff]; omega
      have e5 : decide (j < k) = true := decide_eq_true hlt
      have HS := Lib.hid hs
      clear hs hx hy hy1 hg
      go_wp2
      go_round
      case rel => exact ⟨j + 1, by omega, by go_num, by rw [HS.out]⟩
      case measure => simp [intOf]; omega
    · obtain rfl : j = k := by omega
      have e4 : decide ((j : Int) < (j : Int)) = false := by simp
      have e5 : decide (j < j) = false := by simp
      have HX := Lib.hid hx
      clear hlt
      clear hx hs
      go_wp2
      go_ret2
      exact ⟨by rw [HX.out]; rfl, rfl⟩
set_option maxRecDepth 100000 in
theorem rnumber_no (a : Option Addr) (n c : Nat) (k : Int) (w : World) (h : k < 1 ∨ 64 < k ∨ (n : Int) < k) :
    Calls Try.prog 22 #[.slice a n c, .int .i64 k] w fun e w' => e = .returned (.tuple #[.int .i64 0, .bool false]) ∧ w = w' := by
  by_cases h1 : k < 1
  · have d1 : decide (k < 1) = true := decide_eq_true h1
    clear h
    go_enter Try.func22, Try.ntmps22
    go_wp2
    go_ret2
    exact ⟨rfl, rfl⟩
  · have d1 : decide (k < 1) = false := decide_eq_false h1
    by_cases h2 : 64 < k
    · have d2 : decide (64 < k) = true := decide_eq_true h2
      clear h
      go_enter Try.func22, Try.ntmps22
      go_wp2
      go_ret2
      exact ⟨rfl, rfl⟩
    · have d2 : decide (64 < k) = false := decide_eq_false h2
      have h3 : (n : Int) < k := by omega
      have d3 : decide ((n : Int) < k) = true := decide_eq_true h3
      clear h
      go_enter Try.func22, Try.ntmps22
      go_wp2
      go_ret2
      exact ⟨rfl, rfl⟩
/-- Bytes as a string. -/
theorem conv_by {W : World} {v : Value} {l : List UInt8} (h : BySl W v l) : (convert 22 9 v).run Try.prog W = .ok (.string ⟨l.toArray⟩) W := by
  obtain ⟨a, c, rfl, hlc, hx⟩ := h
  cases a with
  | none =>
    by_cases h0 : l.length = 0
    · obtain rfl := List.eq_nil_of_length_eq_zero h0
      exact run_convert_bytes_nil W 22 5 Try.underlying22 Try.underlying5 0 c 9 Try.underlying9
    · obtain ⟨g, o, e, -⟩ := hx 0 (by omega)
      cases e
  | some ad =>
    refine run_convert_bytes_back W 22 9 5 ad c l Try.underlying22 Try.underlying5 Try.underlying9 (fun j hj => ?_)
    obtain ⟨g, o, e, -, hc⟩ := hx j hj
    cases e
    have hadd : (⟨g, o, none⟩ : Addr).add j = ⟨g, o + j, none⟩ := by
      unfold Addr.add
      split
      · rename_i hz; rw [hz]; rfl
      · rfl
    rw [hadd]; exact hc
theorem ext_list (s : List UInt8) (n : Nat) : ((⟨s.toArray⟩ : ByteArray).extract 0 n).toList = s.take n := by
  rw [Lib.toList_data, ByteArray.data_extract]
  simp
theorem begins_eq (s p : List UInt8) : (((⟨s.toArray⟩ : ByteArray).extract 0 p.length).toList == p) = p.isPrefixOf s := by
  rw [ext_list, Bool.eq_iff_iff, List.isPrefixOf_iff_prefix, beq_iff_eq, List.prefix_iff_eq_take]
  exact ⟨fun e => e.symm, fun e => e.symm⟩
theorem begins_no (s p : List UInt8) (h : ¬ p.length ≤ s.length) : p.isPrefixOf s = false := by
  rw [← Bool.not_eq_true, List.isPrefixOf_iff_prefix]
  exact fun e => h e.length_le
theorem BySl.drewN {w : World} {v : Value} {l : List UInt8} (h : BySl w v l) (n : Nat) : BySl (w.drewN n) v l := h
set_option maxRecDepth 100000 in
theorem begins_any (s p : List UInt8) (w : World) : Calls Try.prog 49 #[.string ⟨s.toArray⟩, .string ⟨p.toArray⟩] w fun e w' => e = .returned (.bool (p.isPrefixOf s)) ∧ w' = w := by
  have hs : (⟨s.toArray⟩ : ByteArray).size = s.length := rfl
  have hp : (⟨p.toArray⟩ : ByteArray).size = p.length := rfl
  by_cases h : p.length ≤ s.length
  · have d1 : decide ((p.length : Int) ≤ (s.length : Int)) = true := by rw [decide_eq_true_iff]; omega
    have d2 : decide (p.length ≤ s.length) = true := decide_eq_true h
    go_enter Try.func49, Try.ntmps49
    go_wp2
    go_ret
    exact ⟨congrArg (fun b => Ending.returned (.bool b)) (begins_eq s p), rfl⟩
  · have d1 : decide ((p.length : Int) ≤ (s.length : Int)) = false := by rw [decide_eq_false_iff_not]; omega
    have d2 : decide (p.length ≤ s.length) = false := decide_eq_false h
    go_enter Try.func49, Try.ntmps49
    go_wp2
    go_ret
    exact ⟨congrArg (fun b => Ending.returned (.bool b)) (begins_no s p h).symm, rfl⟩
end Go.Proofs.Ytfihnmfbgdjkpaa
