/- The contract of strings.Repeat of the string "0", at most four times. -/
import Derived.Test.YtofomlbhbbhdjaaDoorShelf
import Derived.Test.YtofomlbhbbhdjaaDoorCalA
namespace Go.Proofs.YtofomlbhbbhdjaaDoor
open Go.RowKit

theorem mul_small (k : Nat) (hk : k < 100) (W : World) :
    Calls Tryd.prog 87 #[.int .u64 1, .int .u64 (k : Int)] W fun e w' => e = .returned (.tuple #[.int .u64 0, .int .u64 (k : Int)]) ∧ W = w' :=
  (Tryd.bits_Mul 1 k (by decide) (by omega) W).mono fun e w' ⟨he, hw⟩ => ⟨by
    rw [he, show 1 * k / 18446744073709551616 = 0 by omega, show 1 * k % 18446744073709551616 = k by omega]; rfl, hw.symm⟩
theorem pre_no (s p : ByteArray) (h : Lib.hasPrefix s.data.toList p.data.toList = false) (W : World) :
    Calls Tryd.prog 88 #[.string s, .string p] W fun e w' => e = .returned (.bool false) ∧ W = w' :=
  (Tryd.strings_HasPrefix s p W).mono fun e w' ⟨he, hw⟩ => ⟨by rw [he, h], hw.symm⟩
theorem pre_yes (s p : ByteArray) (h : Lib.hasPrefix s.data.toList p.data.toList = true) (W : World) :
    Calls Tryd.prog 88 #[.string s, .string p] W fun e w' => e = .returned (.bool true) ∧ W = w' :=
  (Tryd.strings_HasPrefix s p W).mono fun e w' ⟨he, hw⟩ => ⟨by rw [he, h], hw.symm⟩

set_option maxRecDepth 100000 in
set_option maxHeartbeats 2000000 in
theorem repeat_zero0 (w : World) :
    Calls Tryd.prog 66 #[.string ⟨#[48]⟩, .int .i64 0] w fun e w' => e = .returned (.string ⟨#[]⟩) ∧ w = w' := by
  go_enter Tryd.func66, Tryd.ntmps66
  go_wp2
  go_ret
  exact ⟨rfl, rfl⟩
set_option maxRecDepth 100000 in
set_option maxHeartbeats 2000000 in
theorem repeat_zero1 (w : World) :
    Calls Tryd.prog 66 #[.string ⟨#[48]⟩, .int .i64 1] w fun e w' => e = .returned (.string ⟨#[48]⟩) ∧ w = w' := by
  go_enter Tryd.func66, Tryd.ntmps66
  go_wp2
  go_ret
  exact ⟨rfl, rfl⟩
set_option maxRecDepth 100000 in
set_option maxHeartbeats 2000000 in
theorem repeat_zero2 (w : World) :
    Calls Tryd.prog 66 #[.string ⟨#[48]⟩, .int .i64 2] w fun e w' => e = .returned (.string ⟨#[48, 48]⟩) ∧ w = w' := by
  have hm := Lib.hid (mul_small 2 (by decide) w)
  go_enter Tryd.func66, Tryd.ntmps66
  go_wp2_with fail
  refine (hm.out).mono ?_
  rintro e w' ⟨rfl, rfl⟩
  go_wp2_with fail
  refine (pre_no _ _ (by decide +kernel) _).mono ?_
  rintro e w' ⟨rfl, rfl⟩
  go_wp2_with fail
  refine (pre_no _ _ (by decide +kernel) _).mono ?_
  rintro e w' ⟨rfl, rfl⟩
  go_wp2_with fail
  refine (pre_yes _ _ (by decide +kernel) _).mono ?_
  rintro e w' ⟨rfl, rfl⟩
  go_wp2
  go_ret
  exact ⟨by kernel_rfl, rfl⟩
set_option maxRecDepth 100000 in
set_option maxHeartbeats 2000000 in
theorem repeat_zero3 (w : World) :
    Calls Tryd.prog 66 #[.string ⟨#[48]⟩, .int .i64 3] w fun e w' => e = .returned (.string ⟨#[48, 48, 48]⟩) ∧ w = w' := by
  have hm := Lib.hid (mul_small 3 (by decide) w)
  go_enter Tryd.func66, Tryd.ntmps66
  go_wp2_with fail
  refine (hm.out).mono ?_
  rintro e w' ⟨rfl, rfl⟩
  go_wp2_with fail
  refine (pre_no _ _ (by decide +kernel) _).mono ?_
  rintro e w' ⟨rfl, rfl⟩
  go_wp2_with fail
  refine (pre_no _ _ (by decide +kernel) _).mono ?_
  rintro e w' ⟨rfl, rfl⟩
  go_wp2_with fail
  refine (pre_yes _ _ (by decide +kernel) _).mono ?_
  rintro e w' ⟨rfl, rfl⟩
  go_wp2
  go_ret
  exact ⟨by kernel_rfl, rfl⟩
theorem repeat_zero (k : Nat) (hk : k ≤ 3) (w : World) :
    Calls Tryd.prog 66 #[.string ⟨#[48]⟩, .int .i64 (k : Int)] w fun e w' => e = .returned (.string ⟨(List.replicate k 48).toArray⟩) ∧ w = w' := by
  have h : k = 0 ∨ k = 1 ∨ k = 2 ∨ k = 3 := by omega
  rcases h with rfl | rfl | rfl | rfl
  · exact repeat_zero0 w
  · exact repeat_zero1 w
  · exact repeat_zero2 w
  · exact repeat_zero3 w
end Go.Proofs.YtofomlbhbbhdjaaDoor
