/- AsciiClasses: the law returns true for every byte. -/
import Derived.Test.YtkopibaoolaelaaDoorAwake
import Derived.LoopTactic
namespace Go.Proofs.YtkopibaoolaelaaDoor
open Go.RowKit

set_option maxRecDepth 100000 in
set_option maxHeartbeats 1000000 in
theorem lawClasses (c : Nat) (w : World) (hT : Tabs w) :
    Calls Tryd.prog 3 #[.int .u8 c] w fun e w' => e = .returned (.bool true) ∧ Below w.heap.size w w' := by
  have HT := Lib.hid hT
  clear hT
  go_enter Tryd.func3, Tryd.ntmps3
  go_wp2_with (go_at_call 9; refine (awake_any w HT.out).mono ?_; rintro e w1 ⟨rfl, hb1⟩)
  go_loopw [3] (fun i wr => ∃ k : Nat, k ≤ 256 ∧ i = .int .i64 k ∧ Below w.heap.size w wr) (fun i _ => 256 - (intOf i).toNat)
  case atStart => exact ⟨0, by omega, rfl, hb1⟩
  case round =>
    obtain ⟨k, hk, rfl, hbr⟩ := hrel
    by_cases hlt : k < 256
    · go_wp2_with fail
      obtain ⟨m, hm, hme⟩ : ∃ m : Nat, m < 256 ∧ ((k : Int) + c) % 256 = m := ⟨(k + c) % 256, by omega, by omega⟩
      rw [hme]
      clear hme
      go_wp2_with (first
        | (go_at_call 10; refine (digit_any m hm _).mono ?_; rintro e w' ⟨rfl, hbd⟩)
        | (go_at_call 11; refine (rdigit_any m _).mono ?_; rintro e w' ⟨rfl, rfl⟩)
        | (go_at_call 12; refine (letter_any m hm _).mono ?_; rintro e w' ⟨rfl, hbl⟩)
        | (go_at_call 13; refine (rletter_any m _).mono ?_; rintro e w' ⟨rfl, rfl⟩)
        | (go_at_call 14; refine (word_any m hm _).mono ?_; rintro e w' ⟨rfl, hbw⟩)
        | (go_at_call 15; refine (rword_any m _).mono ?_; rintro e w' ⟨rfl, rfl⟩)
        | (go_at_call 16; refine (space_any m hm _).mono ?_; rintro e w' ⟨rfl, hbs⟩)
        | (go_at_call 17; refine (rspace_any m _).mono ?_; rintro e w' ⟨rfl, rfl⟩))
      go_roundw
      case rel => exact ⟨k + 1, by omega, by simp, bstep (bstep (bstep (bstep hbr hbd) hbl) hbw) hbs⟩
      case measure => simp [intOf]; omega
    · go_wp2
      go_ret
      exact ⟨rfl, hbr⟩
end Go.Proofs.YtkopibaoolaelaaDoor
