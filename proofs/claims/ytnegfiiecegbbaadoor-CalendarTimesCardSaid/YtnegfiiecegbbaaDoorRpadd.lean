/- The contract of the reference's padded. -/
import Derived.Test.YtnegfiiecegbbaaDoorPadd
namespace Go.Proofs.YtnegfiiecegbbaaDoor
open Go.RowKit

def lenOf : Value → Nat
  | .string s => s.size
  | _ => 0
theorem sizeOf_list (l : List UInt8) : (ByteArray.mk l.toArray).size = l.length := by simp [ByteArray.size]
theorem zero_str (j : Nat) (L : List UInt8) : (ByteArray.mk #[48]) ++ (ByteArray.mk (List.replicate j 48 ++ L).toArray) = ⟨(List.replicate (j + 1) 48 ++ L).toArray⟩ := by
  have := str_two [48] (List.replicate j 48 ++ L)
  rw [show (ByteArray.mk #[48]) = ⟨[48].toArray⟩ from rfl, this, List.replicate_succ]; rfl

set_option maxRecDepth 100000 in
set_option maxHeartbeats 2000000 in
theorem rpadded_any (v n : Nat) (hv : v ≤ 9999) (hn4 : n ≤ 4) (w : World) :
    Calls Tryd.prog 31 #[.int .i64 v, .int .i64 n] w fun e w' => e = .returned (.string ⟨(padL v n).toArray⟩) ∧ Below w.heap.size w w' := by
  have hd := rdec_pos v (by omega) w
  have hl := digits_len 3 v (by omega)
  have hp : Hid (padL v n = List.replicate (n - (Lib.decDigits v).length) 48 ++ Lib.decDigits v) := rfl
  obtain ⟨L, hL⟩ : ∃ L, Lib.decDigits v = L := ⟨_, rfl⟩
  obtain ⟨P, hPP⟩ : ∃ P, padL v n = P := ⟨_, rfl⟩
  rw [hPP, hL] at hp
  rw [hL] at hd hl
  rw [hPP]
  have HD := Lib.hid hd
  clear hL hPP hd
  go_enter Tryd.func31, Tryd.ntmps31
  go_wp2_with fail
  refine (HD.out).mono ?_
  rintro e w' ⟨rfl, hb⟩
  have HB := Lib.hid hb
  clear hb
  go_wp2_with fail
  go_loop [5] (fun t => ∃ j : Nat, j ≤ n - L.length ∧ t = .string ⟨(List.replicate j 48 ++ L).toArray⟩) (fun t => n - lenOf t)
  case atStart => exact ⟨0, by omega, by simp⟩
  case round =>
    obtain ⟨j, hj, rfl⟩ := hrel
    have hs : (ByteArray.mk (List.replicate j 48 ++ L).toArray).size = j + L.length := by rw [sizeOf_list]; simp
    have hz := zero_str j L
    have HS := Lib.hid hs
    have hlen : lenOf (.string ⟨(List.replicate j 48 ++ L).toArray⟩) = j + L.length := hs
    have hlen2 : lenOf (.string ⟨(List.replicate (j + 1) 48 ++ L).toArray⟩) = j + 1 + L.length := by show ByteArray.size _ = _; rw [sizeOf_list, List.length_append, List.length_replicate]
    obtain ⟨S, hS⟩ : ∃ S, ByteArray.mk (List.replicate j 48 ++ L).toArray = S := ⟨_, rfl⟩
    obtain ⟨S2, hS2⟩ : ∃ S, ByteArray.mk (List.replicate (j + 1) 48 ++ L).toArray = S := ⟨_, rfl⟩
    rw [hS] at hs hz hlen ⊢
    rw [hS2] at hz hlen2
    have HL := Lib.hid (And.intro hlen hlen2)
    have HX := Lib.hid (And.intro hS hS2)
    clear hlen hlen2 hS hS2 HS
    by_cases hlt : j + L.length < n
    · have g : ¬ 9223372036854775807 < 1 + (j + L.length) := by omega
      go_wp2
      go_round
      case rel => exact ⟨j + 1, by omega, by rw [HX.out.2]⟩
      case measure => rw [HL.out.1, HL.out.2]; omega
    · have hjn : j = n - L.length := by omega
      have HJ := Lib.hid hjn
      clear hjn hz
      go_wp2
      go_ret
      exact ⟨rt_str (by rw [hp.out, ← HJ.out, HX.out.1]), HB.out⟩
end Go.Proofs.YtnegfiiecegbbaaDoor
