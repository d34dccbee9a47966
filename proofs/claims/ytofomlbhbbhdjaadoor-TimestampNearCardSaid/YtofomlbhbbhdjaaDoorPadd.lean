/- The contract of package calendar's padded. -/
import Derived.Test.YtofomlbhbbhdjaaDoorRept
import Derived.Test.YtofomlbhbbhdjaaDoorDecimal
namespace Go.Proofs.YtofomlbhbbhdjaaDoor
open Go.RowKit

/-- A number with at least n digits. -/
def padL (v n : Nat) : List UInt8 := List.replicate (n - (Lib.decDigits v).length) 48 ++ Lib.decDigits v
theorem pow_below {w W : World} (h : Pow10 w) (hb : Below w.heap.size w W) : Pow10 W := (Lib.tabBelow_of_tabIs h) W hb
theorem str_two (a b : List UInt8) : (ByteArray.mk a.toArray) ++ (ByteArray.mk b.toArray) = ⟨(a ++ b).toArray⟩ := by
  apply bextD
  simp [ByteArray.data_append]
theorem rt_str {a b : ByteArray} (h : a = b) : Ending.returned (.string a) = .returned (.string b) := by rw [h]

set_option maxRecDepth 100000 in
set_option maxHeartbeats 2000000 in
theorem padded_any (v n : Nat) (hv : v ≤ 9999) (hn : 1 ≤ n) (hn4 : n ≤ 4) (w : World) (hP : Pow10 w) :
    Calls Tryd.prog 40 #[.int .i64 v, .int .i64 n] w fun e w' => e = .returned (.string ⟨(padL v n).toArray⟩) ∧ Below w.heap.size w w' := by
  have hd := decimal_any v (by omega) (by omega) w hP
  rw [show Lib.itoa (v : Int) = Lib.decDigits v by unfold Lib.itoa; rw [if_neg (by omega)]; simp] at hd
  have hl := digits_len 3 v (by omega)
  have hl1 : 1 ≤ (Lib.decDigits v).length := by rw [Lib.decDigits_length]; exact Lib.nDigits_pos v
  have hp : Hid (padL v n = List.replicate (n - (Lib.decDigits v).length) 48 ++ Lib.decDigits v) := rfl
  obtain ⟨L, hL⟩ : ∃ L, Lib.decDigits v = L := ⟨_, rfl⟩
  obtain ⟨P, hPP⟩ : ∃ P, padL v n = P := ⟨_, rfl⟩
  rw [hPP, hL] at hp
  rw [hL] at hd hl hl1
  rw [hPP]
  have hr := Lib.hid (fun W => repeat_zero (n - L.length) (by omega) W)
  have HD := Lib.hid hd
  have hs : (ByteArray.mk L.toArray).size = L.length := by simp [ByteArray.size]
  clear hL hPP hd
  have e1 : max ((n : Int) - (L.length : Int)) 0 = ((n - L.length : Nat) : Int) := by omega
  have hb1 : ((List.replicate (n - L.length) (48 : UInt8)).toArray.size : Int) + (L.length : Int) ≤ 100 := by simp; omega
  go_enter Tryd.func40, Tryd.ntmps40
  go_wp2_with fail
  refine (HD.out).mono ?_
  rintro e w' ⟨rfl, hb⟩
  go_wp2_with fail
  refine (hr.out _).mono ?_
  rintro e w2 ⟨rfl, rfl⟩
  go_wp2
  go_ret
  exact ⟨rt_str (by rw [hp.out]; exact str_two _ _), hb⟩
end Go.Proofs.YtofomlbhbbhdjaaDoor
