/- The contracts of the reference's Digits and Number. -/
import Derived.Test.YtkopibaoolaelaaDoorNumber
import Derived.Deep.QuietTactic
import Derived.BigQuiet
import Derived.Lib.IndexBytes
import Derived.Lib.Strings
namespace Go.Proofs.YtkopibaoolaelaaDoor
open Go.RowKit

set_option maxRecDepth 100000 in
set_option maxHeartbeats 1000000 in
theorem digits_any (D : ByteArray) (w : World) :
    Calls Tryd.prog 44 #[.string D, .int .i64 18] w fun e w' => e = .returned (.tuple #[.int .i64 (if digOk D.data.toList then (valD D.data.toList : Int) else 0), .bool (digOk D.data.toList)]) ∧ w = w' := by
  obtain ⟨V, hV⟩ : ∃ V : Int, (if digOk D.data.toList then (valD D.data.toList : Int) else 0) = V := ⟨_, rfl⟩
  obtain ⟨B, hB⟩ : ∃ B : Bool, digOk D.data.toList = B := ⟨_, rfl⟩
  rw [hV, hB]
  have HV := Lib.hid hV
  have HB := Lib.hid hB
  clear hV hB
  by_cases h1 : 1 ≤ D.size ∧ D.size ≤ 18
  · go_enter Tryd.func44, Tryd.ntmps44
    go_wp2
    go_loop [6, 7] (fun v i => ∃ k : Nat, k ≤ D.size ∧ i = .int .i64 k ∧ v = .int .i64 (valD (D.data.toList.take k)) ∧ allD (D.data.toList.take k) = true) (fun _ i => D.size - (intOf i).toNat)
    case atStart => exact ⟨0, by omega, rfl, rfl, rfl⟩
    case round =>
      obtain ⟨k, hk, rfl, rfl, had⟩ := hrel
      by_cases hlt : k < D.size
      · have hv := valD_bd (D.data.toList.take k) 17 had (by simp; omega)
        have hclt := UInt8.toNat_lt D[k]
        by_cases hdg : digB D[k].toNat = true
        · have h48 : 48 ≤ D[k].toNat ∧ D[k].toNat ≤ 57 := by simpa [digB] using hdg
          have hsn : valD (D.data.toList.take (k + 1)) = 10 * valD (D.data.toList.take k) + (D[k].toNat - 48) := by rw [take_snocB D k hlt, valD_snoc]
          have hal : allD (D.data.toList.take (k + 1)) = true := by rw [take_snocB D k hlt, allD_snoc, had, hdg]; rfl
          have HSN := Lib.hid hsn
          have HAL := Lib.hid hal
          clear hsn hal
          go_wp2_with (go_at_call 11; refine (rdigit_any _ _).mono ?_; rintro e w' ⟨rfl, rfl⟩)
          go_round
          case rel => exact ⟨k + 1, by omega, by simp, by rw [HSN.out]; congr 1; omega, HAL.out⟩
          case measure => simp [intOf]; omega
        · have hdf : digB D[k].toNat = false := by simpa using hdg
          have hok : digOk D.data.toList = false := by unfold digOk; rw [allD_falseB D k hlt hdf, Bool.and_false]
          have HOK := Lib.hid hok
          clear hok hdg
          go_wp2_with (go_at_call 11; refine (rdigit_any _ _).mono ?_; rintro e w' ⟨rfl, rfl⟩)
          go_ret2
          exact ⟨ret_ib (by rw [← HV.out, HOK.out]; rfl) (by rw [← HB.out, HOK.out]), rfl⟩
      · obtain rfl : k = D.size := by omega
        have htk : D.data.toList.take D.size = D.data.toList := by rw [← sizeB, List.take_length]
        rw [htk] at had ⊢
        have hok : digOk D.data.toList = true := by unfold digOk; rw [had, sizeB]; simp; omega
        have HOK := Lib.hid hok
        clear hok
        go_wp2
        go_ret2
        exact ⟨ret_ib (by rw [← HV.out, HOK.out]; rfl) (by rw [← HB.out, HOK.out]), rfl⟩
  · have hok : digOk D.data.toList = false := by unfold digOk; rw [sizeB]; simp; omega
    have HOK := Lib.hid hok
    clear hok
    by_cases h2 : D.size < 1
    all_goals
      go_enter Tryd.func44, Tryd.ntmps44
      go_wp2
      all_goals
        go_ret2
        exact ⟨ret_ib (by rw [← HV.out, HOK.out]; rfl) (by rw [← HB.out, HOK.out]), rfl⟩

theorem digits_neg (s : ByteArray) : (s.extract 1 s.size).data.toList = s.data.toList.tail := by
  rw [Lib.extract_to_end, List.drop_one]
theorem isNeg_at (s : ByteArray) (h0 : 0 < s.size) : isNeg s.data.toList = ((s[0].toNat : Int) == 45) := by
  have e : s.data.toList.head? = some s[0] := by
    rw [List.head?_eq_getElem?, List.getElem?_eq_getElem (by rw [sizeB]; exact h0)]; rfl
  unfold isNeg
  rw [e, Bool.eq_iff_iff]
  simp [← UInt8.toNat_inj]
  omega

set_option maxRecDepth 100000 in
set_option maxHeartbeats 1000000 in
theorem rnumber_any (s : ByteArray) (w : World) :
    Calls Tryd.prog 30 #[.string s] w fun e w' => e = .returned (.tuple #[.int .i64 (numV s.data.toList), .bool (numB s.data.toList)]) ∧ w = w' := by
  by_cases h0 : 0 < s.size
  · have hne : s.toList ≠ [] := by
      rw [Lib.toList_data]
      intro e
      have := sizeB s
      rw [e] at this
      simp at this
      omega
    have hem : (!s.toList.isEmpty) = true := by simpa using hne
    have hem2 : (s.toList = []) = False := eq_false hne
    clear hne
    have hng := isNeg_at s h0
    by_cases h45 : ((s[0].toNat : Int) == 45) = true
    · rw [h45] at hng
      have hd := digits_any (s.extract 1 s.size) w
      rw [digits_neg s] at hd
      have e1 : numB s.data.toList = digOk s.data.toList.tail := by unfold numB digPart; rw [hng]; rfl
      have e2 : numV s.data.toList = -(if digOk s.data.toList.tail then (valD s.data.toList.tail : Int) else 0) := by
        unfold numV; rw [e1, hng]; unfold digPart; rw [hng]; simp only [if_true]; split <;> simp
      obtain ⟨V, hV⟩ : ∃ V : Int, (if digOk s.data.toList.tail then (valD s.data.toList.tail : Int) else 0) = V := ⟨_, rfl⟩
      obtain ⟨B, hB⟩ : ∃ B : Bool, digOk s.data.toList.tail = B := ⟨_, rfl⟩
      have hVb : -1000000000000000000 < -V ∧ -V ≤ 0 := by
        rw [← hV]
        split
        · rename_i hok
          have hok' : digOk s.data.toList.tail = true := hok
          simp only [digOk, Bool.and_eq_true, decide_eq_true_eq] at hok'
          have := valD_bd _ 18 hok'.2 hok'.1.2
          omega
        · omega
      rw [hV, hB] at hd
      rw [hV] at e2
      rw [hB] at e1
      have HD := Lib.hid hd
      have E1 := Lib.hid e1
      have E2 := Lib.hid e2
      clear hd e1 e2 hV hB hng
      go_enter Tryd.func30, Tryd.ntmps30
      go_wp2_with (go_at_call 44; refine (HD.out).mono ?_; rintro e w' ⟨rfl, rfl⟩)
      go_ret2
      exact ⟨ret_ib (by rw [E2.out]) (by rw [E1.out]), rfl⟩
    · rw [Bool.not_eq_true] at h45
      rw [h45] at hng
      have hd := digits_any s w
      have e1 : numB s.data.toList = digOk s.data.toList := by unfold numB digPart; rw [hng]; rfl
      have e2 : numV s.data.toList = if digOk s.data.toList then (valD s.data.toList : Int) else 0 := by
        unfold numV; rw [e1, hng]; unfold digPart; rw [hng]; rfl
      rw [← e2, ← e1] at hd
      have HD := Lib.hid hd
      clear hd e1 e2 hng
      go_enter Tryd.func30, Tryd.ntmps30
      go_wp2_with (go_at_call 44; refine (HD.out).mono ?_; rintro e w' ⟨rfl, rfl⟩)
      go_ret2
      exact ⟨rfl, rfl⟩
  · obtain rfl : s = ⟨#[]⟩ := by
      cases s with
      | mk a =>
        have e : a.size = (ByteArray.mk a).size := rfl
        have e2 : a = #[] := Array.eq_empty_of_size_eq_zero (by omega)
        rw [e2]
    have hd := digits_any ⟨#[]⟩ w
    have HD := Lib.hid hd
    clear hd
    go_enter Tryd.func30, Tryd.ntmps30
    go_wp2_with (go_at_call 44; refine (HD.out).mono ?_; rintro e w' ⟨rfl, rfl⟩)
    go_ret2
    exact ⟨rfl, rfl⟩
end Go.Proofs.YtkopibaoolaelaaDoor
