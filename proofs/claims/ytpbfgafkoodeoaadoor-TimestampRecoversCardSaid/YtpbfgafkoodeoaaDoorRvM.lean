/- The contracts of the reference's Digits and Number. The contract of the reference's form 4. -/
import Derived.Test.YtpbfgafkoodeoaaDoorRvA
import Derived.Deep.QuietTactic
import Derived.BigQuiet
import Derived.Lib.IndexBytes
import Derived.Lib.Strings
import Derived.Test.YtpbfgafkoodeoaaDoorRvK
namespace Go.Proofs.YtpbfgafkoodeoaaDoor
open Go.RowKit

set_option maxRecDepth 100000 in
set_option maxHeartbeats 1000000 in
theorem rdigs_any (D : ByteArray) (w : World) :
    Calls Tryd.prog 67 #[.string D, .int .i64 18] w fun e w' => e = .returned (.tuple #[.int .i64 (if digOk D.data.toList then (valD D.data.toList : Int) else 0), .bool (digOk D.data.toList)]) ∧ w = w' := by
  obtain ⟨V, hV⟩ : ∃ V : Int, (if digOk D.data.toList then (valD D.data.toList : Int) else 0) = V := ⟨_, rfl⟩
  obtain ⟨B, hB⟩ : ∃ B : Bool, digOk D.data.toList = B := ⟨_, rfl⟩
  rw [hV, hB]
  have HV := Lib.hid hV
  have HB := Lib.hid hB
  clear hV hB
  by_cases h1 : 1 ≤ D.size ∧ D.size ≤ 18
  · go_enter Tryd.func67, Tryd.ntmps67
    go_wp2
    go_loop [6, 7] (fun v i => ∃ k : Nat, k ≤ D.size ∧ i = .int .i64 k ∧ v = .int .i64 (valD (D.data.toList.take k)) ∧ allD (D.data.toList.take k) = true) (fun _ i => D.size - (intOf i).toNat)
    case atStart => exact ⟨0, by omega, rfl, rfl, rfl⟩
    case round =>
      obtain ⟨k, hk, rfl, rfl, had⟩ := hrel
      by_cases hlt : k < D.size
      · have hv := valD_bd (D.data.toList.take k) 17 had (by simp; omega)
        have hclt := UInt8.toNat_lt D[k]
        by_cases hdg : digB D[k].toNat = true
        · have h48 : 48 ≤ D[k].toNat ∧ D[k].toNat ≤ 57 := by simpa [digB] using hdg
          have hsn : valD (D.data.toList.take (k + 1)) = 10 * valD (D.data.toList.take k) + (D[k].toNat - 48) := by rw [take_snocB D k hlt, valD_snoc]
          have hal : allD (D.data.toList.take (k + 1)) = true := by rw [take_snocB D k hlt, allD_snoc, had, hdg]; rfl
          have HSN := Lib.hid hsn
          have HAL := Lib.hid hal
          clear hsn hal
          go_wp2_with (go_at_call 45; refine (rdigit_any _ _).mono ?_; rintro e w' ⟨rfl, rfl⟩)
          go_round
          case rel => exact ⟨k + 1, by omega, by simp, by rw [HSN.out]; congr 1; omega, HAL.out⟩
          case measure => simp [intOf]; omega
        · have hdf : digB D[k].toNat = false := by simpa using hdg
          have hok : digOk D.data.toList = false := by unfold digOk; rw [allD_falseB D k hlt hdf, Bool.and_false]
          have HOK := Lib.hid hok
          clear hok hdg
          go_wp2_with (go_at_call 45; refine (rdigit_any _ _).mono ?_; rintro e w' ⟨rfl, rfl⟩)
          go_ret2
          exact ⟨ret_ib (by rw [← HV.out, HOK.out]; rfl) (by rw [← HB.out, HOK.out]), rfl⟩
      · obtain rfl : k = D.size := by omega
        have htk : D.data.toList.take D.size = D.data.toList := by rw [← sizeB, List.take_length]
        rw [htk] at had ⊢
        have hok : digOk D.data.toList = true := by unfold digOk; rw [had, sizeB]; simp; omega
        have HOK := Lib.hid hok
        clear hok
        go_wp2
        go_ret2
        exact ⟨ret_ib (by rw [← HV.out, HOK.out]; rfl) (by rw [← HB.out, HOK.out]), rfl⟩
  · have hok : digOk D.data.toList = false := by unfold digOk; rw [sizeB]; simp; omega
    have HOK := Lib.hid hok
    clear hok
    by_cases h2 : D.size < 1
    all_goals
      go_enter Tryd.func67, Tryd.ntmps67
      go_wp2
      all_goals
        go_ret2
        exact ⟨ret_ib (by rw [← HV.out, HOK.out]; rfl) (by rw [← HB.out, HOK.out]), rfl⟩

theorem digits_neg (s : ByteArray) : (s.extract 1 s.size).data.toList = s.data.toList.tail := by
  rw [Lib.extract_to_end, List.drop_one]
theorem isNeg_at (s : ByteArray) (h0 : 0 < s.size) : isNeg s.data.toList = ((s[0].toNat : Int) == 45) := by
  have e : s.data.toList.head? = some s[0] := by
    rw [List.head?_eq_getElem?, List.getElem?_eq_getElem (by rw [sizeB]; exact h0)]; rfl
  unfold isNeg
  rw [e, Bool.eq_iff_iff]
  simp [← UInt8.toNat_inj]
  omega

set_option maxRecDepth 100000 in
set_option maxHeartbeats 1000000 in
theorem rnumber_any (s : ByteArray) (w : World) :
    Calls Tryd.prog 46 #[.string s] w fun e w' => e = .returned (.tuple #[.int .i64 (numV s.data.toList), .bool (numB s.data.toList)]) ∧ w = w' := by
  by_cases h0 : 0 < s.size
  · have hne : s.toList ≠ [] := by
      rw [Lib.toList_data]
      intro e
      have := sizeB s
      rw [e] at this
      simp at this
      omega
    have hem : (!s.toList.isEmpty) = true := by simpa using hne
    have hem2 : (s.toList = []) = False := eq_false hne
    clear hne
    have hng := isNeg_at s h0
    by_cases h45 : ((s[0].toNat : Int) == 45) = true
    · rw [h45] at hng
      have hd := rdigs_any (s.extract 1 s.size) w
      rw [digits_neg s] at hd
      have e1 : numB s.data.toList = digOk s.data.toList.tail := by unfold numB digPart; rw [hng]; rfl
      have e2 : numV s.data.toList = -(if digOk s.data.toList.tail then (valD s.data.toList.tail : Int) else 0) := by
        unfold numV; rw [e1, hng]; unfold digPart; rw [hng]; simp only [if_true]; split <;> simp
      obtain ⟨V, hV⟩ : ∃ V : Int, (if digOk s.data.toList.tail then (valD s.data.toList.tail : Int) else 0) = V := ⟨_, rfl⟩
      obtain ⟨B, hB⟩ : ∃ B : Bool, digOk s.data.toList.tail = B := ⟨_, rfl⟩
      have hVb : -1000000000000000000 < -V ∧ -V ≤ 0 := by
        rw [← hV]
        split
        · rename_i hok
          have hok' : digOk s.data.toList.tail = true := hok
          simp only [digOk, Bool.and_eq_true, decide_eq_true_eq] at hok'
          have := valD_bd _ 18 hok'.2 hok'.1.2
          omega
        · omega
      rw [hV, hB] at hd
      rw [hV] at e2
      rw [hB] at e1
      have HD := Lib.hid hd
      have E1 := Lib.hid e1
      have E2 := Lib.hid e2
      clear hd e1 e2 hV hB hng
      go_enter Tryd.func46, Tryd.ntmps46
      go_wp2_with (go_at_call 67; refine (HD.out).mono ?_; rintro e w' ⟨rfl, rfl⟩)
      go_ret2
      exact ⟨ret_ib (by rw [E2.out]) (by rw [E1.out]), rfl⟩
    · rw [Bool.not_eq_true] at h45
      rw [h45] at hng
      have hd := rdigs_any s w
      have e1 : numB s.data.toList = digOk s.data.toList := by unfold numB digPart; rw [hng]; rfl
      have e2 : numV s.data.toList = if digOk s.data.toList then (valD s.data.toList : Int) else 0 := by
        unfold numV; rw [e1, hng]; unfold digPart; rw [hng]; rfl
      rw [← e2, ← e1] at hd
      have HD := Lib.hid hd
      clear hd e1 e2 hng
      go_enter Tryd.func46, Tryd.ntmps46
      go_wp2_with (go_at_call 67; refine (HD.out).mono ?_; rintro e w' ⟨rfl, rfl⟩)
      go_ret2
      exact ⟨rfl, rfl⟩
  · obtain rfl : s = ⟨#[]⟩ := by
      cases s with
      | mk a =>
        have e : a.size = (ByteArray.mk a).size := rfl
        have e2 : a = #[] := Array.eq_empty_of_size_eq_zero (by omega)
        rw [e2]
    have hd := rdigs_any ⟨#[]⟩ w
    have HD := Lib.hid hd
    clear hd
    go_enter Tryd.func46, Tryd.ntmps46
    go_wp2_with (go_at_call 67; refine (HD.out).mono ?_; rintro e w' ⟨rfl, rfl⟩)
    go_ret2
    exact ⟨rfl, rfl⟩
end Go.Proofs.YtpbfgafkoodeoaaDoor

namespace Go.Proofs.YtpbfgafkoodeoaaDoor
open Go.RowKit

theorem rt_ep {a b c d : Int} {o : Bool} (h1 : a = c) (h2 : b = d) : Ending.returned (.tuple #[.int .i64 a, .int .i64 b, .bool o]) = .returned (.tuple #[.int .i64 c, .int .i64 d, .bool o]) := by rw [h1, h2]
theorem ep_num (s : ByteArray) (hn : epN s ≤ 13) : dRun s s.size 0 = epN s ∧ numV (s.extract 0 (epN s)).data.toList = (numC s 0 14 : Int) := by
  have hin := dRun_in s s.size 0 (Nat.zero_le _)
  constructor
  · unfold epN at hn ⊢
    rcases Nat.le_total 14 s.size with h | h
    · have := dRun_min s 14 s.size 0 h
      omega
    · have h1 := dRun_min s s.size 14 0 h
      have h2 := dRun_in s 14 0 (Nat.zero_le _)
      omega
  · have h := numC_eq (s := s) (k := 0) (b := 14) (Nat.zero_le _) (by omega)
    unfold subL at h
    rw [Nat.zero_add] at h
    exact h
theorem ep_all (s : ByteArray) (h : ¬ epN s ≤ 13) : 14 ≤ dRun s s.size 0 := by
  unfold epN at h
  have h2 := dRun_in s 14 0 (Nat.zero_le _)
  have h3 := dRun_le s 14 0
  have := dRun_min s 14 s.size 0 (by omega)
  omega
set_option maxRecDepth 100000 in
set_option maxHeartbeats 8000000 in
theorem rsec_10 (s : ByteArray) (hs : s.size ≤ 20000) (N : Nat) (hN : dRun s s.size 0 = N) (hT : N = 10) (v : Int) (hv : numV (s.extract 0 N).data.toList = v) (v0 : 0 ≤ v) (v1 : v ≤ 100000000000000) (w : World) :
    Calls Tryd.prog 23 #[.string s] w fun e w' => e = .returned (.tuple #[.int .i64 (v * 1000), .int .i64 (N : Int), .bool true]) ∧ w = w' := by
  have hnm := fun W => rnumber_any (s.extract 0 N) W
  rw [hv] at hnm
  obtain ⟨bb, hbb⟩ : ∃ b, numB (s.extract 0 N).data.toList = b := ⟨_, rfl⟩
  rw [hbb] at hnm
  have HNM := Lib.hid hnm
  clear hnm hv hbb
  have hin := dRun_in s s.size 0 (Nat.zero_le _)
  rw [hN] at hin
  have hr0 : N = 0 + dRun s (s.size - 0) (0 + 0) := by simp [hN]
  have HR := Lib.hid hr0
  have HS := Lib.hid hin
  have HT := Lib.hid hT
  clear hr0 hN hin hT
  go_enter Tryd.func23, Tryd.ntmps23
  go_wp2_with fail
  go_loop [5] (fun n => ∃ j : Nat, j ≤ N ∧ n = .int .i64 j ∧ N = j + dRun s (s.size - j) (0 + j)) (fun n => 20001 - (intOf n).toNat)
  case atStart => exact ⟨0, by omega, rfl, HR.out⟩
  case round =>
    obtain ⟨j, hj, rfl, hrj⟩ := hrel
    have HRJ := Lib.hid hrj
    clear hrj
    have hsz : j ≤ s.size := by have := HS.out; omega
    by_cases hlt : j < s.size
    · have d1 : decide ((j : Int) < (s.size : Int)) = true := by rw [decide_eq_true_iff]; omega
      have hi := byN_in s j hlt
      have hrd := fun W => rdigit_any s[j].toNat W
      cases hdg : digB (byN s (0 + j)) with
      | true =>
        have hst := dRun_step HRJ.out hlt hdg
        rw [Nat.zero_add, hi] at hdg
        rw [hdg] at hrd
        have HK := Lib.hid (And.intro hrd hst)
        clear hrd hst hdg hi
        have hj2 : j + 1 ≤ N := by have := HK.out.2; omega
        go_wp2_with fail
        refine (HK.out.1 _).mono ?_
        rintro e w' ⟨rfl, rfl⟩
        go_wp2
        go_round
        case rel => exact ⟨j + 1, hj2, by simp, HK.out.2⟩
        case measure => simp [intOf]; omega
      | false =>
        obtain rfl : N = j := dRun_end HRJ.out (.inr hdg)
        rw [Nat.zero_add, hi] at hdg
        rw [hdg] at hrd
        have HK := Lib.hid hrd
        clear hrd hdg hi
        go_wp2_with fail
        refine (HK.out _).mono ?_
        rintro e w' ⟨rfl, rfl⟩
        have n1 : ((N : Int) != 10) = false := by simp [HT.out]
        have n3 : ((N : Int) == 10) = true := by simp [HT.out]
        have i1 : 0 ≤ (N : Int) := by omega
        have i2 : (N : Int) ≤ (s.size : Int) := by have := HS.out; omega
        go_wp2_with fail
        refine (HNM.out _).mono ?_
        rintro e w' ⟨rfl, rfl⟩
        go_wp2
        exact bodyPost_ret (v := .tuple #[.int .i64 (v * 1000), .int .i64 (N : Int), .bool true]) (by simp [results, Tryd.results23, go_sem]) rfl ⟨rfl, rfl⟩
    · have d1 : decide ((j : Int) < (s.size : Int)) = false := by rw [decide_eq_false_iff_not]; omega
      obtain rfl : N = j := dRun_end HRJ.out (.inl (by omega))
      have n1 : ((N : Int) != 10) = false := by simp [HT.out]
      have n3 : ((N : Int) == 10) = true := by simp [HT.out]
      have i1 : 0 ≤ (N : Int) := by omega
      have i2 : (N : Int) ≤ (s.size : Int) := by have := HS.out; omega
      go_wp2_with fail
      refine (HNM.out _).mono ?_
      rintro e w' ⟨rfl, rfl⟩
      go_wp2
      exact bodyPost_ret (v := .tuple #[.int .i64 (v * 1000), .int .i64 (N : Int), .bool true]) (by simp [results, Tryd.results23, go_sem]) rfl ⟨rfl, rfl⟩
set_option maxRecDepth 100000 in
set_option maxHeartbeats 8000000 in
theorem rsec_13 (s : ByteArray) (hs : s.size ≤ 20000) (N : Nat) (hN : dRun s s.size 0 = N) (hT : N = 13) (v : Int) (hv : numV (s.extract 0 N).data.toList = v) (w : World) :
    Calls Tryd.prog 23 #[.string s] w fun e w' => e = .returned (.tuple #[.int .i64 v, .int .i64 (N : Int), .bool true]) ∧ w = w' := by
  have hnm := fun W => rnumber_any (s.extract 0 N) W
  rw [hv] at hnm
  obtain ⟨bb, hbb⟩ : ∃ b, numB (s.extract 0 N).data.toList = b := ⟨_, rfl⟩
  rw [hbb] at hnm
  have HNM := Lib.hid hnm
  clear hnm hv hbb
  have hin := dRun_in s s.size 0 (Nat.zero_le _)
  rw [hN] at hin
  have hr0 : N = 0 + dRun s (s.size - 0) (0 + 0) := by simp [hN]
  have HR := Lib.hid hr0
  have HS := Lib.hid hin
  have HT := Lib.hid hT
  clear hr0 hN hin hT
  go_enter Tryd.func23, Tryd.ntmps23
  go_wp2_with fail
  go_loop [5] (fun n => ∃ j : Nat, j ≤ N ∧ n = .int .i64 j ∧ N = j + dRun s (s.size - j) (0 + j)) (fun n => 20001 - (intOf n).toNat)
  case atStart => exact ⟨0, by omega, rfl, HR.out⟩
  case round =>
    obtain ⟨j, hj, rfl, hrj⟩ := hrel
    have HRJ := Lib.hid hrj
    clear hrj
    have hsz : j ≤ s.size := by have := HS.out; omega
    by_cases hlt : j < s.size
    · have d1 : decide ((j : Int) < (s.size : Int)) = true := by rw [decide_eq_true_iff]; omega
      have hi := byN_in s j hlt
      have hrd := fun W => rdigit_any s[j].toNat W
      cases hdg : digB (byN s (0 + j)) with
      | true =>
        have hst := dRun_step HRJ.out hlt hdg
        rw [Nat.zero_add, hi] at hdg
        rw [hdg] at hrd
        have HK := Lib.hid (And.intro hrd hst)
        clear hrd hst hdg hi
        have hj2 : j + 1 ≤ N := by have := HK.out.2; omega
        go_wp2_with fail
        refine (HK.out.1 _).mono ?_
        rintro e w' ⟨rfl, rfl⟩
        go_wp2
        go_round
        case rel => exact ⟨j + 1, hj2, by simp, HK.out.2⟩
        case measure => simp [intOf]; omega
      | false =>
        obtain rfl : N = j := dRun_end HRJ.out (.inr hdg)
        rw [Nat.zero_add, hi] at hdg
        rw [hdg] at hrd
        have HK := Lib.hid hrd
        clear hrd hdg hi
        go_wp2_with fail
        refine (HK.out _).mono ?_
        rintro e w' ⟨rfl, rfl⟩
        have n1 : ((N : Int) != 10) = true := by simp [HT.out]
        have n2 : ((N : Int) != 13) = false := by simp [HT.out]
        have n3 : ((N : Int) == 10) = false := by simp [HT.out]
        have i1 : 0 ≤ (N : Int) := by omega
        have i2 : (N : Int) ≤ (s.size : Int) := by have := HS.out; omega
        go_wp2_with fail
        refine (HNM.out _).mono ?_
        rintro e w' ⟨rfl, rfl⟩
        go_wp2
        exact bodyPost_ret (v := .tuple #[.int .i64 v, .int .i64 (N : Int), .bool true]) (by simp [results, Tryd.results23, go_sem]) rfl ⟨rfl, rfl⟩
    · have d1 : decide ((j : Int) < (s.size : Int)) = false := by rw [decide_eq_false_iff_not]; omega
      obtain rfl : N = j := dRun_end HRJ.out (.inl (by omega))
      have n1 : ((N : Int) != 10) = true := by simp [HT.out]
      have n2 : ((N : Int) != 13) = false := by simp [HT.out]
      have n3 : ((N : Int) == 10) = false := by simp [HT.out]
      have i1 : 0 ≤ (N : Int) := by omega
      have i2 : (N : Int) ≤ (s.size : Int) := by have := HS.out; omega
      go_wp2_with fail
      refine (HNM.out _).mono ?_
      rintro e w' ⟨rfl, rfl⟩
      go_wp2
      exact bodyPost_ret (v := .tuple #[.int .i64 v, .int .i64 (N : Int), .bool true]) (by simp [results, Tryd.results23, go_sem]) rfl ⟨rfl, rfl⟩
set_option maxRecDepth 100000 in
set_option maxHeartbeats 8000000 in
theorem rsec_0 (s : ByteArray) (hs : s.size ≤ 20000) (N : Nat) (hN : dRun s s.size 0 = N) (hT : N ≠ 10 ∧ N ≠ 13) (w : World) :
    Calls Tryd.prog 23 #[.string s] w fun e w' => e = .returned (.tuple #[.int .i64 0, .int .i64 0, .bool false]) ∧ w = w' := by
  have hin := dRun_in s s.size 0 (Nat.zero_le _)
  rw [hN] at hin
  have hr0 : N = 0 + dRun s (s.size - 0) (0 + 0) := by simp [hN]
  have HR := Lib.hid hr0
  have HS := Lib.hid hin
  have HT := Lib.hid hT
  clear hr0 hN hin hT
  go_enter Tryd.func23, Tryd.ntmps23
  go_wp2_with fail
  go_loop [5] (fun n => ∃ j : Nat, j ≤ N ∧ n = .int .i64 j ∧ N = j + dRun s (s.size - j) (0 + j)) (fun n => 20001 - (intOf n).toNat)
  case atStart => exact ⟨0, by omega, rfl, HR.out⟩
  case round =>
    obtain ⟨j, hj, rfl, hrj⟩ := hrel
    have HRJ := Lib.hid hrj
    clear hrj
    have hsz : j ≤ s.size := by have := HS.out; omega
    by_cases hlt : j < s.size
    · have d1 : decide ((j : Int) < (s.size : Int)) = true := by rw [decide_eq_true_iff]; omega
      have hi := byN_in s j hlt
      have hrd := fun W => rdigit_any s[j].toNat W
      cases hdg : digB (byN s (0 + j)) with
      | true =>
        have hst := dRun_step HRJ.out hlt hdg
        rw [Nat.zero_add, hi] at hdg
        rw [hdg] at hrd
        have HK := Lib.hid (And.intro hrd hst)
        clear hrd hst hdg hi
        have hj2 : j + 1 ≤ N := by have := HK.out.2; omega
        go_wp2_with fail
        refine (HK.out.1 _).mono ?_
        rintro e w' ⟨rfl, rfl⟩
        go_wp2
        go_round
        case rel => exact ⟨j + 1, hj2, by simp, HK.out.2⟩
        case measure => simp [intOf]; omega
      | false =>
        obtain rfl : N = j := dRun_end HRJ.out (.inr hdg)
        rw [Nat.zero_add, hi] at hdg
        rw [hdg] at hrd
        have HK := Lib.hid hrd
        clear hrd hdg hi
        go_wp2_with fail
        refine (HK.out _).mono ?_
        rintro e w' ⟨rfl, rfl⟩
        have n1 : ((N : Int) != 10) = true := by rw [bne_iff_ne]; have := HT.out.1; omega
        have n2 : ((N : Int) != 13) = true := by rw [bne_iff_ne]; have := HT.out.2; omega
        go_wp2
        exact bodyPost_ret (v := .tuple #[.int .i64 0, .int .i64 0, .bool false]) (by simp [results, Tryd.results23, go_sem]) rfl ⟨rfl, rfl⟩
    · have d1 : decide ((j : Int) < (s.size : Int)) = false := by rw [decide_eq_false_iff_not]; omega
      obtain rfl : N = j := dRun_end HRJ.out (.inl (by omega))
      have n1 : ((N : Int) != 10) = true := by rw [bne_iff_ne]; have := HT.out.1; omega
      have n2 : ((N : Int) != 13) = true := by rw [bne_iff_ne]; have := HT.out.2; omega
      go_wp2
      exact bodyPost_ret (v := .tuple #[.int .i64 0, .int .i64 0, .bool false]) (by simp [results, Tryd.results23, go_sem]) rfl ⟨rfl, rfl⟩
theorem rsec_any (s : ByteArray) (hs : s.size ≤ 20000) (w : World) :
    Calls Tryd.prog 23 #[.string s] w fun e w' => e = .returned (.tuple #[.int .i64 (if epE s = 0 then epV s else 0), .int .i64 (if epE s = 0 then (epN s : Int) else 0), .bool (decide (epE s = 0))]) ∧ w = w' := by
  have hb := numC_lt (s := s) (k := 0) (b := 14) (Nat.zero_le _)
  by_cases h1 : epN s = 10
  · obtain ⟨e1, e2⟩ := ep_num s (by omega)
    have e0 : epE s = 0 := by unfold epE; rw [if_pos h1]
    have ev : epV s = (numC s 0 14 : Int) * 1000 := by unfold epV; rw [if_pos h1]
    rw [if_pos e0, if_pos e0, decide_eq_true e0, ev]
    exact rsec_10 s hs (epN s) e1 h1 _ e2 (by omega) (by omega) w
  · by_cases h2 : epN s = 13
    · obtain ⟨e1, e2⟩ := ep_num s (by omega)
      have e0 : epE s = 0 := by unfold epE; rw [if_neg h1, if_pos h2]
      have ev : epV s = (numC s 0 14 : Int) := by unfold epV; rw [if_neg h1, if_pos h2]
      rw [if_pos e0, if_pos e0, decide_eq_true e0, ev]
      exact rsec_13 s hs (epN s) e1 h2 _ e2 w
    · have e0 : ¬ epE s = 0 := by unfold epE; rw [if_neg h1, if_neg h2]; omega
      rw [if_neg e0, if_neg e0, decide_eq_false e0]
      by_cases h3 : epN s ≤ 13
      · exact rsec_0 s hs _ rfl (by rw [(ep_num s h3).1]; exact ⟨h1, h2⟩) w
      · exact rsec_0 s hs _ rfl (by have := ep_all s h3; omega) w
end Go.Proofs.YtpbfgafkoodeoaaDoor
