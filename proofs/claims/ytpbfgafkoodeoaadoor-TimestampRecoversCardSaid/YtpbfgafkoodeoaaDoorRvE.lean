/- The contracts of the reference's Length, Days and Civil. The contract of the reference's Civil. The contract of the reference's Dates. -/
import Derived.Test.YtpbfgafkoodeoaaDoorRvC
namespace Go.Proofs.YtpbfgafkoodeoaaDoor
open Go.RowKit

theorem len_val (y : Int) : Cal.len y 1 = 31 ∧ Cal.len y 3 = 31 ∧ Cal.len y 4 = 30 ∧ Cal.len y 5 = 31 ∧ Cal.len y 6 = 30 ∧ Cal.len y 7 = 31 ∧ Cal.len y 8 = 31 ∧ Cal.len y 9 = 30 ∧ Cal.len y 10 = 31 ∧ Cal.len y 11 = 30 ∧ Cal.len y 12 = 31 := by
  simp [Cal.len]
theorem len_feb (y : Int) : (Cal.leap y = true → Cal.len y 2 = 29) ∧ (Cal.leap y = false → Cal.len y 2 = 28) := by
  refine ⟨fun h => by simp [Cal.len, h], fun h => by simp [Cal.len, h]⟩

set_option maxRecDepth 100000 in
set_option maxHeartbeats 2000000 in
theorem rlength_feb (y : Int) (h0 : 0 ≤ y) (h1 : y ≤ 20000) (w : World) :
    Calls Tryd.prog 64 #[.int .i64 y, .int .i64 2] w fun e w' => e = .returned (.int .i64 (Cal.len y 2)) ∧ w = w' := by
  have hl := rleap_any y h0 h1 w
  have hf := len_feb y
  obtain ⟨L, hL⟩ : ∃ L, Cal.leap y = L := ⟨_, rfl⟩
  rw [hL] at hl hf
  have HL := Lib.hid hl
  have HF := Lib.hid hf
  clear hl hL hf h0 h1
  cases L with
  | true =>
    rw [HF.out.1 rfl]
    go_enter Tryd.func64, Tryd.ntmps64
    go_wp2_with fail
    refine (HL.out).mono ?_
    rintro e w' ⟨rfl, rfl⟩
    go_wp2
    go_ret
    exact ⟨rfl, rfl⟩
  | false =>
    rw [HF.out.2 rfl]
    go_enter Tryd.func64, Tryd.ntmps64
    go_wp2_with fail
    refine (HL.out).mono ?_
    rintro e w' ⟨rfl, rfl⟩
    go_wp2
    go_ret
    exact ⟨rfl, rfl⟩
set_option maxRecDepth 100000 in
set_option maxHeartbeats 8000000 in
theorem rlength_any (y m : Int) (h0 : 0 ≤ y) (h1 : y ≤ 20000) (w : World) :
    Calls Tryd.prog 64 #[.int .i64 y, .int .i64 m] w fun e w' => e = .returned (.int .i64 (Cal.len y m)) ∧ w = w' := by
  by_cases hm : 1 ≤ m ∧ m ≤ 12
  · obtain ⟨v1, v3, v4, v5, v6, v7, v8, v9, v10, v11, v12⟩ := len_val y
    have : m = 2 ∨ m = 1 ∨ m = 3 ∨ m = 4 ∨ m = 5 ∨ m = 6 ∨ m = 7 ∨ m = 8 ∨ m = 9 ∨ m = 10 ∨ m = 11 ∨ m = 12 := by omega
    rcases this with rfl | rfl | rfl | rfl | rfl | rfl | rfl | rfl | rfl | rfl | rfl | rfl
    · exact rlength_feb y h0 h1 w
    · rw [v1]; clear v1 v3 v4 v5 v6 v7 v8 v9 v10 v11 v12; go_enter Tryd.func64, Tryd.ntmps64; go_wp2; go_ret; exact ⟨rfl, rfl⟩
    · rw [v3]; clear v1 v3 v4 v5 v6 v7 v8 v9 v10 v11 v12; go_enter Tryd.func64, Tryd.ntmps64; go_wp2; go_ret; exact ⟨rfl, rfl⟩
    · rw [v4]; clear v1 v3 v4 v5 v6 v7 v8 v9 v10 v11 v12; go_enter Tryd.func64, Tryd.ntmps64; go_wp2; go_ret; exact ⟨rfl, rfl⟩
    · rw [v5]; clear v1 v3 v4 v5 v6 v7 v8 v9 v10 v11 v12; go_enter Tryd.func64, Tryd.ntmps64; go_wp2; go_ret; exact ⟨rfl, rfl⟩
    · rw [v6]; clear v1 v3 v4 v5 v6 v7 v8 v9 v10 v11 v12; go_enter Tryd.func64, Tryd.ntmps64; go_wp2; go_ret; exact ⟨rfl, rfl⟩
    · rw [v7]; clear v1 v3 v4 v5 v6 v7 v8 v9 v10 v11 v12; go_enter Tryd.func64, Tryd.ntmps64; go_wp2; go_ret; exact ⟨rfl, rfl⟩
    · rw [v8]; clear v1 v3 v4 v5 v6 v7 v8 v9 v10 v11 v12; go_enter Tryd.func64, Tryd.ntmps64; go_wp2; go_ret; exact ⟨rfl, rfl⟩
    · rw [v9]; clear v1 v3 v4 v5 v6 v7 v8 v9 v10 v11 v12; go_enter Tryd.func64, Tryd.ntmps64; go_wp2; go_ret; exact ⟨rfl, rfl⟩
    · rw [v10]; clear v1 v3 v4 v5 v6 v7 v8 v9 v10 v11 v12; go_enter Tryd.func64, Tryd.ntmps64; go_wp2; go_ret; exact ⟨rfl, rfl⟩
    · rw [v11]; clear v1 v3 v4 v5 v6 v7 v8 v9 v10 v11 v12; go_enter Tryd.func64, Tryd.ntmps64; go_wp2; go_ret; exact ⟨rfl, rfl⟩
    · rw [v12]; clear v1 v3 v4 v5 v6 v7 v8 v9 v10 v11 v12; go_enter Tryd.func64, Tryd.ntmps64; go_wp2; go_ret; exact ⟨rfl, rfl⟩
  · rw [len_out (by omega)]
    have e1 : (m == 1) = false := by rw [beq_eq_false_iff_ne]; omega
    have e2 : (m == 2) = false := by rw [beq_eq_false_iff_ne]; omega
    have e3 : (m == 3) = false := by rw [beq_eq_false_iff_ne]; omega
    have e4 : (m == 4) = false := by rw [beq_eq_false_iff_ne]; omega
    have e5 : (m == 5) = false := by rw [beq_eq_false_iff_ne]; omega
    have e6 : (m == 6) = false := by rw [beq_eq_false_iff_ne]; omega
    have e7 : (m == 7) = false := by rw [beq_eq_false_iff_ne]; omega
    have e8 : (m == 8) = false := by rw [beq_eq_false_iff_ne]; omega
    have e9 : (m == 9) = false := by rw [beq_eq_false_iff_ne]; omega
    have e10 : (m == 10) = false := by rw [beq_eq_false_iff_ne]; omega
    have e11 : (m == 11) = false := by rw [beq_eq_false_iff_ne]; omega
    have e12 : (m == 12) = false := by rw [beq_eq_false_iff_ne]; omega
    clear hm
    go_enter Tryd.func64, Tryd.ntmps64
    go_wp2
    go_ret
    exact ⟨rfl, rfl⟩

theorem rb1970 (w : World) : Calls Tryd.prog 65 #[.int .i64 1970] w fun e w' => e = .returned (.int .i64 719162) ∧ w = w' := by
  have h := rbefore_any 1970 (by decide) (by decide) w
  rwa [Cal.bef_1970] at h
theorem rb10000 (w : World) : Calls Tryd.prog 65 #[.int .i64 10000] w fun e w' => e = .returned (.int .i64 3652059) ∧ w = w' := by
  have h := rbefore_any 10000 (by decide) (by decide) w
  rwa [Cal.bef_10000] at h

set_option maxRecDepth 100000 in
set_option maxHeartbeats 2000000 in
theorem rdays_yes (y m d : Int) (h : Cal.valid y m d) (w : World) :
    Calls Tryd.prog 41 #[.int .i64 y, .int .i64 m, .int .i64 d] w fun e w' => e = .returned (.tuple #[.int .i64 (Cal.num y m d), .bool true]) ∧ w = w' := by
  obtain ⟨hy1, hy2, hm1, hm2, hd1, hd2⟩ := h
  have b2 := Lib.hid (fun m => rlength_any y m (by omega) (by omega) w)
  have b2m := rlength_any y m (by omega) (by omega) w
  have b3 := rbefore_any y hy1 (by omega) w
  have c2 := len_bd y m
  have c3 := bef_bd hy1 (by omega)
  have hn : Hid (Cal.num y m d = Cal.bef y + Cal.cum y m + d - 719163) := rfl
  obtain ⟨q, hq⟩ : ∃ x, Cal.len y m = x := ⟨_, rfl⟩
  obtain ⟨r, hr⟩ : ∃ x, Cal.bef y = x := ⟨_, rfl⟩
  rw [hq] at b2m c2 hd2
  rw [hr] at b3 c3 hn
  have B2 := Lib.hid b2m
  have B3 := Lib.hid b3
  clear b2m b3 hq hr
  go_enter Tryd.func41, Tryd.ntmps41
  go_wp2_with fail
  refine (B2.out).mono ?_
  rintro e w' ⟨rfl, rfl⟩
  go_wp2_with fail
  refine (B3.out).mono ?_
  rintro e w' ⟨rfl, rfl⟩
  go_wp2_with fail
  refine (rb1970 _).mono ?_
  rintro e w' ⟨rfl, rfl⟩
  go_wp2_with fail
  go_loop [8, 9] (fun t u => ∃ k : Int, 1 ≤ k ∧ k ≤ m ∧ u = .int .i64 k ∧ t = .int .i64 (r - 719162 + d - 1 + Cal.cum y k)) (fun _ u => (m - intOf u).toNat)
  case atStart => exact ⟨1, by omega, by omega, rfl, by rw [Cal.cum_one, Int.add_zero]⟩
  case round =>
    obtain ⟨k, hk1, hk2, rfl, rfl⟩ := hrel
    have cb := cum_bd (y := y) (m := k)
    have cl := len_bd y k
    have hb := b2.out k
    by_cases hlt : k < m
    · have cs := Lib.hid (Cal.cum_succ (y := y) hk1 (by omega))
      obtain ⟨C, hC⟩ : ∃ x, Cal.cum y k = x := ⟨_, rfl⟩
      obtain ⟨E, hE⟩ : ∃ x, Cal.len y k = x := ⟨_, rfl⟩
      rw [hC] at cs cb ⊢
      rw [hE] at cs cl hb
      have HB := Lib.hid hb
      clear hC hE hb
      go_wp2_with fail
      refine (HB.out).mono ?_
      rintro e w' ⟨rfl, rfl⟩
      go_wp2
      go_round
      case rel => exact ⟨k + 1, by omega, by omega, rfl, by rw [cs.out]; congr 1; omega⟩
      case measure => simp [intOf]; omega
    · obtain rfl : k = m := by omega
      clear hb
      obtain ⟨C, hC⟩ : ∃ x, Cal.cum y k = x := ⟨_, rfl⟩
      rw [hC] at cb hn ⊢
      clear hC
      go_wp2
      go_ret2
      exact ⟨by rw [hn.out]; exact congrArg (fun x => Ending.returned (.tuple #[.int .i64 x, .bool true])) (by omega), rfl⟩

set_option maxRecDepth 100000 in
set_option maxHeartbeats 1000000 in
theorem rdays_no (y m d : Int) (h : ¬ Cal.valid y m d) (w : World) :
    Calls Tryd.prog 41 #[.int .i64 y, .int .i64 m, .int .i64 d] w fun e w' => e = .returned (.tuple #[.int .i64 0, .bool false]) ∧ w = w' := by
  by_cases h1 : y < 1
  · go_enter Tryd.func41, Tryd.ntmps41
    go_wp2
    go_ret2
    exact ⟨rfl, rfl⟩
  by_cases h2 : 9999 < y
  · go_enter Tryd.func41, Tryd.ntmps41
    go_wp2
    go_ret2
    exact ⟨rfl, rfl⟩
  by_cases h3 : d < 1
  · go_enter Tryd.func41, Tryd.ntmps41
    go_wp2
    go_ret2
    exact ⟨rfl, rfl⟩
  have h4 : Cal.len y m < d := by
    by_cases hm : 1 ≤ m ∧ m ≤ 12
    · by_cases hd : d ≤ Cal.len y m
      · exact absurd ⟨by omega, by omega, hm.1, hm.2, by omega, hd⟩ h
      · omega
    · rw [len_out (by omega)]; omega
  have b2 := rlength_any y m (by omega) (by omega) w
  have c2 := len_bd y m
  obtain ⟨q, hq⟩ : ∃ x, Cal.len y m = x := ⟨_, rfl⟩
  rw [hq] at b2 c2 h4
  have B2 := Lib.hid b2
  clear b2 hq h
  go_enter Tryd.func41, Tryd.ntmps41
  go_wp2_with fail
  refine (B2.out).mono ?_
  rintro e w' ⟨rfl, rfl⟩
  go_wp2
  go_ret2
  exact ⟨rfl, rfl⟩
end Go.Proofs.YtpbfgafkoodeoaaDoor

namespace Go.Proofs.YtpbfgafkoodeoaaDoor
open Go.RowKit

theorem rcivil_valid {k y m : Int} (hy : InYear (k + 719162) y) (h1 : 1 ≤ m) (h2 : m ≤ 12) (hlo : Cal.cum y m ≤ k + 719162 - Cal.bef y) (hhi : k + 719162 - Cal.bef y - Cal.cum y m < Cal.len y m) :
    Cal.valid y m (k + 719162 - Cal.bef y - Cal.cum y m + 1) ∧ Cal.num y m (k + 719162 - Cal.bef y - Cal.cum y m + 1) = k :=
  ⟨⟨hy.1, hy.2.1, h1, h2, by omega, by omega⟩, by unfold Cal.num; omega⟩

set_option maxRecDepth 100000 in
set_option maxHeartbeats 4000000 in
theorem rcivil_yes (k : Int) (h0 : -719162 ≤ k) (h1 : k ≤ 2932896) (w : World) :
    Calls Tryd.prog 47 #[.int .i64 k] w (CivilOut k w) := by
  have d1 : (-719162 : Int) ≤ k := h0
  go_enter Tryd.func47, Tryd.ntmps47
  go_wp2_with fail
  refine (rb1970 _).mono ?_
  rintro e w' ⟨rfl, rfl⟩
  go_wp2_with fail
  refine (rb10000 _).mono ?_
  rintro e w' ⟨rfl, rfl⟩
  go_wp2_with fail
  refine (rb1970 _).mono ?_
  rintro e w' ⟨rfl, rfl⟩
  go_wp2_with fail
  refine (rb1970 _).mono ?_
  rintro e w' ⟨rfl, rfl⟩
  go_wp2_with fail
  go_loop [7, 8, 9] (fun t u v => ∃ lo hi : Int, 1 ≤ lo ∧ lo ≤ hi ∧ hi ≤ 9999 ∧ t = .int .i64 lo ∧ u = .int .i64 hi ∧ Cal.bef lo ≤ k + 719162 ∧ k + 719162 < Cal.bef (hi + 1)) (fun t u v => (intOf u - intOf t).toNat)
  case atStart => exact ⟨1, 9999, by decide, by decide, by decide, rfl, rfl, by rw [Cal.bef_1]; omega, by have := Cal.bef_10000; rw [show (9999 : Int) + 1 = 10000 from rfl]; omega⟩
  case round =>
    obtain ⟨lo, hi, hl1, hl2, hl3, rfl, rfl, hb1, hb2⟩ := hrel
    by_cases hlt : lo < hi
    · obtain ⟨q, hq⟩ : ∃ q, (lo + hi + 1) / 2 = q := ⟨_, rfl⟩
      have hq1 : lo < q := by omega
      have hq2 : q ≤ hi := by omega
      have hbq := rbefore_any q (by omega) (by omega) w
      have hbb := bef_bd (y := q) (by omega) (by omega)
      obtain ⟨r, hr⟩ : ∃ r, Cal.bef q = r := ⟨_, rfl⟩
      rw [hr] at hbq hbb
      have HQ := Lib.hid hbq
      have HR := Lib.hid hr
      have HB := Lib.hid (And.intro hb1 hb2)
      clear hbq hr hb1 hb2
      by_cases hle : r ≤ k + 719162
      · go_wp2_with fail
        refine (HQ.out).mono ?_
        rintro e w' ⟨rfl, rfl⟩
        go_wp2
        go_round
        case rel => exact ⟨q, hi, by omega, hq2, hl3, rfl, rfl, by rw [HR.out]; exact hle, HB.out.2⟩
        case measure => simp [intOf]; omega
      · go_wp2_with fail
        refine (HQ.out).mono ?_
        rintro e w' ⟨rfl, rfl⟩
        go_wp2
        go_round
        case rel => exact ⟨lo, q - 1, hl1, by omega, by omega, rfl, rfl, HB.out.1, by rw [show q - 1 + 1 = q by omega, HR.out]; omega⟩
        case measure => simp [intOf]; omega
    · obtain rfl : lo = hi := by omega
      have hy : InYear (k + 719162) lo := ⟨hl1, hl3, hb1, hb2⟩
      have hbl := rbefore_any lo hl1 (by omega) w
      have hbd := bef_bd (y := lo) hl1 (by omega)
      have hs := Cal.bef_succ lo
      have hsp : Cal.bef (lo + 1) ≤ Cal.bef lo + 366 := by rw [hs]; split <;> omega
      have hs12 := Cal.cum_last lo
      have HS := Lib.hid (And.intro hs hs12)
      have HV := Lib.hid (fun m => rcivil_valid (k := k) (y := lo) (m := m) hy)
      have HLN := Lib.hid (fun m => rlength_any lo m (by omega) (by omega) w)
      have b5 : 0 ≤ k + 719162 - Cal.bef lo ∧ k + 719162 - Cal.bef lo ≤ 366 := by omega
      obtain ⟨r, hr⟩ : ∃ r, Cal.bef lo = r := ⟨_, rfl⟩
      rw [hr] at hbl hbd b5 HV HS
      have HB2 := Lib.hid hb2
      have HBL := Lib.hid hbl
      have HR := Lib.hid hr
      clear hb1 hb2 hy hbl hs hsp hs12 hr
      go_wp2_with fail
      refine (HBL.out).mono ?_
      rintro e w' ⟨rfl, rfl⟩
      go_wp2_with fail
      obtain ⟨n, hn⟩ : ∃ x, k + 719162 - r = x := ⟨_, rfl⟩
      rw [hn] at b5 HV ⊢
      have HN := Lib.hid hn
      clear hn
      go_loop [6, 10] (fun t u => ∃ m : Int, 1 ≤ m ∧ m ≤ 12 ∧ u = .int .i64 m ∧ t = .int .i64 (n - Cal.cum lo m) ∧ Cal.cum lo m ≤ n) (fun _ u => (12 - intOf u).toNat)
      case atStart => exact ⟨1, by omega, by omega, rfl, by rw [Cal.cum_one]; simp, by rw [Cal.cum_one]; omega⟩
      case round =>
        obtain ⟨m, hm1, hm2, rfl, rfl, hm3⟩ := hrel
        have cb := cum_bd (y := lo) (m := m)
        have lb := len_bd lo m
        have hln := HLN.out m
        have hcs := cum_len (y := lo) hm1 hm2
        have HCS := Lib.hid hcs
        have hlast : m = 12 → n - Cal.cum lo m < Cal.len lo m := fun e => by
          subst e
          have h1 := HS.out.1
          have h2 := HS.out.2
          have h3 := HB2.out
          have h4 := HN.out
          have h5 := Cal.len_twelve lo
          omega
        have HLA := Lib.hid hlast
        clear hcs hlast
        obtain ⟨C, hC⟩ : ∃ x, Cal.cum lo m = x := ⟨_, rfl⟩
        obtain ⟨E, hE⟩ : ∃ x, Cal.len lo m = x := ⟨_, rfl⟩
        rw [hC] at cb hm3 HCS HLA ⊢
        rw [hE] at lb hln HCS HLA
        have HK := Lib.hid hln
        have HC := Lib.hid hC
        have HE := Lib.hid hE
        clear hln hC hE
        by_cases hge : E ≤ n - C
        · have hm12 : m < 12 := by
            rcases Int.lt_or_le m 12 with l | l
            · exact l
            · have := HLA.out (by omega); omega
          go_wp2_with fail
          refine (HK.out).mono ?_
          rintro e w' ⟨rfl, rfl⟩
          go_wp2_with fail
          refine (HK.out).mono ?_
          rintro e w' ⟨rfl, rfl⟩
          go_wp2
          go_round
          case rel => exact ⟨m + 1, by omega, by omega, rfl, by congr 1; have := HCS.out; omega, by have := HCS.out; omega⟩
          case measure => simp [intOf]; omega
        · go_wp2_with fail
          refine (HK.out).mono ?_
          rintro e w' ⟨rfl, rfl⟩
          go_wp2
          have hv := HV.out m hm1 hm2 (by rw [HC.out]; exact hm3) (by rw [HC.out, HE.out]; omega)
          rw [HC.out] at hv
          exact bodyPost_ret (v := .tuple #[.int .i64 lo, .int .i64 m, .int .i64 (n - C + 1), .bool true]) (by simp [results, Tryd.results47, go_sem]) rfl ⟨lo, m, _, rfl, hv.1, hv.2, rfl⟩

set_option maxRecDepth 100000 in
set_option maxHeartbeats 1000000 in
theorem rcivil_no (k : Int) (h : k < -719162 ∨ 2932896 < k) (w : World) :
    Calls Tryd.prog 47 #[.int .i64 k] w fun e w' => e = .returned (.tuple #[.int .i64 0, .int .i64 0, .int .i64 0, .bool false]) ∧ w = w' := by
  rcases h with h | h
  · go_enter Tryd.func47, Tryd.ntmps47
    go_wp2_with fail
    refine (rb1970 _).mono ?_
    rintro e w' ⟨rfl, rfl⟩
    go_wp2
    exact bodyPost_ret (v := .tuple #[.int .i64 0, .int .i64 0, .int .i64 0, .bool false]) (by simp [results, Tryd.results47, go_sem]) rfl ⟨rfl, rfl⟩
  · have h' : ¬ k < -719162 := by omega
    have h'' : (2932897 : Int) ≤ k := by omega
    go_enter Tryd.func47, Tryd.ntmps47
    go_wp2_with fail
    refine (rb1970 _).mono ?_
    rintro e w' ⟨rfl, rfl⟩
    go_wp2_with fail
    refine (rb10000 _).mono ?_
    rintro e w' ⟨rfl, rfl⟩
    go_wp2_with fail
    refine (rb1970 _).mono ?_
    rintro e w' ⟨rfl, rfl⟩
    go_wp2
    exact bodyPost_ret (v := .tuple #[.int .i64 0, .int .i64 0, .int .i64 0, .bool false]) (by simp [results, Tryd.results47, go_sem]) rfl ⟨rfl, rfl⟩
end Go.Proofs.YtpbfgafkoodeoaaDoor

namespace Go.Proofs.YtpbfgafkoodeoaaDoor
open Go.RowKit

theorem clock_eq {p rs : Int} (h : p % 86400000 = rs) : p / 3600000 % 24 = rs / 3600000 ∧ p / 60000 % 60 = rs / 60000 % 60 ∧ p / 1000 % 60 = rs / 1000 % 60 ∧ p % 1000 = rs % 1000 := by
  omega
theorem tdiv_neg {n : Int} (h : n < 0) : n = n.tdiv 86400000 * 86400000 + n.tmod 86400000 ∧ -86400000 < n.tmod 86400000 ∧ n.tmod 86400000 ≤ 0 := by
  have h1 := Int.mul_tdiv_add_tmod n 86400000
  obtain ⟨u, rfl⟩ : ∃ u, n = -u := ⟨-n, by omega⟩
  rw [Int.neg_tmod, Int.tmod_eq_emod_of_nonneg (by omega)] at *
  omega

set_option maxRecDepth 100000 in
set_option maxHeartbeats 4000000 in
theorem rdates_yes (ms z : Int) (h1 : isT ms) (h2 : isZ z) (h3 : isT (ms + z * 60000)) (w : World) :
    Calls Tryd.prog 43 #[.int .i64 ms, .int .i64 z] w (DatesOut (ms + z * 60000 + 62135596800000) w) := by
  obtain ⟨b1, b2⟩ := h1
  obtain ⟨b3, b4⟩ := h2
  obtain ⟨n, hn⟩ : ∃ n, ms + z * 60000 = n := ⟨_, rfl⟩
  have hn1 : -62135596800000 - 86400000 ≤ n := by omega
  have hn2 : n ≤ 253402300799999 + 86400000 := by omega
  rw [hn] at h3 ⊢
  by_cases hneg : 0 ≤ n
  · obtain ⟨dy, hdy⟩ : ∃ x, n / 86400000 = x := ⟨_, rfl⟩
    obtain ⟨rs, hrs⟩ : ∃ x, n % 86400000 = x := ⟨_, rfl⟩
    have r1 : 0 ≤ rs := by omega
    have r2 : rs < 86400000 := by omega
    have hday : (n + 62135596800000) / 86400000 - 719162 = dy := by omega
    have hrst : (n + 62135596800000) % 86400000 = rs := by omega
    have hb1 : -10000000 ≤ dy := by omega
    have hb2 : dy ≤ 10000000 := by omega
    have hc := Lib.hid (fun W => rcivil_yes dy (by have := h3.1; have := h3.2; omega) (by have := h3.1; have := h3.2; omega) W)
    have HD := Lib.hid hday
    have HE := Lib.hid (clock_eq hrst)
    clear hday hrst h3
    go_enter Tryd.func43, Tryd.ntmps43
    go_wp2_with fail
    refine (hc.out _).mono ?_
    rintro e w' ⟨y, m, d, rfl, hv, hnn, rfl⟩
    have HV := Lib.hid (And.intro hv hnn)
    clear hv hnn
    go_wp2
    refine bodyPost_ret (v := .tuple #[.agg #[.int .i64 y, .int .i64 m, .int .i64 d, .int .i64 (rs / 3600000), .int .i64 (rs / 60000 % 60), .int .i64 (rs / 1000 % 60), .int .i64 (rs % 1000)], .int .i64 0]) (by simp [results, Tryd.results43, go_sem]) rfl ⟨y, m, d, ?_, HV.out.1, by rw [HV.out.2, HD.out], ?_⟩
    · unfold dateV
      rw [HE.out.1, HE.out.2.1, HE.out.2.2.1, HE.out.2.2.2]
    · exact (Below.refl _ _).alloc (Nat.le_refl _) _
  · have hq := tdiv_neg (n := n) (by omega)
    obtain ⟨q, hdy⟩ : ∃ x, n.tdiv 86400000 = x := ⟨_, rfl⟩
    obtain ⟨t, hrs⟩ : ∃ x, n.tmod 86400000 = x := ⟨_, rfl⟩
    rw [hdy, hrs] at hq
    obtain ⟨q1, q2, q3⟩ := hq
    by_cases ht : t < 0
    · obtain ⟨dy, hd2⟩ : ∃ x, q - 1 = x := ⟨_, rfl⟩
      obtain ⟨rs, hr2⟩ : ∃ x, t + 86400000 = x := ⟨_, rfl⟩
      have r1 : 0 ≤ rs := by omega
      have r2 : rs < 86400000 := by omega
      have hday : (n + 62135596800000) / 86400000 - 719162 = dy := by omega
      have hrst : (n + 62135596800000) % 86400000 = rs := by omega
      have hb1 : -10000000 ≤ dy := by omega
      have hb2 : dy ≤ 10000000 := by omega
      have hc := Lib.hid (fun W => rcivil_yes dy (by have := h3.1; have := h3.2; omega) (by have := h3.1; have := h3.2; omega) W)
      have HD := Lib.hid hday
      have HE := Lib.hid (clock_eq hrst)
      clear hday hrst h3 q1 q2 q3
      go_enter Tryd.func43, Tryd.ntmps43
      go_wp2_with fail
      refine (hc.out _).mono ?_
      rintro e w' ⟨y, m, d, rfl, hv, hnn, rfl⟩
      have HV := Lib.hid (And.intro hv hnn)
      clear hv hnn
      go_wp2
      refine bodyPost_ret (v := .tuple #[.agg #[.int .i64 y, .int .i64 m, .int .i64 d, .int .i64 (rs / 3600000), .int .i64 (rs / 60000 % 60), .int .i64 (rs / 1000 % 60), .int .i64 (rs % 1000)], .int .i64 0]) (by simp [results, Tryd.results43, go_sem]) rfl ⟨y, m, d, ?_, HV.out.1, by rw [HV.out.2, HD.out], ?_⟩
      · unfold dateV
        rw [HE.out.1, HE.out.2.1, HE.out.2.2.1, HE.out.2.2.2]
      · exact (Below.refl _ _).alloc (Nat.le_refl _) _
    · obtain rfl : t = 0 := by omega
      have hday : (n + 62135596800000) / 86400000 - 719162 = q := by omega
      have hrst : (n + 62135596800000) % 86400000 = 0 := by omega
      have hb1 : -10000000 ≤ q := by omega
      have hb2 : q ≤ 10000000 := by omega
      have r1 : (0 : Int) ≤ 0 := by omega
      have r2 : (0 : Int) < 86400000 := by omega
      have hc := Lib.hid (fun W => rcivil_yes q (by have := h3.1; have := h3.2; omega) (by have := h3.1; have := h3.2; omega) W)
      have HD := Lib.hid hday
      have HE := Lib.hid (clock_eq hrst)
      clear hday hrst h3 q1 q2 q3
      go_enter Tryd.func43, Tryd.ntmps43
      go_wp2_with fail
      refine (hc.out _).mono ?_
      rintro e w' ⟨y, m, d, rfl, hv, hnn, rfl⟩
      have HV := Lib.hid (And.intro hv hnn)
      clear hv hnn
      go_wp2
      refine bodyPost_ret (v := .tuple #[.agg #[.int .i64 y, .int .i64 m, .int .i64 d, .int .i64 (0 / 3600000), .int .i64 (0 / 60000 % 60), .int .i64 (0 / 1000 % 60), .int .i64 (0 % 1000)], .int .i64 0]) (by simp [results, Tryd.results43, go_sem]) rfl ⟨y, m, d, ?_, HV.out.1, by rw [HV.out.2, HD.out], ?_⟩
      · unfold dateV
        rw [HE.out.1, HE.out.2.1, HE.out.2.2.1, HE.out.2.2.2]
      · exact (Below.refl _ _).alloc (Nat.le_refl _) _

set_option maxRecDepth 100000 in
set_option maxHeartbeats 4000000 in
theorem rdates_no3 (ms z : Int) (h1 : isT ms) (h2 : isZ z) (h3 : ¬ isT (ms + z * 60000)) (w : World) :
    Calls Tryd.prog 43 #[.int .i64 ms, .int .i64 z] w (dErr 2 w) := by
  obtain ⟨b1, b2⟩ := h1
  obtain ⟨b3, b4⟩ := h2
  obtain ⟨n, hn⟩ : ∃ n, ms + z * 60000 = n := ⟨_, rfl⟩
  have hn1 : -62135596800000 - 86400000 ≤ n := by omega
  have hn2 : n ≤ 253402300799999 + 86400000 := by omega
  rw [hn] at h3
  by_cases hneg : 0 ≤ n
  · obtain ⟨dy, hdy⟩ : ∃ x, n / 86400000 = x := ⟨_, rfl⟩
    obtain ⟨rs, hrs⟩ : ∃ x, n % 86400000 = x := ⟨_, rfl⟩
    have r1 : 0 ≤ rs := by omega
    have r2 : rs < 86400000 := by omega
    have hday : (n + 62135596800000) / 86400000 - 719162 = dy := by omega
    have hrst : (n + 62135596800000) % 86400000 = rs := by omega
    have hb1 : -10000000 ≤ dy := by omega
    have hb2 : dy ≤ 10000000 := by omega
    have hc := Lib.hid (fun W => rcivil_no dy (by
      rcases Int.lt_or_le dy (-719162) with l | l
      · exact .inl l
      · rcases Int.lt_or_le 2932896 dy with l2 | l2
        · exact .inr l2
        · exact absurd ⟨by omega, by omega⟩ h3) W)
    clear hday hrst h3
    go_enter Tryd.func43, Tryd.ntmps43
    go_wp2_with fail
    refine (hc.out _).mono ?_
    rintro e w' ⟨rfl, rfl⟩
    go_wp2
    exact bodyPost_ret (v := .tuple #[zeroDate, .int .i64 2]) (by simp [results, Tryd.results43, go_sem, zeroDate]) rfl ⟨rfl, (Below.refl _ _).alloc (Nat.le_refl _) _⟩
  · have hq := tdiv_neg (n := n) (by omega)
    obtain ⟨q, hdy⟩ : ∃ x, n.tdiv 86400000 = x := ⟨_, rfl⟩
    obtain ⟨t, hrs⟩ : ∃ x, n.tmod 86400000 = x := ⟨_, rfl⟩
    rw [hdy, hrs] at hq
    obtain ⟨q1, q2, q3⟩ := hq
    by_cases ht : t < 0
    · obtain ⟨dy, hd2⟩ : ∃ x, q - 1 = x := ⟨_, rfl⟩
      obtain ⟨rs, hr2⟩ : ∃ x, t + 86400000 = x := ⟨_, rfl⟩
      have r1 : 0 ≤ rs := by omega
      have r2 : rs < 86400000 := by omega
      have hday : (n + 62135596800000) / 86400000 - 719162 = dy := by omega
      have hrst : (n + 62135596800000) % 86400000 = rs := by omega
      have hb1 : -10000000 ≤ dy := by omega
      have hb2 : dy ≤ 10000000 := by omega
      have hc := Lib.hid (fun W => rcivil_no dy (by
        rcases Int.lt_or_le dy (-719162) with l | l
        · exact .inl l
        · rcases Int.lt_or_le 2932896 dy with l2 | l2
          · exact .inr l2
          · exact absurd ⟨by omega, by omega⟩ h3) W)
      clear hday hrst h3 q1 q2 q3
      go_enter Tryd.func43, Tryd.ntmps43
      go_wp2_with fail
      refine (hc.out _).mono ?_
      rintro e w' ⟨rfl, rfl⟩
      go_wp2
      exact bodyPost_ret (v := .tuple #[zeroDate, .int .i64 2]) (by simp [results, Tryd.results43, go_sem, zeroDate]) rfl ⟨rfl, (Below.refl _ _).alloc (Nat.le_refl _) _⟩
    · obtain rfl : t = 0 := by omega
      have hday : (n + 62135596800000) / 86400000 - 719162 = q := by omega
      have hrst : (n + 62135596800000) % 86400000 = 0 := by omega
      have hb1 : -10000000 ≤ q := by omega
      have hb2 : q ≤ 10000000 := by omega
      have r1 : (0 : Int) ≤ 0 := by omega
      have r2 : (0 : Int) < 86400000 := by omega
      have hc := Lib.hid (fun W => rcivil_no q (by
        rcases Int.lt_or_le q (-719162) with l | l
        · exact .inl l
        · rcases Int.lt_or_le 2932896 q with l2 | l2
          · exact .inr l2
          · exact absurd ⟨by omega, by omega⟩ h3) W)
      clear hday hrst h3 q1 q2 q3
      go_enter Tryd.func43, Tryd.ntmps43
      go_wp2_with fail
      refine (hc.out _).mono ?_
      rintro e w' ⟨rfl, rfl⟩
      go_wp2
      exact bodyPost_ret (v := .tuple #[zeroDate, .int .i64 2]) (by simp [results, Tryd.results43, go_sem, zeroDate]) rfl ⟨rfl, (Below.refl _ _).alloc (Nat.le_refl _) _⟩

set_option maxRecDepth 100000 in
set_option maxHeartbeats 4000000 in
theorem rdates_no (ms z : Int) (h : ¬ (isT ms ∧ isZ z ∧ isT (ms + z * 60000))) (w : World) :
    Calls Tryd.prog 43 #[.int .i64 ms, .int .i64 z] w (dErr 2 w) := by
  by_cases a1 : ms < -62135596800000
  · clear h
    go_enter Tryd.func43, Tryd.ntmps43
    go_wp2
    exact bodyPost_ret (v := .tuple #[zeroDate, .int .i64 2]) (by simp [results, Tryd.results43, go_sem, zeroDate]) rfl ⟨rfl, (Below.refl _ _).alloc (Nat.le_refl _) _⟩
  by_cases a2 : 253402300799999 < ms
  · clear h
    go_enter Tryd.func43, Tryd.ntmps43
    go_wp2
    exact bodyPost_ret (v := .tuple #[zeroDate, .int .i64 2]) (by simp [results, Tryd.results43, go_sem, zeroDate]) rfl ⟨rfl, (Below.refl _ _).alloc (Nat.le_refl _) _⟩
  by_cases a3 : z < -1440
  · clear h
    go_enter Tryd.func43, Tryd.ntmps43
    go_wp2
    exact bodyPost_ret (v := .tuple #[zeroDate, .int .i64 2]) (by simp [results, Tryd.results43, go_sem, zeroDate]) rfl ⟨rfl, (Below.refl _ _).alloc (Nat.le_refl _) _⟩
  by_cases a4 : 1440 < z
  · clear h
    go_enter Tryd.func43, Tryd.ntmps43
    go_wp2
    exact bodyPost_ret (v := .tuple #[zeroDate, .int .i64 2]) (by simp [results, Tryd.results43, go_sem, zeroDate]) rfl ⟨rfl, (Below.refl _ _).alloc (Nat.le_refl _) _⟩
  exact rdates_no3 ms z ⟨by omega, by omega⟩ ⟨by omega, by omega⟩ (fun x => h ⟨⟨by omega, by omega⟩, ⟨by omega, by omega⟩, x⟩) w

end Go.Proofs.YtpbfgafkoodeoaaDoor
