/- The contract of the reference's Civil. -/
import Derived.Test.YtofomlbhbbhdjaaDoorCalRd
namespace Go.Proofs.YtofomlbhbbhdjaaDoor
open Go.RowKit

theorem rcivil_valid {k y m : Int} (hy : InYear (k + 719162) y) (h1 : 1 ≤ m) (h2 : m ≤ 12) (hlo : Cal.cum y m ≤ k + 719162 - Cal.bef y) (hhi : k + 719162 - Cal.bef y - Cal.cum y m < Cal.len y m) :
    Cal.valid y m (k + 719162 - Cal.bef y - Cal.cum y m + 1) ∧ Cal.num y m (k + 719162 - Cal.bef y - Cal.cum y m + 1) = k :=
  ⟨⟨hy.1, hy.2.1, h1, h2, by omega, by omega⟩, by unfold Cal.num; omega⟩

set_option maxRecDepth 100000 in
set_option maxHeartbeats 4000000 in
theorem rcivil_yes (k : Int) (h0 : -719162 ≤ k) (h1 : k ≤ 2932896) (w : World) :
    Calls Tryd.prog 63 #[.int .i64 k] w (CivilOut k w) := by
  have d1 : (-719162 : Int) ≤ k := h0
  go_enter Tryd.func63, Tryd.ntmps63
  go_wp2_with fail
  refine (rb1970 _).mono ?_
  rintro e w' ⟨rfl, rfl⟩
  go_wp2_with fail
  refine (rb10000 _).mono ?_
  rintro e w' ⟨rfl, rfl⟩
  go_wp2_with fail
  refine (rb1970 _).mono ?_
  rintro e w' ⟨rfl, rfl⟩
  go_wp2_with fail
  refine (rb1970 _).mono ?_
  rintro e w' ⟨rfl, rfl⟩
  go_wp2_with fail
  go_loop [7, 8, 9] (fun t u v => ∃ lo hi : Int, 1 ≤ lo ∧ lo ≤ hi ∧ hi ≤ 9999 ∧ t = .int .i64 lo ∧ u = .int .i64 hi ∧ Cal.bef lo ≤ k + 719162 ∧ k + 719162 < Cal.bef (hi + 1)) (fun t u v => (intOf u - intOf t).toNat)
  case atStart => exact ⟨1, 9999, by decide, by decide, by decide, rfl, rfl, by rw [Cal.bef_1]; omega, by have := Cal.bef_10000; rw [show (9999 : Int) + 1 = 10000 from rfl]; omega⟩
  case round =>
    obtain ⟨lo, hi, hl1, hl2, hl3, rfl, rfl, hb1, hb2⟩ := hrel
    by_cases hlt : lo < hi
    · obtain ⟨q, hq⟩ : ∃ q, (lo + hi + 1) / 2 = q := ⟨_, rfl⟩
      have hq1 : lo < q := by omega
      have hq2 : q ≤ hi := by omega
      have hbq := rbefore_any q (by omega) (by omega) w
      have hbb := bef_bd (y := q) (by omega) (by omega)
      obtain ⟨r, hr⟩ : ∃ r, Cal.bef q = r := ⟨_, rfl⟩
      rw [hr] at hbq hbb
      have HQ := Lib.hid hbq
      have HR := Lib.hid hr
      have HB := Lib.hid (And.intro hb1 hb2)
      clear hbq hr hb1 hb2
      by_cases hle : r ≤ k + 719162
      · go_wp2_with fail
        refine (HQ.out).mono ?_
        rintro e w' ⟨rfl, rfl⟩
        go_wp2
        go_round
        case rel => exact ⟨q, hi, by omega, hq2, hl3, rfl, rfl, by rw [HR.out]; exact hle, HB.out.2⟩
        case measure => simp [intOf]; omega
      · go_wp2_with fail
        refine (HQ.out).mono ?_
        rintro e w' ⟨rfl, rfl⟩
        go_wp2
        go_round
        case rel => exact ⟨lo, q - 1, hl1, by omega, by omega, rfl, rfl, HB.out.1, by rw [show q - 1 + 1 = q by omega, HR.out]; omega⟩
        case measure => simp [intOf]; omega
    · obtain rfl : lo = hi := by omega
      have hy : InYear (k + 719162) lo := ⟨hl1, hl3, hb1, hb2⟩
      have hbl := rbefore_any lo hl1 (by omega) w
      have hbd := bef_bd (y := lo) hl1 (by omega)
      have hs := Cal.bef_succ lo
      have hsp : Cal.bef (lo + 1) ≤ Cal.bef lo + 366 := by rw [hs]; split <;> omega
      have hs12 := Cal.cum_last lo
      have HS := Lib.hid (And.intro hs hs12)
      have HV := Lib.hid (fun m => rcivil_valid (k := k) (y := lo) (m := m) hy)
      have HLN := Lib.hid (fun m => rlength_any lo m (by omega) (by omega) w)
      have b5 : 0 ≤ k + 719162 - Cal.bef lo ∧ k + 719162 - Cal.bef lo ≤ 366 := by omega
      obtain ⟨r, hr⟩ : ∃ r, Cal.bef lo = r := ⟨_, rfl⟩
      rw [hr] at hbl hbd b5 HV HS
      have HB2 := Lib.hid hb2
      have HBL := Lib.hid hbl
      have HR := Lib.hid hr
      clear hb1 hb2 hy hbl hs hsp hs12 hr
      go_wp2_with fail
      refine (HBL.out).mono ?_
      rintro e w' ⟨rfl, rfl⟩
      go_wp2_with fail
      obtain ⟨n, hn⟩ : ∃ x, k + 719162 - r = x := ⟨_, rfl⟩
      rw [hn] at b5 HV ⊢
      have HN := Lib.hid hn
      clear hn
      go_loop [6, 10] (fun t u => ∃ m : Int, 1 ≤ m ∧ m ≤ 12 ∧ u = .int .i64 m ∧ t = .int .i64 (n - Cal.cum lo m) ∧ Cal.cum lo m ≤ n) (fun _ u => (12 - intOf u).toNat)
      case atStart => exact ⟨1, by omega, by omega, rfl, by rw [Cal.cum_one]; simp, by rw [Cal.cum_one]; omega⟩
      case round =>
        obtain ⟨m, hm1, hm2, rfl, rfl, hm3⟩ := hrel
        have cb := cum_bd (y := lo) (m := m)
        have lb := len_bd lo m
        have hln := HLN.out m
        have hcs := cum_len (y := lo) hm1 hm2
        have HCS := Lib.hid hcs
        have hlast : m = 12 → n - Cal.cum lo m < Cal.len lo m := fun e => by
          subst e
          have h1 := HS.out.1
          have h2 := HS.out.2
          have h3 := HB2.out
          have h4 := HN.out
          have h5 := Cal.len_twelve lo
          omega
        have HLA := Lib.hid hlast
        clear hcs hlast
        obtain ⟨C, hC⟩ : ∃ x, Cal.cum lo m = x := ⟨_, rfl⟩
        obtain ⟨E, hE⟩ : ∃ x, Cal.len lo m = x := ⟨_, rfl⟩
        rw [hC] at cb hm3 HCS HLA ⊢
        rw [hE] at lb hln HCS HLA
        have HK := Lib.hid hln
        have HC := Lib.hid hC
        have HE := Lib.hid hE
        clear hln hC hE
        by_cases hge : E ≤ n - C
        · have hm12 : m < 12 := by
            rcases Int.lt_or_le m 12 with l | l
            · exact l
            · have := HLA.out (by omega); omega
          go_wp2_with fail
          refine (HK.out).mono ?_
          rintro e w' ⟨rfl, rfl⟩
          go_wp2_with fail
          refine (HK.out).mono ?_
          rintro e w' ⟨rfl, rfl⟩
          go_wp2
          go_round
          case rel => exact ⟨m + 1, by omega, by omega, rfl, by congr 1; have := HCS.out; omega, by have := HCS.out; omega⟩
          case measure => simp [intOf]; omega
        · go_wp2_with fail
          refine (HK.out).mono ?_
          rintro e w' ⟨rfl, rfl⟩
          go_wp2
          have hv := HV.out m hm1 hm2 (by rw [HC.out]; exact hm3) (by rw [HC.out, HE.out]; omega)
          rw [HC.out] at hv
          exact bodyPost_ret (v := .tuple #[.int .i64 lo, .int .i64 m, .int .i64 (n - C + 1), .bool true]) (by simp [results, Tryd.results63, go_sem]) rfl ⟨lo, m, _, rfl, hv.1, hv.2, rfl⟩

set_option maxRecDepth 100000 in
set_option maxHeartbeats 1000000 in
theorem rcivil_no (k : Int) (h : k < -719162 ∨ 2932896 < k) (w : World) :
    Calls Tryd.prog 63 #[.int .i64 k] w fun e w' => e = .returned (.tuple #[.int .i64 0, .int .i64 0, .int .i64 0, .bool false]) ∧ w = w' := by
  rcases h with h | h
  · go_enter Tryd.func63, Tryd.ntmps63
    go_wp2_with fail
    refine (rb1970 _).mono ?_
    rintro e w' ⟨rfl, rfl⟩
    go_wp2
    exact bodyPost_ret (v := .tuple #[.int .i64 0, .int .i64 0, .int .i64 0, .bool false]) (by simp [results, Tryd.results63, go_sem]) rfl ⟨rfl, rfl⟩
  · have h' : ¬ k < -719162 := by omega
    have h'' : (2932897 : Int) ≤ k := by omega
    go_enter Tryd.func63, Tryd.ntmps63
    go_wp2_with fail
    refine (rb1970 _).mono ?_
    rintro e w' ⟨rfl, rfl⟩
    go_wp2_with fail
    refine (rb10000 _).mono ?_
    rintro e w' ⟨rfl, rfl⟩
    go_wp2_with fail
    refine (rb1970 _).mono ?_
    rintro e w' ⟨rfl, rfl⟩
    go_wp2
    exact bodyPost_ret (v := .tuple #[.int .i64 0, .int .i64 0, .int .i64 0, .bool false]) (by simp [results, Tryd.results63, go_sem]) rfl ⟨rfl, rfl⟩
end Go.Proofs.YtofomlbhbbhdjaaDoor
