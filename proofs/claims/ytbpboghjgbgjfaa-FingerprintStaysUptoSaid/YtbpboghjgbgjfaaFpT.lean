/- FingerprintStays: the law. -/
import Derived.Test.YtbpboghjgbgjfaaFpC
import Derived.Test.YtbpboghjgbgjfaaFpR
import Derived.Deep.DeepCutAuto
import Derived.Deep.QuietTactic
import Derived.BigQuiet
namespace Go.Proofs.Ytbpboghjgbgjfaa
open Go.RowKit

def numP (k : Nat) (l : List UInt8) : Int := if k ≤ l.length then numK l k else 0
theorem number_both {v : Value} {l : List UInt8} {k : Nat} (W : World) (h : BySl W v l) (hk : 1 ≤ k) (hk2 : k ≤ 64) : Calls Try.prog 7 #[v, .int .i64 (k : Int)] W fun e w' => e = .returned (.tuple #[.int .i64 (numP k l), .bool (decide (k ≤ l.length))]) ∧ W = w' := by
  by_cases hl : k ≤ l.length
  · refine (number_yes v l k W h hk hk2 hl).mono fun e w' ⟨h1, h2⟩ => ⟨?_, h2⟩
    rw [h1, decide_eq_true hl]
    unfold numP
    rw [if_pos hl]
  · obtain ⟨a, c, rfl, -⟩ := h.slice
    refine (number_no a l.length c k W (.inr (.inr (by omega)))).mono fun e w' ⟨h1, h2⟩ => ⟨?_, h2⟩
    rw [h1, decide_eq_false hl]
    unfold numP
    rw [if_neg hl]
theorem kb_bufP {B : Nat} {w : World} {v : Value} {l : List UInt8} (h : BufAt B w v (byV l)) (hl : l.length ≤ 100000000) : KB w v l := by
  obtain ⟨g, cap, h1, h2, h3, h4, h5, h6, cs, fz, h7⟩ := h
  rw [byV_len] at h1 h4
  exact ⟨g, cap, cs, fz, h1, h4, hl, h7, fun j u hj => by rw [← Lib.cell_of_heap h7 j]; exact h6 j u hj⟩
def chP (cdv : Value) (n : Int) : Array Value := #[.int .i64 1, .string bsP, .string ⟨#[]⟩, cdv, .int .i64 0, .int .i64 5, .string bsP, .string bsQ, .slice none 0 0, .int .i64 0, .int .i64 6, .string bsQ, .string ⟨#[]⟩, .slice none 0 0, .int .i64 n]
theorem run_P (W : World) (cdv : Value) (l : List UInt8) (n : Int) (z lb : Nat) (hl : l.length ≤ 60000) (n1 : 1 ≤ n) (n2 : n ≤ 1000000) (hz : (z : Int) = max ((l.length : Int) - n) 0) (hk : KB W cdv l) (hb : BkAt lb 39 (chP cdv n) W) :
    Calls Try.prog 8 #[.agg #[.slice none 0 0, .slice none 0 0, .slice none 0 0], .slice (some ⟨lb, 0, none⟩) 3 3] W (RunOut 3 (fun _ => 0) (StP cdv l z) W) :=
  run_any 3 (CP cdv n) (fun _ => 0) _ (hist_P cdv l n z hl n1 n2 hz) lb _ _ _ W ⟨⟨[], rfl, fs_empty W⟩, hk, rfl⟩ (by decide) hb.lt (fun i hi => by
    have h2 : i = 0 ∨ i = 1 ∨ i = 2 := (by omega)
    rcases h2 with rfl | rfl | rfl
    · exact ⟨hb.cell 0, hb.cell 1, hb.cell 2, hb.cell 3, hb.cell 4⟩
    · exact ⟨hb.cell 5, hb.cell 6, hb.cell 7, hb.cell 8, hb.cell 9⟩
    · exact ⟨hb.cell 10, hb.cell 11, hb.cell 12, hb.cell 13, hb.cell 14⟩) (fun i hi => by
    have h2 : i = 0 ∨ i = 1 ∨ i = 2 := (by omega)
    rcases h2 with rfl | rfl | rfl
    · exact hk.slice
    · exact ⟨_, _, _, rfl⟩
    · exact ⟨_, _, _, rfl⟩)
set_option maxRecDepth 100000 in
set_option linter.unusedSimpArgs false in
set_option maxHeartbeats 1000000 in
theorem law_stays (cv mv : Value) (lc lm : List UInt8) (sz : Nat) (w : World) (hc : ArgB w w.heap.size cv lc) (hm : ArgB w w.heap.size mv lm) (hM : lm.length ≤ 1048576) (hsz : sz < 256) :
    Calls Try.prog 3 #[cv, mv, .int .u8 (sz : Int)] w fun e w' => e = .returned (.bool true) ∧ Below w.heap.size w w' := by
  have haw := awake8_any w
  have H := Lib.hid (And.intro hc (And.intro (byS_arg hm) haw))
  obtain ⟨ca, cn, cc, rfl⟩ : ∃ a n c, cv = .slice a n c := by
    rcases hc with ⟨rfl, -⟩ | ⟨ad, cap, rfl, -⟩
    · exact ⟨_, _, _, rfl⟩
    · exact ⟨_, _, _, rfl⟩
  obtain ⟨ma, mc, rfl, -⟩ := (byS_arg hm).slice
  clear hc hm haw
  have z1 : (sz : Int) ≤ 255 := by omega
  obtain ⟨k, hk, hk1, hk2⟩ : ∃ k : Nat, (1 : Int) + (sz : Int) % 20 = (k : Int) ∧ 1 ≤ k ∧ k ≤ 20 := ⟨1 + sz % 20, by omega, by omega, by omega⟩
  have HK := Lib.hid hk
  clear hk
  go_enter Try.func3, Try.ntmps3
  go_wp2_with fail
  refine (H.out.2.2).mono ?_
  rintro e w1 ⟨rfl, hb1⟩
  have HA := Lib.hid (And.intro (H.out.2.1.below hb1) (And.intro (H.out.1) hb1))
  clear hb1
  go_wp2_with fail
  rw [HK.out]
  refine (new_any _ lc 60 w1 (HA.out.2.1.below HA.out.2.2) (by omega)).mono ?_
  rintro e w2 ⟨rfl, hm, hb2⟩
  obtain ⟨C, hC⟩ : ∃ C, w1.heap.size = C := ⟨_, rfl⟩
  rw [hC] at hm
  have HC := Lib.hid (And.intro hm (And.intro hb2 hC))
  clear hm hb2
  simp only [hC]
  clear hC
  go_wp2_with fail
  refine (data_any C (sz : Int) 2 w2 HC.out.1 (by omega) (by omega) (by omega) (by omega)).mono ?_
  rintro e w4 ⟨⟨v, L, rfl, hbuf, ⟨l, rfl⟩, h15, hL⟩, hm4, hf4⟩
  rw [List.length_map] at h15 hL
  have hS := byS_buf hbuf
  have hK := kb_bufP hbuf (by omega)
  have h2 : Below w1.heap.size w1 w4 := by
    have h4 := HC.out.2.2
    have h5 := HC.out.2.1
    exact h5.trans ((hf4.toBelow (by have := HC.out.1.lt; omega)).mono (by omega))
  have hbw : Below w.heap.size w w4 := bl_trans' HA.out.2.2 h2
  have hmS := HA.out.1.below h2
  obtain ⟨va, vc, rfl, hvc⟩ := hS.slice
  have hnum := number_both w4 hS hk1 (by omega)
  obtain ⟨ok, hok⟩ : ∃ ok, decide (k ≤ l.length) = ok := ⟨_, rfl⟩
  obtain ⟨x, hx⟩ : ∃ x, numP k l = x := ⟨_, rfl⟩
  rw [hok, hx] at hnum
  obtain ⟨z, hz⟩ : ∃ z : Nat, (z : Int) = max ((l.length : Int) - (k : Int)) 0 := ⟨l.length - k, by omega⟩
  have HE := Lib.hid (And.intro hS (And.intro hK (And.intro hbw (And.intro hmS (And.intro hz (And.intro hok (And.intro hx (And.intro h15 (And.intro hL hnum)))))))))
  clear hS hK hbw hmS h2 hm4 hf4 hbuf HC HA H hz hok hx h15 hL hnum
  go_wp2_with fail
  refine (HE.out.2.2.2.2.2.2.2.2.2).mono ?_
  rintro e w5 ⟨rfl, rfl⟩
  go_wp2_with (at_builtin; refine wpList_append_nilS rfl (.const (.slice none 0 0)) (.tmp 34) rfl rfl _ rfl l.length _ HE.out.1.src (by have := HE.out.2.2.2.2.2.2.2.1; omega) (by have := HE.out.2.2.2.2.2.2.2.2.1; omega) ?_)
  intro v5 w5 hbuf5 hbl5
  obtain ⟨g5, c5, rfl, hc5⟩ := hbuf5.slice
  have HB5 := Lib.hid (And.intro hbuf5 (And.intro hbl5 (And.intro hbl5.size ((HE.out.2.2.2.1.below hbl5).src))))
  clear hbuf5 hbl5
  go_wp2_with (at_builtin; refine wpList_append_bufS rfl (.tmp 35) (.tmp 36) rfl rfl HB5.out.1 HB5.out.2.2.1 _ rfl lm.length _ HB5.out.2.2.2 (by rw [byV_len]; have := HE.out.2.2.2.2.2.2.2.2.1; omega) ?_)
  intro v6 w6 hbuf6 q6 hq6 hg6
  rw [byV_app] at hbuf6
  have hb6 := bl_buf HB5.out.2.1 ⟨q6, hq6, hg6⟩
  have hS6 := byS_bufV hbuf6
  have hnum6 := number_both w6 hS6 hk1 (by omega)
  obtain ⟨g6, c6, rfl, -⟩ := hbuf6.slice
  obtain ⟨ok2, hok2⟩ : ∃ ok, decide (k ≤ (l ++ lm).length) = ok := ⟨_, rfl⟩
  obtain ⟨x2, hx2⟩ : ∃ x, numP k (l ++ lm) = x := ⟨_, rfl⟩
  rw [hok2, hx2] at hnum6
  have hsame : ok = true → ok2 = true ∧ x2 = x := fun e => by
    have h1 : k ≤ l.length := of_decide_eq_true (HE.out.2.2.2.2.2.1.trans e)
    have h2 : k ≤ (l ++ lm).length := by rw [List.length_append]; omega
    refine ⟨by rw [← hok2, decide_eq_true h2], ?_⟩
    rw [← hx2, ← HE.out.2.2.2.2.2.2.1]
    unfold numP
    rw [if_pos h1, if_pos h2]
    exact numK_take _ _ k fun i hi => by rw [List.getElem?_append_left (by omega)]
  have H6 := Lib.hid (And.intro hnum6 (And.intro hsame hb6))
  clear hbuf6 hq6 hg6 hb6 hS6 hnum6 hok2 hx2 hsame HB5
  go_wp2_with fail
  refine H6.out.1.mono ?_
  rintro e w7 ⟨rfl, rfl⟩
  go_wp2_with fail
  refine (fsNew_any _).mono ?_
  rintro e w8 ⟨rfl, hb8⟩
  have hbn := below_new w8 (.cells (chP (.slice va l.length vc) (k : Int)) 39)
  have hb69 := bl_trans' H6.out.2.2 (bl_trans' hb8 hbn)
  have hrun := run_P (w8.alloc (.cells (chP (.slice va l.length vc) (k : Int)) 39)) _ l (k : Int) z w8.heap.size (by have := HE.out.2.2.2.2.2.2.2.2.1; omega) (by omega) (by omega) HE.out.2.2.2.2.1 (HE.out.2.1.below hb69) (BkAt.new _ _ _)
  have HR := Lib.hid (And.intro hrun (bl_trans' HE.out.2.2.1 hb69))
  clear hrun hbn hb8 hb69
  go_wp2_with fail
  refine HR.out.1.mono ?_
  rintro e w9 ⟨nv, fv, ov, eb, rfl, ⟨⟨fs, ⟨dv, dv2, rfl, hd, hd2⟩, hF⟩, -, rfl⟩, hbe, hb9⟩
  obtain ⟨na, nm, nc, rfl⟩ := row_slice hF.n
  obtain ⟨fa, fm, fc, rfl⟩ := row_slice hF.f
  have hsn : SnAt l z (.slice na nm nc) (.slice fa fm fc) w9 := ⟨dv, dv2, hF, hd, hd2⟩
  have H9 := Lib.hid (And.intro hsn (And.intro (bl_trans' HR.out.2 hb9) hbe))
  clear hsn hF hd hd2 hbe hb9 HR
  have hbn := below_new w9 (.cells #[.slice na nm nc, .slice fa fm fc, .slice none 0 0] 33)
  have hscan := scan_P (H9.out.1.below hbn) (by have := HE.out.2.2.2.2.2.2.2.1; omega) (z := z) (k := k) (by have := HE.out.2.2.2.2.1; omega) hk1 (by omega) ok (fun e => by
    have h1 : k ≤ l.length := of_decide_eq_true (HE.out.2.2.2.2.2.1.trans e)
    have h2 := HE.out.2.2.2.2.1
    omega) (fun e => by
    have h1 : ¬ k ≤ l.length := of_decide_eq_false (HE.out.2.2.2.2.2.1.trans e)
    omega)
  have HS := Lib.hid (And.intro hscan (And.intro (bl_trans' H9.out.2.1 hbn) (H9.out.2.2.below hbn)))
  clear hscan hbn
  go_wp2_with fail
  refine HS.out.1.mono ?_
  rintro e w10 ⟨⟨p, m, c, rfl, hyes⟩, hb10⟩
  have hbe := HS.out.2.2.below hb10
  have hw10 := bl_trans' HS.out.2.1 hb10
  have HZ := Lib.hid (show ∀ q, Below w.heap.size w (w10.drewN q) from fun q => bl_trans' hw10 ⟨rfl, rfl, rfl, Nat.le_refl _, fun _ _ => rfl⟩)
  have e2 : w10.cell? ⟨eb, 2, none⟩ = some (.int .i64 0) := by rw [hbe.cell 2]; rfl
  have hd1 : decide ((k : Int) ≤ (l.length : Int)) = ok := by rw [← HE.out.2.2.2.2.2.1]; simp
  have hx := HE.out.2.2.2.2.2.2.1
  have hsame := H6.out.2.1
  have hok := HE.out.2.2.2.2.2.1
  obtain ⟨N, hN⟩ : ∃ N, l.length = N := ⟨_, rfl⟩
  rw [hN] at hd1 hvc ⊢
  have hd1n : decide (k ≤ N) = ok := by rw [← hN]; exact hok
  clear hbe hw10 hb10 HS H9
  cases ok with
  | false =>
    have HY := Lib.hid (And.intro hx (And.intro hsame hok))
    clear hx hsame hyes hok
    go_wp2_with fail
    simp only [List.append]
    go_quiet (fail)
    go_wp2
    go_ret
    exact ⟨rfl, HZ.out _⟩
  | true =>
    obtain ⟨rfl, rfl⟩ := hsame rfl
    obtain ⟨rfl, g, s0, s1, rfl, c0, c2, c3, c5, hs⟩ := hyes rfl
    have hnk : numK l k = x2 := by
      rw [← hx]; unfold numP; rw [if_pos (of_decide_eq_true hok)]
    rw [hnk] at c0 c3
    have hd2 : decide (s1 ≤ s0) = true := decide_eq_true hs
    have hd3 : (x2 == x2) = true := beq_self_eq_true x2
    have HY := Lib.hid (And.intro hx (And.intro hs (And.intro hok hnk)))
    clear hx hok hs hnk hsame hyes
    go_wp2_with fail
    simp only [List.append]
    go_quiet (fail)
    go_wp2
    go_ret
    exact ⟨rfl, HZ.out _⟩
end Go.Proofs.Ytbpboghjgbgjfaa
