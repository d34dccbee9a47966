/- The statements AsciiNumbers and AsciiReturns: the laws return true. -/
import Derived.Test.YtkopibaoolaelaaDoorAwake
import Derived.Test.YtkopibaoolaelaaDoorRefNumber
import Derived.Test.YtkopibaoolaelaaDoorDecimal
namespace Go.Proofs.YtkopibaoolaelaaDoor
open Go.RowKit

theorem pow10_below {w W : World} (h : Pow10 w) (hb : Below w.heap.size w W) : Pow10 W := by
  have hg : Tryd.prog.globalNamed "internal/strconv.uint64pow10" = some 3 := by kernel_rfl
  show W.var? _ _ = _
  have h' : w.var? _ _ = _ := h
  rw [World.var?, hg, Option.bind_some] at h' ⊢
  rcases Nat.lt_or_ge 3 w.heap.size with hlt | hge
  · rw [hb.block _ hlt]; exact h'
  · rw [Array.getElem?_eq_none hge] at h'; cases h'

set_option maxRecDepth 100000 in
set_option maxHeartbeats 1000000 in
theorem lawNumbers (s : ByteArray) (n : Int) (h0 : -9223372036854775808 ≤ n) (h1 : n ≤ 9223372036854775807) (w : World) (hT : Tabs w) (hP : Pow10 w) :
    Calls Tryd.prog 6 #[.string s, .int .i64 n] w fun e w' => e = .returned (.bool true) ∧ Below w.heap.size w w' := by
  have HT := Lib.hid hT
  have HP := Lib.hid hP
  have hnum := fun W => number_any s.data.toList W
  rw [show (ByteArray.mk s.data.toList.toArray) = s by cases s; simp] at hnum
  have hrnum := fun W => rnumber_any s W
  obtain ⟨V, hV⟩ : ∃ V, numV s.data.toList = V := ⟨_, rfl⟩
  obtain ⟨B, hB⟩ : ∃ B, numB s.data.toList = B := ⟨_, rfl⟩
  obtain ⟨L, hL⟩ : ∃ L, Lib.itoa n = L := ⟨_, rfl⟩
  have hdec := fun W => decimal_any n h0 h1 W
  have hrdec := fun W => rdecimal_any n h0 h1 W
  rw [hV, hB] at hnum hrnum
  rw [hL] at hdec hrdec
  have HN := Lib.hid hnum
  have HR := Lib.hid hrnum
  have HD := Lib.hid hdec
  have HE := Lib.hid hrdec
  clear hV hB hL hnum hrnum hdec hrdec hT hP h0 h1
  go_enter Tryd.func6, Tryd.ntmps6
  go_wp2_with (go_at_call 9; refine (awake_any w HT.out).mono ?_; rintro e w1 ⟨rfl, hb1⟩)
  refine (HN.out _).mono ?_
  rintro e w2 ⟨rfl, hb2⟩
  go_wp2_with fail
  refine (HR.out _).mono ?_
  rintro e w3 ⟨rfl, rfl⟩
  have hb12 := hb1.trans (hb2.mono hb1.size)
  go_wp2_with (first
    | (go_at_call 31; refine (HD.out _ (pow10_below HP.out hb12)).mono ?_; rintro e w4 ⟨rfl, hb4⟩)
    | (go_at_call 32; refine (HE.out _).mono ?_; rintro e w5 ⟨rfl, hb5⟩))
  go_ret
  exact ⟨ret_bool (by simp), bstep (bstep hb12 hb4) hb5⟩

/-! ### Number of Decimal -/
theorem digB_dig (r : Nat) (h : r < 10) : digB (UInt8.ofNat (48 + r)).toNat = true := by
  have : (UInt8.ofNat (48 + r)).toNat = 48 + r := by simp; omega
  rw [this]
  simp [digB]
  omega
theorem allD_dec (k : Nat) : ∀ u, u < 10 ^ (k + 1) → allD (Lib.decDigits u) = true ∧ valD (Lib.decDigits u) = u := by
  induction k with
  | zero =>
    intro u hu
    rw [Lib.decDigits_one (by omega)]
    have h2 : (UInt8.ofNat (48 + u)).toNat = 48 + u := by simp; omega
    constructor
    · simp only [allD, List.all_cons, List.all_nil, Bool.and_true]; exact digB_dig u (by omega)
    · simp only [valD, List.foldl_cons, List.foldl_nil, h2]; omega
  | succ k ih =>
    intro u hu
    by_cases h : u < 10
    · exact ih u (Nat.lt_of_lt_of_le h (Nat.le_self_pow (by omega) 10))
    · obtain ⟨h1, h2⟩ := ih (u / 10) (by rw [Nat.pow_succ] at hu; omega)
      have h3 : (UInt8.ofNat (48 + u % 10)).toNat = 48 + u % 10 := by simp; omega
      rw [Lib.decDigits, dif_neg h]
      constructor
      · rw [allD_snoc, h1, digB_dig _ (by omega)]; rfl
      · rw [valD_snoc, h2, h3]; omega
theorem dec_pos (u : Nat) : 1 ≤ (Lib.decDigits u).length := by
  rw [Lib.decDigits]
  split <;> simp
theorem dec_all (u : Nat) (hu : u < 10 ^ 20) : allD (Lib.decDigits u) = true ∧ valD (Lib.decDigits u) = u := allD_dec 19 u hu
theorem digOk_dec (u : Nat) (hu : u < 10 ^ 20) : digOk (Lib.decDigits u) = decide (u < 10 ^ 18) := by
  obtain ⟨h1, h2⟩ := dec_all u hu
  have h3 := dec_pos u
  unfold digOk
  rw [h1, Bool.and_true, Bool.eq_iff_iff, decide_eq_true_iff, decide_eq_true_iff]
  constructor
  · rintro ⟨_, h⟩
    have := valD_bd _ 18 h1 h
    omega
  · intro h
    have := digits_len 17 u h
    omega
theorem isNeg_all (l : List UInt8) (h : allD l = true) : isNeg l = false := by
  cases l with
  | nil => rfl
  | cons c r =>
    simp only [allD, List.all_cons, Bool.and_eq_true] at h
    have h1 : digB c.toNat = true := h.1
    simp only [isNeg, List.head?_cons]
    rw [beq_eq_false_iff_ne]
    intro e
    have e' : c = 45 := Option.some.inj e
    rw [e'] at h1
    revert h1
    decide
theorem num_pos (l : List UInt8) (h : allD l = true) : numB l = digOk l ∧ numV l = if digOk l then (valD l : Int) else 0 := by
  have hn := isNeg_all l h
  unfold numV numB digPart
  rw [hn]
  exact ⟨rfl, rfl⟩
theorem num_itoa (n : Int) (h0 : -9223372036854775808 ≤ n) (h1 : n ≤ 9223372036854775807) :
    numB (Lib.itoa n) = decide (-1000000000000000000 < n ∧ n < 1000000000000000000) ∧ (numB (Lib.itoa n) = true → numV (Lib.itoa n) = n) := by
  by_cases hn : n < 0
  · have hi : Lib.itoa n = 45 :: Lib.decDigits n.natAbs := by unfold Lib.itoa; rw [if_pos hn]
    have hu : n.natAbs < 10 ^ 20 := by omega
    have hok := digOk_dec n.natAbs hu
    have hng : isNeg (45 :: Lib.decDigits n.natAbs) = true := rfl
    have hB : numB (Lib.itoa n) = decide (n.natAbs < 10 ^ 18) := by rw [hi]; unfold numB digPart; rw [hng]; exact hok
    constructor
    · rw [hB, Bool.eq_iff_iff, decide_eq_true_iff, decide_eq_true_iff]; omega
    · intro h
      unfold numV
      rw [h, hi, hng]
      unfold digPart
      rw [hng]
      simp only [if_true, List.tail_cons, (dec_all _ hu).2]
      omega
  · have hi : Lib.itoa n = Lib.decDigits n.toNat := by unfold Lib.itoa; rw [if_neg hn]
    have hu : n.toNat < 10 ^ 20 := by omega
    have hok := digOk_dec n.toNat hu
    obtain ⟨hB, hV⟩ := num_pos _ (dec_all n.toNat hu).1
    rw [hi, hB, hok]
    constructor
    · rw [Bool.eq_iff_iff, decide_eq_true_iff, decide_eq_true_iff]; omega
    · intro h
      rw [hV, hok, h, (dec_all _ hu).2]
      simp only [if_true]
      omega
theorem valD_zeros (z : Nat) (l : List UInt8) : valD (List.replicate z 48 ++ l) = valD l := by
  induction z with
  | zero => rfl
  | succ z ih =>
    have : valD (List.replicate (z + 1) 48 ++ l) = valD (List.replicate z 48 ++ l) := by simp [valD, List.replicate_succ]
    rw [this, ih]
theorem num_zeros (z u : Nat) (hz : z < 10) (hu : u ≤ 999999999) : numB (List.replicate z 48 ++ Lib.decDigits u) = true ∧ numV (List.replicate z 48 ++ Lib.decDigits u) = u := by
  have hd := dec_all u (by omega)
  have hall : allD (List.replicate z 48 ++ Lib.decDigits u) = true := by
    unfold allD at *
    rw [List.all_append, hd.1, Bool.and_true, List.all_replicate]
    split
    · rfl
    · decide
  have hl := digits_len 8 u (by omega)
  have hp := dec_pos u
  have hok : digOk (List.replicate z 48 ++ Lib.decDigits u) = true := by
    unfold digOk
    rw [hall, Bool.and_true, decide_eq_true_iff, List.length_append, List.length_replicate]
    omega
  obtain ⟨hB, hV⟩ := num_pos _ hall
  rw [hB, hV, hok, valD_zeros, hd.2]
  exact ⟨rfl, rfl⟩

theorem zeros_lit : ∀ z : Fin 10, ((ByteArray.mk #[48, 48, 48, 48, 48, 48, 48, 48, 48]).extract 0 z.1).data.toList = List.replicate z.1 48 := by decide +kernel
theorem zeros_str (m z : Nat) (L : List UInt8) (h : m % 10 = z) : (ByteArray.mk #[48, 48, 48, 48, 48, 48, 48, 48, 48]).extract 0 (m % 10) ++ ⟨L.toArray⟩ = ⟨(List.replicate z 48 ++ L).toArray⟩ := by
  rw [h]
  apply bextD
  have := zeros_lit ⟨z, by omega⟩
  rw [ByteArray.data_append, Array.toList_append]
  simp only [] at this
  rw [this]

set_option maxRecDepth 100000 in
set_option maxHeartbeats 1000000 in
theorem lawReturns (n : Int) (c : UInt8) (h0 : -9223372036854775808 ≤ n) (h1 : n ≤ 9223372036854775807) (w : World) (hT : Tabs w) (hP : Pow10 w) :
    Calls Tryd.prog 7 #[.int .i64 n, .int .u8 c.toNat] w fun e w' => e = .returned (.bool true) ∧ Below w.heap.size w w' := by
  have HT := Lib.hid hT
  have HP := Lib.hid hP
  obtain ⟨hB, hV⟩ := num_itoa n h0 h1
  obtain ⟨L, hL⟩ : ∃ L, Lib.itoa n = L := ⟨_, rfl⟩
  have hdec := fun W => decimal_any n h0 h1 W
  have hnum := fun W => number_any L W
  rw [hL] at hdec hB hV
  have HD := Lib.hid hdec
  by_cases hsm : -1000000000000000000 < n ∧ n < 1000000000000000000
  · have hBt : numB L = true := by rw [hB]; simp; exact hsm
    rw [hV hBt, hBt] at hnum
    have HN := Lib.hid hnum
    have hmn : (n != n) = false := by simp
    by_cases hr : 0 ≤ n ∧ n ≤ 999999999
    · have hm := UInt8.toNat_lt c
      obtain ⟨m, hmm⟩ : ∃ m, c.toNat = m := ⟨_, rfl⟩
      rw [hmm] at hm ⊢
      clear hmm
      obtain ⟨z, hzz⟩ : ∃ z, m % 10 = z := ⟨_, rfl⟩
      have hLd : L = Lib.decDigits n.toNat := by rw [← hL]; unfold Lib.itoa; rw [if_neg (by omega)]
      have hnz := num_zeros z n.toNat (by omega) (by omega)
      rw [← hLd] at hnz
      have hnum2 := fun W => number_any (List.replicate z 48 ++ L) W
      rw [hnz.1, hnz.2, show ((n.toNat : Nat) : Int) = n by omega] at hnum2
      have HN2 := Lib.hid hnum2
      have hll : L.length ≤ 9 := by rw [hLd]; exact digits_len 8 _ (by omega)
      have HZ := Lib.hid hzz
      clear hzz
      clear hL hdec hnum hB hV hT hP hBt hnz hLd hnum2
      go_enter Tryd.func7, Tryd.ntmps7
      go_wp2_with (go_at_call 9; refine (awake_any w HT.out).mono ?_; rintro e w1 ⟨rfl, hb1⟩)
      refine (HD.out _ (pow10_below HP.out hb1)).mono ?_
      rintro e w2 ⟨rfl, hb2⟩
      go_wp2_with fail
      refine (HN.out _).mono ?_
      rintro e w3 ⟨rfl, hb3⟩
      have hm2 : (m : Int) < 256 := by omega
      go_wp2_with fail
      rw [zeros_str m z L HZ.out]
      refine (HN2.out _).mono ?_
      rintro e w4 ⟨rfl, hb4⟩
      go_wp2
      go_ret
      exact ⟨rfl, bstep (bstep (bstep hb1 hb2) hb3) hb4⟩
    · clear hL hdec hnum hB hV hT hP hBt
      have hr2 : n < 0 ∨ 999999999 < n := by omega
      clear hr
      rcases hr2 with hr | hr
      all_goals
        go_enter Tryd.func7, Tryd.ntmps7
        go_wp2_with (go_at_call 9; refine (awake_any w HT.out).mono ?_; rintro e w1 ⟨rfl, hb1⟩)
        refine (HD.out _ (pow10_below HP.out hb1)).mono ?_
        rintro e w2 ⟨rfl, hb2⟩
        go_wp2_with fail
        refine (HN.out _).mono ?_
        rintro e w3 ⟨rfl, hb3⟩
        go_wp2
        all_goals
          go_ret
          exact ⟨rfl, bstep (bstep hb1 hb2) hb3⟩
  · have hBf : numB L = false := by rw [hB]; simpa using hsm
    rw [hBf] at hnum
    obtain ⟨V, hVV⟩ : ∃ V, numV L = V := ⟨_, rfl⟩
    rw [hVV] at hnum
    have HN := Lib.hid hnum
    clear hL hdec hnum hB hV hT hP hBf hVV
    have hr2 : n ≤ -1000000000000000000 ∨ 1000000000000000000 ≤ n := by omega
    clear hsm
    rcases hr2 with hr | hr
    all_goals
      go_enter Tryd.func7, Tryd.ntmps7
      go_wp2_with (go_at_call 9; refine (awake_any w HT.out).mono ?_; rintro e w1 ⟨rfl, hb1⟩)
      refine (HD.out _ (pow10_below HP.out hb1)).mono ?_
      rintro e w2 ⟨rfl, hb2⟩
      go_wp2_with fail
      refine (HN.out _).mono ?_
      rintro e w3 ⟨rfl, hb3⟩
      go_wp2
      all_goals
        go_ret
        exact ⟨rfl, bstep (bstep hb1 hb2) hb3⟩
end Go.Proofs.YtkopibaoolaelaaDoor
