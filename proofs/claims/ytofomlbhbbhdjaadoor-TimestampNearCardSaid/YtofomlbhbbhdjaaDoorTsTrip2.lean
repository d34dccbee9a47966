/- What the forms read of a time without a year, and of a time without a date. -/
import Derived.Test.YtofomlbhbbhdjaaDoorTsForm3
import Derived.Test.YtofomlbhbbhdjaaDoorTsLawR
namespace Go.Proofs.YtofomlbhbbhdjaaDoor

theorem fracC_bad {s : ByteArray} {p : CS} (h : p.bad = true) : (fracC s p).bad = true := by
  have e : fracB s p = false := by unfold fracB; simp [h]
  rw [(frac_no e).1]; exact h
theorem clockC_bad {s : ByteArray} {p : CS} (h : p.bad = true) : (clockC s p).bad = true :=
  fracC_bad (digitsC_bad (expectC_bad (digitsC_bad (expectC_bad (digitsC_bad h)))))
theorem zoneC_bad {s : ByteArray} {p : CS} (h : p.bad = true) : (zoneC s p).bad = true := by
  have e : (zon3 s p).bad = true := digitsC_bad (by unfold zon2; rw [takeC_bad]; exact digitsC_bad h)
  unfold zoneC zonB
  split
  · exact h
  · rw [e]; simp [h]
theorem full_bad {s : ByteArray} (h : (fu1 s).bad = true) : (fu8 s).bad = true := by
  have h5 : (fu5 s).bad = true := digitsC_bad (expectC_bad (digitsC_bad (expectC_bad h)))
  have h6 : (fu6 s).bad = true := by
    unfold fu6; split
    · exact h5
    · exact expectC_bad h5
  exact zoneC_bad (clockC_bad h6)
theorem sys_bad {s : ByteArray} (h : (sy1 s).bad = true) : (sy6 s).bad = true := by
  have h3 : (sy3 s).bad = true := by
    have h2 : (sy2 s).bad = true := expectC_bad h
    unfold sy3; rw [takeC_bad]; exact h2
  exact clockC_bad (expectC_bad (digitsC_bad h3))
theorem sla_bad {s : ByteArray} (h : (sl2 s).bad = true) : (sl7 s).bad = true := by
  have h4 : (sl4 s).bad = true := expectC_bad (digitsC_bad h)
  have h5 : (sl5 s).bad = true := by unfold sl5 yearC; simp [h4]
  exact clockC_bad (expectC_bad h5)
theorem full_no {s : ByteArray} (h : dRun s 4 0 < 4) : (fu8 s).bad = true := full_bad (by unfold fu1 digitsC; simp [h])

/-- A month's name as the law writes it, a blank, a day, a blank, a time of day. -/
def sysL (mn : List UInt8) (d h i c : Nat) : List UInt8 := mn ++ (32 :: (Lib.decDigits d ++ (32 :: clkL h i c [])))
theorem dec_head {d : Nat} (hd : d < 100) : ∃ c r, Lib.decDigits d = c :: r ∧ digB c.toNat = true := by
  have h := (allD_dec 1 d (by omega)).1
  cases hl : Lib.decDigits d with
  | nil =>
    have := Lib.decDigits_length d
    rw [hl] at this
    have := Lib.nDigits_pos d
    simp at *
    omega
  | cons c r =>
    rw [hl] at h
    simp only [allD, List.all_cons, Bool.and_eq_true] at h
    exact ⟨c, r, rfl, h.1⟩
theorem rd_end_frac {s : ByteArray} {p : CS} (h : Rd s p []) : Rd s (fracC s p) [] ∧ fracV s p = 0 :=
  rd_frac0 h (by rw [byN_end h]; omega) (by rw [byN_end h]; omega)
theorem sys_read {s : ByteArray} {mn : List UInt8} {d h i c m : Nat} (hs : s.data.toList = sysL mn d h i c) (hmn : mn.length = 3) (hm : monthN mn = m) (hm0 : m ≠ 0) (hd : d < 100) (hh : h < 100) (hi : i < 100) (hc : c < 100) :
    (sy6 s).bad = false ∧ syD s 0 = ⟨0, m, d, h, i, c, 0⟩ := by
  have h0 : Rd s ⟨0, false⟩ (sysL mn d h i c) := ⟨rfl, Nat.zero_le _, by rw [← hs]; rfl⟩
  have hsz := rd_size h0
  have hq : monQ s ⟨0, false⟩ = 3 := by
    unfold monQ
    have : 3 ≤ s.size := by rw [← hsz]; simp [sysL, hmn]; try omega
    simp; omega
  have hname : (s.extract 0 3).data.toList = mn := by
    rw [extract_list, List.drop_zero, hs]
    unfold sysL
    exact List.take_left' hmn
  have hcm : cmonN s ⟨0, false⟩ = m := by
    unfold cmonN
    rw [hq]
    show monthN (s.extract 0 3).data.toList = m
    rw [hname, hm]
  have h1 : Rd s (sy1 s) (32 :: (Lib.decDigits d ++ (32 :: clkL h i c []))) := by
    have e : sy1 s = ⟨0 + 3, false⟩ := by
      unfold sy1 monthC
      rw [hcm, hq]
      simp [hm0]
    rw [e]
    exact rd_skip (p := ⟨0, false⟩) h0 hmn
  have h2 := rd_expect h1 (n := 32) rfl
  obtain ⟨x, r, hx, hxd⟩ := dec_head hd
  have h3 : Rd s (sy3 s) (Lib.decDigits d ++ (32 :: clkL h i c [])) := by
    have hb : byN s (sy2 s).pos = x.toNat := by
      have h2' := h2
      rw [hx, List.cons_append] at h2'
      exact byN_head h2'
    have e : sy3 s = sy2 s := by
      unfold sy3 takeC
      rw [hb, if_neg (by intro e; rw [e] at hxd; simp [digB] at hxd)]
    rw [e]; exact h2
  obtain ⟨a1, a2⟩ := allD_dec 1 d (by omega)
  have hl1 : 1 ≤ (Lib.decDigits d).length := by rw [hx]; simp
  have hl2 := digits_len 1 d (by omega)
  have hb : (Lib.decDigits d).length = 2 ∨ ((Lib.decDigits d).length < 2 ∧ noDig (32 :: clkL h i c [])) := by
    by_cases e : (Lib.decDigits d).length = 2
    · exact .inl e
    · exact .inr ⟨by omega, noDig_cons (by decide)⟩
  obtain ⟨h4, v4⟩ := rd_digits (a := 1) (b := 2) h3 a1 rfl hb hl1
  have h5 := rd_expect h4 (n := 32) rfl
  obtain ⟨h6, u1, u2, u3⟩ := rd_clk h5 hh hi hc
  obtain ⟨h7, u4⟩ := rd_end_frac h6
  refine ⟨h7.1, ?_⟩
  unfold syD
  have w4 : numC s (sy3 s).pos 2 = d := by rw [v4, a2]
  have w1 : clkH s (sy5 s) = h := u1
  have w2 : clkI s (sy5 s) = i := u2
  have w3 : clkS s (sy5 s) = c := u3
  have w5 : clkM s (sy5 s) = 0 := u4
  rw [hcm, w4, w1, w2, w3, w5]
  rfl
theorem sys_notfull {s : ByteArray} {mn : List UInt8} {d h i c : Nat} (hs : s.data.toList = sysL mn d h i c) {x : UInt8} {r : List UInt8} (hx : mn = x :: r) (hd : digB x.toNat = false) : (fu8 s).bad = true := by
  have h0 : Rd s ⟨0, false⟩ (x :: (r ++ (32 :: (Lib.decDigits d ++ (32 :: clkL h i c []))))) := ⟨rfl, Nat.zero_le _, by rw [← List.cons_append, ← hx]; exact hs⟩
  have hb : byN s 0 = x.toNat := byN_head h0
  refine full_no ?_
  unfold dRun
  rw [hb, hd, if_neg (by simp)]
  omega

theorem clk_run {s : ByteArray} {h i c : Nat} (hs : s.data.toList = clkL h i c []) (hh : h < 100) : Rd s ⟨0, false⟩ (clkL h i c []) ∧ ∀ b, 2 ≤ b → dRun s b 0 = 2 := by
  have h0 : Rd s ⟨0, false⟩ (clkL h i c []) := ⟨rfl, Nat.zero_le _, by rw [← hs]; rfl⟩
  refine ⟨h0, fun b hb => ?_⟩
  obtain ⟨a1, a2, a3⟩ := pad_all (v := h) (n := 2) (by omega) (by omega)
  exact (rd_run (p := ⟨0, false⟩) h0 a1 a3 (by rcases Nat.lt_or_ge 2 b with l | l; exact .inr ⟨l, noDig_cons (by decide)⟩; exact .inl (by omega))).1
theorem clk_read {s : ByteArray} {h i c : Nat} (hs : s.data.toList = clkL h i c []) (hh : h < 100) (hi : i < 100) (hc : c < 100) :
    (fu8 s).bad = true ∧ (sy6 s).bad = true ∧ (sl7 s).bad = true ∧ epE s = 20 ∧ (ckC s).bad = false ∧ (ckC s).pos = s.size ∧ ckD s = ⟨0, 0, 0, h, i, c, 0⟩ := by
  obtain ⟨h0, hr⟩ := clk_run hs hh
  obtain ⟨a1, a2, a3⟩ := pad_all (v := h) (n := 2) (by omega) (by omega)
  obtain ⟨h1, u1, u2, u3⟩ := rd_clk h0 hh hi hc
  obtain ⟨h2, u4⟩ := rd_end_frac h1
  refine ⟨full_no (by rw [hr 4 (by omega)]; omega), ?_, ?_, ?_, h2.1, ?_, ?_⟩
  · refine sys_bad ?_
    have hn : cmonN s ⟨0, false⟩ = 0 := by
      have hsz := rd_size h0
      unfold cmonN
      refine monthN_no (fun j hj e => ?_)
      cases hl : padL h 2 with
      | nil => rw [hl] at a3; simp at a3
      | cons x r =>
        rw [hl] at a1
        simp only [allD, List.all_cons, Bool.and_eq_true] at a1
        have hq : monQ s ⟨0, false⟩ = 3 := by
          unfold monQ
          have : 3 ≤ s.size := by rw [← hsz]; simp [clkL, a3]; omega
          simp; omega
        rw [hq] at e
        have hx : (s.extract 0 3).data.toList = x :: (s.extract 0 3).data.toList.tail := by
          rw [extract_list, List.drop_zero, hs]
          unfold clkL
          rw [hl]
          rfl
        have e2 : lowL (s.extract 0 3).data.toList = monL.getD j [] := e
        rw [hx] at e2
        have hxl : lowB x = x := lowB_no x (by have := a1.1; simp [digB] at this; omega)
        have e3 : (monL.getD j []).head? = some x := by rw [← e2]; simp [lowL, hxl]
        have hall : ∀ i : Fin 12, ∀ y, (monL.getD i.1 []).head? = some y → digB y.toNat = false := by decide
        rw [hall ⟨j, hj⟩ x e3] at a1
        exact absurd a1.1 (by simp)
    unfold sy1 monthC
    rw [hn]; simp
  · refine sla_bad ?_
    have h3 := (rd_digits (p := ⟨0, false⟩) (a := 1) (b := 2) h0 a1 a3 (.inl rfl) (by omega)).1
    have hb : byN s (sl1 s).pos = 58 := byN_head h3
    unfold sl2 expectC
    rw [hb]; rfl
  · unfold epE epN
    rw [hr 14 (by omega)]; rfl
  · have : (ckC s).pos + 0 = s.size := rd_size h2
    exact this
  · unfold ckD
    have w5 : clkM s ⟨0, false⟩ = 0 := u4
    rw [u1, u2, u3, w5]
    rfl
end Go.Proofs.YtofomlbhbbhdjaaDoor
