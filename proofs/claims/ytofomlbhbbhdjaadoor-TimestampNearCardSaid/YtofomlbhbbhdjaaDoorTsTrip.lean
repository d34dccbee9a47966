/- What the cursor reads of a text that Format writes. -/
import Derived.Test.YtofomlbhbbhdjaaDoorTsPick
import Derived.Test.YtofomlbhbbhdjaaDoorCalFm
namespace Go.Proofs.YtofomlbhbbhdjaaDoor

theorem digB_dig (r : Nat) (h : r < 10) : digB (UInt8.ofNat (48 + r)).toNat = true := by
  have : (UInt8.ofNat (48 + r)).toNat = 48 + r := by simp; omega
  rw [this]
  simp [digB]
  omega
theorem allD_dec (k : Nat) : ∀ u, u < 10 ^ (k + 1) → allD (Lib.decDigits u) = true ∧ valD (Lib.decDigits u) = u := by
  induction k with
  | zero =>
    intro u hu
    rw [Lib.decDigits_one (by omega)]
    have h2 : (UInt8.ofNat (48 + u)).toNat = 48 + u := by simp; omega
    constructor
    · simp only [allD, List.all_cons, List.all_nil, Bool.and_true]; exact digB_dig u (by omega)
    · simp only [valD, List.foldl_cons, List.foldl_nil, h2]; omega
  | succ k ih =>
    intro u hu
    by_cases h : u < 10
    · exact ih u (Nat.lt_of_lt_of_le h (Nat.le_self_pow (by omega) 10))
    · obtain ⟨h1, h2⟩ := ih (u / 10) (by rw [Nat.pow_succ] at hu; omega)
      have h3 : (UInt8.ofNat (48 + u % 10)).toNat = 48 + u % 10 := by simp; omega
      rw [Lib.decDigits, dif_neg h]
      constructor
      · rw [allD_snoc, h1, digB_dig _ (by omega)]; rfl
      · rw [valD_snoc, h2, h3]; omega
theorem valD_zeros (z : Nat) (l : List UInt8) : valD (List.replicate z 48 ++ l) = valD l := by
  induction z with
  | zero => rfl
  | succ z ih =>
    have : valD (List.replicate (z + 1) 48 ++ l) = valD (List.replicate z 48 ++ l) := by simp [valD, List.replicate_succ]
    rw [this, ih]
theorem allD_zeros (z : Nat) (l : List UInt8) : allD (List.replicate z 48 ++ l) = allD l := by
  induction z with
  | zero => rfl
  | succ z ih =>
    have : allD (List.replicate (z + 1) 48 ++ l) = allD (List.replicate z 48 ++ l) := by simp [allD, List.replicate_succ, digB]
    rw [this, ih]
theorem pad_all {v n : Nat} (h : v < 10 ^ n) (hn : 1 ≤ n) : allD (padL v n) = true ∧ valD (padL v n) = v ∧ (padL v n).length = n := by
  obtain ⟨k, rfl⟩ : ∃ k, n = k + 1 := ⟨n - 1, by omega⟩
  obtain ⟨h1, h2⟩ := allD_dec k v h
  have hl := digits_len k v h
  unfold padL
  refine ⟨by rw [allD_zeros, h1], by rw [valD_zeros, h2], ?_⟩
  rw [List.length_append, List.length_replicate]; omega

/-- What is left from an offset on. -/
def Rd (s : ByteArray) (p : CS) (R : List UInt8) : Prop := p.bad = false ∧ p.pos ≤ s.size ∧ s.data.toList.drop p.pos = R
theorem byN_drop {s : ByteArray} {k j : Nat} {R : List UInt8} (h : s.data.toList.drop k = R) : byN s (k + j) = (R[j]?.map (·.toNat)).getD 0 := by
  subst h
  rw [List.getElem?_drop]
  unfold byN
  by_cases hk : k + j < s.size
  · rw [dif_pos hk, List.getElem?_eq_getElem (by rw [sizeB]; exact hk)]; rfl
  · rw [dif_neg hk, List.getElem?_eq_none (by rw [sizeB]; omega)]; rfl
theorem byN_head {s : ByteArray} {p : CS} {c : UInt8} {R : List UInt8} (h : Rd s p (c :: R)) : byN s p.pos = c.toNat := by
  have := byN_drop (j := 0) h.2.2
  simpa using this
theorem byN_end {s : ByteArray} {p : CS} (h : Rd s p []) : byN s p.pos = 0 := by
  have := byN_drop (j := 0) h.2.2
  simpa using this
theorem rd_size {s : ByteArray} {p : CS} {R : List UInt8} (h : Rd s p R) : p.pos + R.length = s.size := by
  have := congrArg List.length h.2.2
  rw [List.length_drop, sizeB] at this
  have := h.2.1
  omega
theorem rd_skip {s : ByteArray} {p : CS} {l R : List UInt8} {n : Nat} (h : Rd s p (l ++ R)) (hn : l.length = n) : Rd s ⟨p.pos + n, false⟩ R := by
  have hs := rd_size h
  rw [List.length_append] at hs
  refine ⟨rfl, by show p.pos + n ≤ _; omega, ?_⟩
  show s.data.toList.drop (p.pos + n) = R
  rw [← List.drop_drop, h.2.2, ← hn, List.drop_left]
theorem dRun_all (s : ByteArray) : ∀ n k, (∀ j, j < n → digB (byN s (k + j)) = true) → dRun s n k = n
  | 0, _, _ => rfl
  | n + 1, k, h => by
    unfold dRun
    have h0 : digB (byN s k) = true := h 0 (by omega)
    rw [if_pos h0, dRun_all s n (k + 1) (fun j hj => by have := h (j + 1) (by omega); rw [show k + 1 + j = k + (j + 1) by omega]; exact this)]
theorem dRun_upto (s : ByteArray) : ∀ b n k, n < b → (∀ j, j < n → digB (byN s (k + j)) = true) → digB (byN s (k + n)) = false → dRun s b k = n
  | 0, n, k, h, _, _ => by omega
  | b + 1, 0, k, _, _, h => by
    unfold dRun
    rw [if_neg (by rw [Nat.add_zero] at h; rw [h]; simp)]
  | b + 1, n + 1, k, hb, hd, h => by
    unfold dRun
    have h0 : digB (byN s k) = true := hd 0 (by omega)
    rw [if_pos h0, dRun_upto s b n (k + 1) (by omega) (fun j hj => by have := hd (j + 1) (by omega); rw [show k + 1 + j = k + (j + 1) by omega]; exact this) (by rw [show k + 1 + n = k + (n + 1) by omega]; exact h)]
def noDig (R : List UInt8) : Prop := ∀ c, R.head? = some c → digB c.toNat = false
theorem rd_run {s : ByteArray} {p : CS} {l R : List UInt8} {n b : Nat} (h : Rd s p (l ++ R)) (ha : allD l = true) (hn : l.length = n) (hb : n = b ∨ (n < b ∧ noDig R)) : dRun s b p.pos = n ∧ numC s p.pos b = valD l := by
  have hd : ∀ j, j < n → digB (byN s (p.pos + j)) = true := fun j hj => by
    rw [byN_drop h.2.2, List.getElem?_append_left (by omega), List.getElem?_eq_getElem (by omega)]
    unfold allD at ha
    rw [List.all_eq_true] at ha
    exact ha _ (List.getElem_mem _)
  have hr : dRun s b p.pos = n := by
    rcases hb with rfl | ⟨hb, hh⟩
    · exact dRun_all s n _ hd
    · refine dRun_upto s b n _ hb hd ?_
      rw [byN_drop h.2.2, List.getElem?_append_right (by omega), hn, Nat.sub_self]
      cases R with
      | nil => decide
      | cons c R => exact hh c rfl
  refine ⟨hr, ?_⟩
  unfold numC subL
  rw [hr, extract_list, List.drop_take, h.2.2, show p.pos + n - p.pos = n by omega, ← hn, List.take_left]
theorem rd_digits {s : ByteArray} {p : CS} {l R : List UInt8} {n a b : Nat} (h : Rd s p (l ++ R)) (ha : allD l = true) (hn : l.length = n) (hb : n = b ∨ (n < b ∧ noDig R)) (hl : a ≤ n) : Rd s (digitsC s p a b) R ∧ numC s p.pos b = valD l := by
  obtain ⟨h1, h2⟩ := rd_run h ha hn hb
  refine ⟨?_, h2⟩
  have e : digitsC s p a b = ⟨p.pos + n, false⟩ := by
    unfold digitsC
    rw [h1, h.1, decide_eq_false (by omega)]; rfl
  rw [e]; exact rd_skip h hn
theorem rd_pad {s : ByteArray} {p : CS} {R : List UInt8} {v n : Nat} (h : Rd s p (padL v n ++ R)) (hv : v < 10 ^ n) (hn : 1 ≤ n) : Rd s (digitsC s p n n) R ∧ numC s p.pos n = v := by
  obtain ⟨h1, h2, h3⟩ := pad_all hv hn
  obtain ⟨a, b⟩ := rd_digits (a := n) h h1 h3 (.inl rfl) (Nat.le_refl _)
  exact ⟨a, b.trans h2⟩
theorem rd_next {s : ByteArray} {p : CS} {c : UInt8} {R : List UInt8} (h : Rd s p (c :: R)) : Rd s p.next R := by
  have := rd_skip (l := [c]) (n := 1) h rfl
  have e : p.next = ⟨p.pos + 1, false⟩ := by unfold CS.next; rw [h.1]
  rw [e]; exact this
theorem rd_expect {s : ByteArray} {p : CS} {c : UInt8} {R : List UInt8} {n : Nat} (h : Rd s p (c :: R)) (hc : c.toNat = n) : Rd s (expectC s p n) R := by
  unfold expectC
  rw [byN_head h, if_pos hc]; exact rd_next h
theorem rd_take {s : ByteArray} {p : CS} {c : UInt8} {R : List UInt8} {n : Nat} (h : Rd s p (c :: R)) (hc : c.toNat = n) : Rd s (takeC s p n) R := by
  unfold takeC
  rw [byN_head h, if_pos hc]; exact rd_next h
/-- A time of day. -/
def clkL (a b c : Nat) (R : List UInt8) : List UInt8 := padL a 2 ++ (58 :: (padL b 2 ++ (58 :: (padL c 2 ++ R))))
theorem rd_clk {s : ByteArray} {p : CS} {R : List UInt8} {a b c : Nat} (h : Rd s p (clkL a b c R)) (ha : a < 100) (hb : b < 100) (hc : c < 100) : Rd s (clkC s p) R ∧ clkH s p = a ∧ clkI s p = b ∧ clkS s p = c := by
  obtain ⟨h1, v1⟩ := rd_pad h (by omega) (by omega)
  have h2 := rd_expect h1 (n := 58) rfl
  obtain ⟨h3, v3⟩ := rd_pad h2 (by omega) (by omega)
  have h4 := rd_expect h3 (n := 58) rfl
  obtain ⟨h5, v5⟩ := rd_pad h4 (by omega) (by omega)
  exact ⟨h5, v1, v3, v5⟩
theorem rd_frac {s : ByteArray} {p : CS} {R : List UInt8} {v : Nat} (h : Rd s p (46 :: (padL v 3 ++ R))) (hv : v < 1000) (hR : noDig R) : Rd s (fracC s p) R ∧ fracV s p = v := by
  obtain ⟨h1, h2, h3⟩ := pad_all (n := 3) hv (by omega)
  have hb := byN_head h
  have hn := rd_next h
  obtain ⟨r1, r2⟩ := rd_run (b := 9) hn h1 h3 (.inr ⟨by omega, hR⟩)
  have hnx : p.next.pos = p.pos + 1 := rfl
  rw [hnx] at r1 r2
  have hd : digB (byN s (p.pos + 1)) = true := dRun_dig s 9 (p.pos + 1) 0 (by omega)
  have hB : fracB s p = true := by
    unfold fracB
    rw [hd, hb, h.1]; decide
  obtain ⟨e1, e2⟩ := frac_yes hB
  rw [e1, e2, r1, h.1]
  have hs := rd_skip hn h3
  rw [hnx] at hs
  refine ⟨hs, ?_⟩
  have hs2 : subL s (p.pos + 1) 3 = padL v 3 := by
    unfold subL
    rw [extract_list, List.drop_take, show p.pos + 1 + 3 - (p.pos + 1) = 3 by omega, ← hnx, hn.2.2]
    exact List.take_left' h3
  rw [hs2, List.take_left' h3, h2]
theorem rd_frac0 {s : ByteArray} {p : CS} {R : List UInt8} (h : Rd s p R) (h1 : byN s p.pos ≠ 46) (h2 : byN s p.pos ≠ 44) : Rd s (fracC s p) R ∧ fracV s p = 0 := by
  have hB : fracB s p = false := by unfold fracB; simp [h1, h2]
  obtain ⟨e1, e2⟩ := frac_no hB
  rw [e1, e2]; exact ⟨h, rfl⟩
theorem rd_zoneZ {s : ByteArray} {p : CS} {R : List UInt8} (z : Int) (h : Rd s p (90 :: R)) : Rd s (zoneC s p) R ∧ zoneV s p z = 0 := by
  have hb : byN s p.pos = 90 := byN_head h
  unfold zoneC zoneV
  rw [if_pos hb, if_pos hb]
  exact ⟨rd_next h, rfl⟩
theorem rd_zoneS {s : ByteArray} {p : CS} {R : List UInt8} {c : UInt8} {a b : Nat} (z : Int) (h : Rd s p (c :: (padL a 2 ++ (58 :: (padL b 2 ++ R))))) (hc : c = 43 ∨ c = 45) (ha : a < 100) (hb : b < 100) :
    Rd s (zoneC s p) R ∧ zoneV s p z = (if c = 45 then -(60 * (a : Int) + b) else 60 * (a : Int) + b) := by
  have hh := byN_head h
  obtain ⟨h1, v1⟩ := rd_pad (rd_next h) ha (by omega)
  have h2 : Rd s (zon2 s p) (padL b 2 ++ R) := rd_take h1 (n := 58) rfl
  obtain ⟨h3, v3⟩ := rd_pad h2 hb (by omega)
  have h3 : Rd s (zon3 s p) R := h3
  have hN : zonN s p = 60 * (a : Int) + b := by unfold zonN; rw [v1, v3]
  have hB : zonB s p = true := by
    unfold zonB
    rw [hh, h3.1]
    rcases hc with rfl | rfl <;> decide
  unfold zoneC zoneV
  have h90 : byN s p.pos ≠ 90 := by
    rw [hh]; rcases hc with rfl | rfl <;> decide
  rw [if_neg h90, if_neg h90, if_pos hB, if_pos hB, hN, hh]
  refine ⟨h3, ?_⟩
  rcases hc with rfl | rfl
  · rfl
  · rfl
end Go.Proofs.YtofomlbhbbhdjaaDoor
