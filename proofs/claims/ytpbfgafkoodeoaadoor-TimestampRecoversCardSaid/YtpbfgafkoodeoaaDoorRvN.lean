/- What the cursor reads of a text that Format writes. The statement that a formatted time is recovered, and all of its bytes are used. What the forms read of a time without a year, and of a time without a date. A time without a year that lies within 180 days of the reference is the nearest; so is one without a date within 11 hours. A clock without a date: plain mathematics for the reference's today. -/
import Derived.Test.YtpbfgafkoodeoaaDoorRvI
import Derived.Test.YtpbfgafkoodeoaaDoorRvF
import Derived.Test.YtpbfgafkoodeoaaDoorRvJ
import Derived.Test.YtpbfgafkoodeoaaDoorRvK
namespace Go.Proofs.YtpbfgafkoodeoaaDoor

theorem digB_dig (r : Nat) (h : r < 10) : digB (UInt8.ofNat (48 + r)).toNat = true := by
  have : (UInt8.ofNat (48 + r)).toNat = 48 + r := by simp; omega
  rw [this]
  simp [digB]
  omega
theorem allD_dec (k : Nat) : ∀ u, u < 10 ^ (k + 1) → allD (Lib.decDigits u) = true ∧ valD (Lib.decDigits u) = u := by
  induction k with
  | zero =>
    intro u hu
    rw [Lib.decDigits_one (by omega)]
    have h2 : (UInt8.ofNat (48 + u)).toNat = 48 + u := by simp; omega
    constructor
    · simp only [allD, List.all_cons, List.all_nil, Bool.and_true]; exact digB_dig u (by omega)
    · simp only [valD, List.foldl_cons, List.foldl_nil, h2]; omega
  | succ k ih =>
    intro u hu
    by_cases h : u < 10
    · exact ih u (Nat.lt_of_lt_of_le h (Nat.le_self_pow (by omega) 10))
    · obtain ⟨h1, h2⟩ := ih (u / 10) (by rw [Nat.pow_succ] at hu; omega)
      have h3 : (UInt8.ofNat (48 + u % 10)).toNat = 48 + u % 10 := by simp; omega
      rw [Lib.decDigits, dif_neg h]
      constructor
      · rw [allD_snoc, h1, digB_dig _ (by omega)]; rfl
      · rw [valD_snoc, h2, h3]; omega
theorem valD_zeros (z : Nat) (l : List UInt8) : valD (List.replicate z 48 ++ l) = valD l := by
  induction z with
  | zero => rfl
  | succ z ih =>
    have : valD (List.replicate (z + 1) 48 ++ l) = valD (List.replicate z 48 ++ l) := by simp [valD, List.replicate_succ]
    rw [this, ih]
theorem allD_zeros (z : Nat) (l : List UInt8) : allD (List.replicate z 48 ++ l) = allD l := by
  induction z with
  | zero => rfl
  | succ z ih =>
    have : allD (List.replicate (z + 1) 48 ++ l) = allD (List.replicate z 48 ++ l) := by simp [allD, List.replicate_succ, digB]
    rw [this, ih]
theorem pad_all {v n : Nat} (h : v < 10 ^ n) (hn : 1 ≤ n) : allD (padL v n) = true ∧ valD (padL v n) = v ∧ (padL v n).length = n := by
  obtain ⟨k, rfl⟩ : ∃ k, n = k + 1 := ⟨n - 1, by omega⟩
  obtain ⟨h1, h2⟩ := allD_dec k v h
  have hl := digits_len k v h
  unfold padL
  refine ⟨by rw [allD_zeros, h1], by rw [valD_zeros, h2], ?_⟩
  rw [List.length_append, List.length_replicate]; omega

/-- What is left from an offset on. -/
def Rd (s : ByteArray) (p : CS) (R : List UInt8) : Prop := p.bad = false ∧ p.pos ≤ s.size ∧ s.data.toList.drop p.pos = R
theorem byN_drop {s : ByteArray} {k j : Nat} {R : List UInt8} (h : s.data.toList.drop k = R) : byN s (k + j) = (R[j]?.map (·.toNat)).getD 0 := by
  subst h
  rw [List.getElem?_drop]
  unfold byN
  by_cases hk : k + j < s.size
  · rw [dif_pos hk, List.getElem?_eq_getElem (by rw [sizeB]; exact hk)]; rfl
  · rw [dif_neg hk, List.getElem?_eq_none (by rw [sizeB]; omega)]; rfl
theorem byN_head {s : ByteArray} {p : CS} {c : UInt8} {R : List UInt8} (h : Rd s p (c :: R)) : byN s p.pos = c.toNat := by
  have := byN_drop (j := 0) h.2.2
  simpa using this
theorem byN_end {s : ByteArray} {p : CS} (h : Rd s p []) : byN s p.pos = 0 := by
  have := byN_drop (j := 0) h.2.2
  simpa using this
theorem rd_size {s : ByteArray} {p : CS} {R : List UInt8} (h : Rd s p R) : p.pos + R.length = s.size := by
  have := congrArg List.length h.2.2
  rw [List.length_drop, sizeB] at this
  have := h.2.1
  omega
theorem rd_skip {s : ByteArray} {p : CS} {l R : List UInt8} {n : Nat} (h : Rd s p (l ++ R)) (hn : l.length = n) : Rd s ⟨p.pos + n, false⟩ R := by
  have hs := rd_size h
  rw [List.length_append] at hs
  refine ⟨rfl, by show p.pos + n ≤ _; omega, ?_⟩
  show s.data.toList.drop (p.pos + n) = R
  rw [← List.drop_drop, h.2.2, ← hn, List.drop_left]
theorem dRun_all (s : ByteArray) : ∀ n k, (∀ j, j < n → digB (byN s (k + j)) = true) → dRun s n k = n
  | 0, _, _ => rfl
  | n + 1, k, h => by
    unfold dRun
    have h0 : digB (byN s k) = true := h 0 (by omega)
    rw [if_pos h0, dRun_all s n (k + 1) (fun j hj => by have := h (j + 1) (by omega); rw [show k + 1 + j = k + (j + 1) by omega]; exact this)]
theorem dRun_upto (s : ByteArray) : ∀ b n k, n < b → (∀ j, j < n → digB (byN s (k + j)) = true) → digB (byN s (k + n)) = false → dRun s b k = n
  | 0, n, k, h, _, _ => by omega
  | b + 1, 0, k, _, _, h => by
    unfold dRun
    rw [if_neg (by rw [Nat.add_zero] at h; rw [h]; simp)]
  | b + 1, n + 1, k, hb, hd, h => by
    unfold dRun
    have h0 : digB (byN s k) = true := hd 0 (by omega)
    rw [if_pos h0, dRun_upto s b n (k + 1) (by omega) (fun j hj => by have := hd (j + 1) (by omega); rw [show k + 1 + j = k + (j + 1) by omega]; exact this) (by rw [show k + 1 + n = k + (n + 1) by omega]; exact h)]
def noDig (R : List UInt8) : Prop := ∀ c, R.head? = some c → digB c.toNat = false
theorem rd_run {s : ByteArray} {p : CS} {l R : List UInt8} {n b : Nat} (h : Rd s p (l ++ R)) (ha : allD l = true) (hn : l.length = n) (hb : n = b ∨ (n < b ∧ noDig R)) : dRun s b p.pos = n ∧ numC s p.pos b = valD l := by
  have hd : ∀ j, j < n → digB (byN s (p.pos + j)) = true := fun j hj => by
    rw [byN_drop h.2.2, List.getElem?_append_left (by omega), List.getElem?_eq_getElem (by omega)]
    unfold allD at ha
    rw [List.all_eq_true] at ha
    exact ha _ (List.getElem_mem _)
  have hr : dRun s b p.pos = n := by
    rcases hb with rfl | ⟨hb, hh⟩
    · exact dRun_all s n _ hd
    · refine dRun_upto s b n _ hb hd ?_
      rw [byN_drop h.2.2, List.getElem?_append_right (by omega), hn, Nat.sub_self]
      cases R with
      | nil => decide
      | cons c R => exact hh c rfl
  refine ⟨hr, ?_⟩
  unfold numC subL
  rw [hr, extract_list, List.drop_take, h.2.2, show p.pos + n - p.pos = n by omega, ← hn, List.take_left]
theorem rd_digits {s : ByteArray} {p : CS} {l R : List UInt8} {n a b : Nat} (h : Rd s p (l ++ R)) (ha : allD l = true) (hn : l.length = n) (hb : n = b ∨ (n < b ∧ noDig R)) (hl : a ≤ n) : Rd s (digitsC s p a b) R ∧ numC s p.pos b = valD l := by
  obtain ⟨h1, h2⟩ := rd_run h ha hn hb
  refine ⟨?_, h2⟩
  have e : digitsC s p a b = ⟨p.pos + n, false⟩ := by
    unfold digitsC
    rw [h1, h.1, decide_eq_false (by omega)]; rfl
  rw [e]; exact rd_skip h hn
theorem rd_pad {s : ByteArray} {p : CS} {R : List UInt8} {v n : Nat} (h : Rd s p (padL v n ++ R)) (hv : v < 10 ^ n) (hn : 1 ≤ n) : Rd s (digitsC s p n n) R ∧ numC s p.pos n = v := by
  obtain ⟨h1, h2, h3⟩ := pad_all hv hn
  obtain ⟨a, b⟩ := rd_digits (a := n) h h1 h3 (.inl rfl) (Nat.le_refl _)
  exact ⟨a, b.trans h2⟩
theorem rd_next {s : ByteArray} {p : CS} {c : UInt8} {R : List UInt8} (h : Rd s p (c :: R)) : Rd s p.next R := by
  have := rd_skip (l := [c]) (n := 1) h rfl
  have e : p.next = ⟨p.pos + 1, false⟩ := by unfold CS.next; rw [h.1]
  rw [e]; exact this
theorem rd_expect {s : ByteArray} {p : CS} {c : UInt8} {R : List UInt8} {n : Nat} (h : Rd s p (c :: R)) (hc : c.toNat = n) : Rd s (expectC s p n) R := by
  unfold expectC
  rw [byN_head h, if_pos hc]; exact rd_next h
theorem rd_take {s : ByteArray} {p : CS} {c : UInt8} {R : List UInt8} {n : Nat} (h : Rd s p (c :: R)) (hc : c.toNat = n) : Rd s (takeC s p n) R := by
  unfold takeC
  rw [byN_head h, if_pos hc]; exact rd_next h
/-- A time of day. -/
def clkL (a b c : Nat) (R : List UInt8) : List UInt8 := padL a 2 ++ (58 :: (padL b 2 ++ (58 :: (padL c 2 ++ R))))
theorem rd_clk {s : ByteArray} {p : CS} {R : List UInt8} {a b c : Nat} (h : Rd s p (clkL a b c R)) (ha : a < 100) (hb : b < 100) (hc : c < 100) : Rd s (clkC s p) R ∧ clkH s p = a ∧ clkI s p = b ∧ clkS s p = c := by
  obtain ⟨h1, v1⟩ := rd_pad h (by omega) (by omega)
  have h2 := rd_expect h1 (n := 58) rfl
  obtain ⟨h3, v3⟩ := rd_pad h2 (by omega) (by omega)
  have h4 := rd_expect h3 (n := 58) rfl
  obtain ⟨h5, v5⟩ := rd_pad h4 (by omega) (by omega)
  exact ⟨h5, v1, v3, v5⟩
theorem rd_frac {s : ByteArray} {p : CS} {R : List UInt8} {v : Nat} (h : Rd s p (46 :: (padL v 3 ++ R))) (hv : v < 1000) (hR : noDig R) : Rd s (fracC s p) R ∧ fracV s p = v := by
  obtain ⟨h1, h2, h3⟩ := pad_all (n := 3) hv (by omega)
  have hb := byN_head h
  have hn := rd_next h
  obtain ⟨r1, r2⟩ := rd_run (b := 9) hn h1 h3 (.inr ⟨by omega, hR⟩)
  have hnx : p.next.pos = p.pos + 1 := rfl
  rw [hnx] at r1 r2
  have hd : digB (byN s (p.pos + 1)) = true := dRun_dig s 9 (p.pos + 1) 0 (by omega)
  have hB : fracB s p = true := by
    unfold fracB
    rw [hd, hb, h.1]; decide
  obtain ⟨e1, e2⟩ := frac_yes hB
  rw [e1, e2, r1, h.1]
  have hs := rd_skip hn h3
  rw [hnx] at hs
  refine ⟨hs, ?_⟩
  have hs2 : subL s (p.pos + 1) 3 = padL v 3 := by
    unfold subL
    rw [extract_list, List.drop_take, show p.pos + 1 + 3 - (p.pos + 1) = 3 by omega, ← hnx, hn.2.2]
    exact List.take_left' h3
  rw [hs2, List.take_left' h3, h2]
theorem rd_frac0 {s : ByteArray} {p : CS} {R : List UInt8} (h : Rd s p R) (h1 : byN s p.pos ≠ 46) (h2 : byN s p.pos ≠ 44) : Rd s (fracC s p) R ∧ fracV s p = 0 := by
  have hB : fracB s p = false := by unfold fracB; simp [h1, h2]
  obtain ⟨e1, e2⟩ := frac_no hB
  rw [e1, e2]; exact ⟨h, rfl⟩
theorem rd_zoneZ {s : ByteArray} {p : CS} {R : List UInt8} (z : Int) (h : Rd s p (90 :: R)) : Rd s (zoneC s p) R ∧ zoneV s p z = 0 := by
  have hb : byN s p.pos = 90 := byN_head h
  unfold zoneC zoneV
  rw [if_pos hb, if_pos hb]
  exact ⟨rd_next h, rfl⟩
theorem rd_zoneS {s : ByteArray} {p : CS} {R : List UInt8} {c : UInt8} {a b : Nat} (z : Int) (h : Rd s p (c :: (padL a 2 ++ (58 :: (padL b 2 ++ R))))) (hc : c = 43 ∨ c = 45) (ha : a < 100) (hb : b < 100) :
    Rd s (zoneC s p) R ∧ zoneV s p z = (if c = 45 then -(60 * (a : Int) + b) else 60 * (a : Int) + b) := by
  have hh := byN_head h
  obtain ⟨h1, v1⟩ := rd_pad (rd_next h) ha (by omega)
  have h2 : Rd s (zon2 s p) (padL b 2 ++ R) := rd_take h1 (n := 58) rfl
  obtain ⟨h3, v3⟩ := rd_pad h2 hb (by omega)
  have h3 : Rd s (zon3 s p) R := h3
  have hN : zonN s p = 60 * (a : Int) + b := by unfold zonN; rw [v1, v3]
  have hB : zonB s p = true := by
    unfold zonB
    rw [hh, h3.1]
    rcases hc with rfl | rfl <;> decide
  unfold zoneC zoneV
  have h90 : byN s p.pos ≠ 90 := by
    rw [hh]; rcases hc with rfl | rfl <;> decide
  rw [if_neg h90, if_neg h90, if_pos hB, if_pos hB, hN, hh]
  refine ⟨h3, ?_⟩
  rcases hc with rfl | rfl
  · rfl
  · rfl
end Go.Proofs.YtpbfgafkoodeoaaDoor

namespace Go.Proofs.YtpbfgafkoodeoaaDoor
open Go.RowKit

theorem clock_of (p : Int) : clockOk (p / 3600000 % 24) (p / 60000 % 60) (p / 1000 % 60) (p % 1000) := by unfold clockOk; omega
theorem ms_back {y m d k z p : Int} (hp : k + z * 60000 + 62135596800000 = p) (hn : Cal.num y m d = p / 86400000 - 719162) :
    msOf y m d (p / 3600000 % 24) (p / 60000 % 60) (p / 1000 % 60) (p % 1000) z = k := by
  unfold msOf; rw [hn]; omega
/-- The text, with all of its parts after one another. -/
def isoL (y m d h i c ms : Nat) (Z : List UInt8) : List UInt8 :=
  padL y 4 ++ (45 :: (padL m 2 ++ (45 :: (padL d 2 ++ (84 :: clkL h i c (46 :: (padL ms 3 ++ Z)))))))
theorem fmt_iso (y m d p z : Int) : fmtL y m d p z = isoL y.toNat m.toNat d.toNat (p / 3600000 % 24).toNat (p / 60000 % 60).toNat (p / 1000 % 60).toNat (p % 1000).toNat (zoneL z) := by
  simp [fmtL, dayL, timeL, isoL, clkL]
theorem noDig_cons {c : UInt8} {R : List UInt8} (h : digB c.toNat = false) : noDig (c :: R) := fun x hx => by
  obtain rfl : c = x := by simpa using hx
  exact h
theorem zone_noDig (z : Int) : noDig (zoneL z) := by
  unfold zoneL zoneP
  split
  · exact noDig_cons (by decide)
  · split
    · simp only [List.append_assoc, List.cons_append, List.nil_append]
      exact noDig_cons (by decide)
    · simp only [List.append_assoc, List.cons_append, List.nil_append]
      exact noDig_cons (by decide)
theorem rd_zone {s : ByteArray} {p : CS} (z g : Int) (h : Rd s p (zoneL z)) (hz : isZ z) : Rd s (zoneC s p) [] ∧ zoneV s p g = z := by
  obtain ⟨h1, h2⟩ := hz
  unfold zoneL at h
  split at h
  · rename_i h0
    obtain ⟨a, b⟩ := rd_zoneZ g h
    exact ⟨a, by rw [b]; omega⟩
  · split at h
    · rename_i h0 hp
      have e : zoneP [43] (padL (z / 60).toNat 2) (padL (z % 60).toNat 2) = 43 :: (padL (z / 60).toNat 2 ++ (58 :: (padL (z % 60).toNat 2 ++ []))) := by simp [zoneP]
      rw [e] at h
      obtain ⟨a, b⟩ := rd_zoneS g h (.inl rfl) (by omega) (by omega)
      exact ⟨a, by rw [b, if_neg (by decide)]; omega⟩
    · rename_i h0 hp
      have e : zoneP [45] (padL ((-z) / 60).toNat 2) (padL ((-z) % 60).toNat 2) = 45 :: (padL ((-z) / 60).toNat 2 ++ (58 :: (padL ((-z) % 60).toNat 2 ++ []))) := by simp [zoneP]
      rw [e] at h
      obtain ⟨a, b⟩ := rd_zoneS g h (.inr rfl) (by omega) (by omega)
      exact ⟨a, by rw [b, if_pos rfl]; omega⟩
theorem iso_full {y m d h i c ms : Nat} {z g : Int} {s : ByteArray} (hs : s.data.toList = isoL y m d h i c ms (zoneL z)) (hy : y < 10000) (hm : m < 100) (hd : d < 100) (hh : h < 100) (hi : i < 100) (hc : c < 100) (hms : ms < 1000) (hz : isZ z) :
    (fu8 s).bad = false ∧ (fu8 s).pos = s.size ∧ fuD s = ⟨y, m, d, h, i, c, ms⟩ ∧ fuZ s g = z := by
  have h0 : Rd s ⟨0, false⟩ (isoL y m d h i c ms (zoneL z)) := ⟨rfl, Nat.zero_le _, by rw [← hs]; rfl⟩
  obtain ⟨h1, v1⟩ := rd_pad h0 (n := 4) (by omega) (by omega)
  have h2 := rd_expect h1 (n := 45) rfl
  obtain ⟨h3, v3⟩ := rd_pad h2 (n := 2) (by omega) (by omega)
  have h4 := rd_expect h3 (n := 45) rfl
  obtain ⟨h5, v5⟩ := rd_pad h4 (n := 2) (by omega) (by omega)
  have h6 : Rd s (fu6 s) (clkL h i c (46 :: (padL ms 3 ++ zoneL z))) := by
    unfold fu6
    rw [if_pos (show byN s (fu5 s).pos = 84 from byN_head h5)]
    exact rd_next h5
  obtain ⟨h7, u1, u2, u3⟩ := rd_clk h6 hh hi hc
  obtain ⟨h8, u4⟩ := rd_frac h7 hms (zone_noDig z)
  obtain ⟨h9, u5⟩ := rd_zone z g h8 hz
  refine ⟨h9.1, ?_, ?_, u5⟩
  · have : (fu8 s).pos + 0 = s.size := rd_size h9
    exact this
  · unfold fuD
    have w1 : numC s 0 4 = y := v1
    have w3 : numC s (fu2 s).pos 2 = m := v3
    have w5 : numC s (fu4 s).pos 2 = d := v5
    have w9 : clkM s (fu6 s) = ms := u4
    rw [w1, w3, w5, u1, u2, u3, w9]
theorem iso_len {y m d h i c ms : Nat} {z : Int} (hy : y < 10000) (hm : m < 100) (hd : d < 100) (hh : h < 100) (hi : i < 100) (hc : c < 100) (hms : ms < 1000) (hz : isZ z) : (isoL y m d h i c ms (zoneL z)).length ≤ 40 := by
  have a1 := (pad_all (n := 4) hy (by omega)).2.2
  have a2 := (pad_all (n := 2) hm (by omega)).2.2
  have a3 := (pad_all (n := 2) hd (by omega)).2.2
  have a4 := (pad_all (n := 2) hh (by omega)).2.2
  have a5 := (pad_all (n := 2) hi (by omega)).2.2
  have a6 := (pad_all (n := 2) hc (by omega)).2.2
  have a7 := (pad_all (n := 3) hms (by omega)).2.2
  obtain ⟨h1, h2⟩ := hz
  have a8 : (zoneL z).length ≤ 6 := by
    unfold zoneL zoneP
    split
    · simp
    · split
      · have b1 := (pad_all (v := (z / 60).toNat) (n := 2) (by omega) (by omega)).2.2
        have b2 := (pad_all (v := (z % 60).toNat) (n := 2) (by omega) (by omega)).2.2
        simp [b1, b2]
      · have b1 := (pad_all (v := ((-z) / 60).toNat) (n := 2) (by omega) (by omega)).2.2
        have b2 := (pad_all (v := ((-z) % 60).toNat) (n := 2) (by omega) (by omega)).2.2
        simp [b1, b2]
  simp [isoL, clkL, a1, a2, a3, a4, a5, a6, a7]
  omega
/-- Recover of a formatted time. -/
theorem recover_iso (k z g : Int) (y m d : Int) (hz : isZ z) (hk : isT k) (hl : isT (k + z * 60000)) (hv : Cal.valid y m d) (hn : Cal.num y m d = (k + z * 60000 + 62135596800000) / 86400000 - 719162) (w : World) (hT : DaysT w) (hM : MonT w) :
    Calls Tryd.prog 8 #[.string ⟨(fmtL y m d (k + z * 60000 + 62135596800000) z).toArray⟩, .int .i64 0, .int .i64 0, .int .i64 g, .bool false] w fun e w' => e = .returned (.tuple #[.int .i64 k, .int .i64 (fmtL y m d (k + z * 60000 + 62135596800000) z).length, .int .i64 0]) ∧ Below w.heap.size w w' := by
  have hl1 := hl.1
  have hl2 := hl.2
  have hval := hv
  have hb := ms_back (y := y) (m := m) (d := d) (k := k) (z := z) rfl hn
  have hc := clock_of (k + z * 60000 + 62135596800000)
  obtain ⟨p, hp⟩ : ∃ p, k + z * 60000 + 62135596800000 = p := ⟨_, rfl⟩
  rw [hp] at hb hc ⊢
  rw [fmt_iso]
  obtain ⟨y1, y2, m1, m2, d1, d2⟩ := hv
  have hd31 := (Cal.len_pos (y := y) (m := m) m1 m2).2
  have hs : (⟨(isoL y.toNat m.toNat d.toNat (p / 3600000 % 24).toNat (p / 60000 % 60).toNat (p / 1000 % 60).toNat (p % 1000).toNat (zoneL z)).toArray⟩ : ByteArray).data.toList = isoL y.toNat m.toNat d.toNat (p / 3600000 % 24).toNat (p / 60000 % 60).toNat (p / 1000 % 60).toNat (p % 1000).toNat (zoneL z) := by simp
  have hlen := iso_len (y := y.toNat) (m := m.toNat) (d := d.toNat) (h := (p / 3600000 % 24).toNat) (i := (p / 60000 % 60).toNat) (c := (p / 1000 % 60).toNat) (ms := (p % 1000).toNat) (by omega) (by omega) (by omega) (by omega) (by omega) (by omega) (by omega) hz
  obtain ⟨e1, e2, e3, e4⟩ := iso_full (g := g) hs (by omega) (by omega) (by omega) (by omega) (by omega) (by omega) (by omega) hz
  obtain ⟨L, hL⟩ : ∃ L, isoL y.toNat m.toNat d.toNat (p / 3600000 % 24).toNat (p / 60000 % 60).toNat (p / 1000 % 60).toNat (p % 1000).toNat (zoneL z) = L := ⟨_, rfl⟩
  rw [hL] at e1 e2 e3 e4 hlen ⊢
  have hsz : (⟨L.toArray⟩ : ByteArray).size = L.length := size_of L
  have hD : fuD ⟨L.toArray⟩ = ⟨y, m, d, p / 3600000 % 24, p / 60000 % 60, p / 1000 % 60, p % 1000⟩ := by
    rw [e3]
    simp only [D7.mk.injEq]
    refine ⟨?_, ?_, ?_, ?_, ?_, ?_, ?_⟩ <;> omega
  have hmil := mil_val (x := ⟨y, m, d, p / 3600000 % 24, p / 60000 % 60, p / 1000 % 60, p % 1000⟩) (z := z) ⟨hval, hc⟩ hz (by rw [hb]; exact hk)
  rw [hb] at hmil
  have hV : fuV ⟨L.toArray⟩ g = k ∧ fuE ⟨L.toArray⟩ g = 0 := by
    unfold fuV fuE
    rw [e1, if_neg (by simp), if_neg (by simp), e4, hD]
    exact hmil
  have h := recover_at ⟨L.toArray⟩ (by rw [hsz]; omega) 0 0 g false 0 (by omega) k 0 L.length (fun j hj => by omega)
    (fun B W h1 h2 => by
      have := full_any ⟨L.toArray⟩ B 0 0 g false W h1 h2
      rw [hV.1, hV.2, e2, hsz] at this
      exact this) (by omega) w hT hM
  exact h

end Go.Proofs.YtpbfgafkoodeoaaDoor

namespace Go.Proofs.YtpbfgafkoodeoaaDoor

theorem fracC_bad {s : ByteArray} {p : CS} (h : p.bad = true) : (fracC s p).bad = true := by
  have e : fracB s p = false := by unfold fracB; simp [h]
  rw [(frac_no e).1]; exact h
theorem clockC_bad {s : ByteArray} {p : CS} (h : p.bad = true) : (clockC s p).bad = true :=
  fracC_bad (digitsC_bad (expectC_bad (digitsC_bad (expectC_bad (digitsC_bad h)))))
theorem zoneC_bad {s : ByteArray} {p : CS} (h : p.bad = true) : (zoneC s p).bad = true := by
  have e : (zon3 s p).bad = true := digitsC_bad (by unfold zon2; rw [takeC_bad]; exact digitsC_bad h)
  unfold zoneC zonB
  split
  · exact h
  · rw [e]; simp [h]
theorem full_bad {s : ByteArray} (h : (fu1 s).bad = true) : (fu8 s).bad = true := by
  have h5 : (fu5 s).bad = true := digitsC_bad (expectC_bad (digitsC_bad (expectC_bad h)))
  have h6 : (fu6 s).bad = true := by
    unfold fu6; split
    · exact h5
    · exact expectC_bad h5
  exact zoneC_bad (clockC_bad h6)
theorem sys_bad {s : ByteArray} (h : (sy1 s).bad = true) : (sy6 s).bad = true := by
  have h3 : (sy3 s).bad = true := by
    have h2 : (sy2 s).bad = true := expectC_bad h
    unfold sy3; rw [takeC_bad]; exact h2
  exact clockC_bad (expectC_bad (digitsC_bad h3))
theorem sla_bad {s : ByteArray} (h : (sl2 s).bad = true) : (sl7 s).bad = true := by
  have h4 : (sl4 s).bad = true := expectC_bad (digitsC_bad h)
  have h5 : (sl5 s).bad = true := by unfold sl5 yearC; simp [h4]
  exact clockC_bad (expectC_bad h5)
theorem full_no {s : ByteArray} (h : dRun s 4 0 < 4) : (fu8 s).bad = true := full_bad (by unfold fu1 digitsC; simp [h])

/-- A month's name as the law writes it, a blank, a day, a blank, a time of day. -/
def sysL (mn : List UInt8) (d h i c : Nat) : List UInt8 := mn ++ (32 :: (Lib.decDigits d ++ (32 :: clkL h i c [])))
theorem dec_head {d : Nat} (hd : d < 100) : ∃ c r, Lib.decDigits d = c :: r ∧ digB c.toNat = true := by
  have h := (allD_dec 1 d (by omega)).1
  cases hl : Lib.decDigits d with
  | nil =>
    have := Lib.decDigits_length d
    rw [hl] at this
    have := Lib.nDigits_pos d
    simp at *
    omega
  | cons c r =>
    rw [hl] at h
    simp only [allD, List.all_cons, Bool.and_eq_true] at h
    exact ⟨c, r, rfl, h.1⟩
theorem rd_end_frac {s : ByteArray} {p : CS} (h : Rd s p []) : Rd s (fracC s p) [] ∧ fracV s p = 0 :=
  rd_frac0 h (by rw [byN_end h]; omega) (by rw [byN_end h]; omega)
theorem sys_read {s : ByteArray} {mn : List UInt8} {d h i c m : Nat} (hs : s.data.toList = sysL mn d h i c) (hmn : mn.length = 3) (hm : monthN mn = m) (hm0 : m ≠ 0) (hd : d < 100) (hh : h < 100) (hi : i < 100) (hc : c < 100) :
    (sy6 s).bad = false ∧ syD s 0 = ⟨0, m, d, h, i, c, 0⟩ := by
  have h0 : Rd s ⟨0, false⟩ (sysL mn d h i c) := ⟨rfl, Nat.zero_le _, by rw [← hs]; rfl⟩
  have hsz := rd_size h0
  have hq : monQ s ⟨0, false⟩ = 3 := by
    unfold monQ
    have : 3 ≤ s.size := by rw [← hsz]; simp [sysL, hmn]; try omega
    simp; omega
  have hname : (s.extract 0 3).data.toList = mn := by
    rw [extract_list, List.drop_zero, hs]
    unfold sysL
    exact List.take_left' hmn
  have hcm : cmonN s ⟨0, false⟩ = m := by
    unfold cmonN
    rw [hq]
    show monthN (s.extract 0 3).data.toList = m
    rw [hname, hm]
  have h1 : Rd s (sy1 s) (32 :: (Lib.decDigits d ++ (32 :: clkL h i c []))) := by
    have e : sy1 s = ⟨0 + 3, false⟩ := by
      unfold sy1 monthC
      rw [hcm, hq]
      simp [hm0]
    rw [e]
    exact rd_skip (p := ⟨0, false⟩) h0 hmn
  have h2 := rd_expect h1 (n := 32) rfl
  obtain ⟨x, r, hx, hxd⟩ := dec_head hd
  have h3 : Rd s (sy3 s) (Lib.decDigits d ++ (32 :: clkL h i c [])) := by
    have hb : byN s (sy2 s).pos = x.toNat := by
      have h2' := h2
      rw [hx, List.cons_append] at h2'
      exact byN_head h2'
    have e : sy3 s = sy2 s := by
      unfold sy3 takeC
      rw [hb, if_neg (by intro e; rw [e] at hxd; simp [digB] at hxd)]
    rw [e]; exact h2
  obtain ⟨a1, a2⟩ := allD_dec 1 d (by omega)
  have hl1 : 1 ≤ (Lib.decDigits d).length := by rw [hx]; simp
  have hl2 := digits_len 1 d (by omega)
  have hb : (Lib.decDigits d).length = 2 ∨ ((Lib.decDigits d).length < 2 ∧ noDig (32 :: clkL h i c [])) := by
    by_cases e : (Lib.decDigits d).length = 2
    · exact .inl e
    · exact .inr ⟨by omega, noDig_cons (by decide)⟩
  obtain ⟨h4, v4⟩ := rd_digits (a := 1) (b := 2) h3 a1 rfl hb hl1
  have h5 := rd_expect h4 (n := 32) rfl
  obtain ⟨h6, u1, u2, u3⟩ := rd_clk h5 hh hi hc
  obtain ⟨h7, u4⟩ := rd_end_frac h6
  refine ⟨h7.1, ?_⟩
  unfold syD
  have w4 : numC s (sy3 s).pos 2 = d := by rw [v4, a2]
  have w1 : clkH s (sy5 s) = h := u1
  have w2 : clkI s (sy5 s) = i := u2
  have w3 : clkS s (sy5 s) = c := u3
  have w5 : clkM s (sy5 s) = 0 := u4
  rw [hcm, w4, w1, w2, w3, w5]
  rfl
theorem sys_notfull {s : ByteArray} {mn : List UInt8} {d h i c : Nat} (hs : s.data.toList = sysL mn d h i c) {x : UInt8} {r : List UInt8} (hx : mn = x :: r) (hd : digB x.toNat = false) : (fu8 s).bad = true := by
  have h0 : Rd s ⟨0, false⟩ (x :: (r ++ (32 :: (Lib.decDigits d ++ (32 :: clkL h i c []))))) := ⟨rfl, Nat.zero_le _, by rw [← List.cons_append, ← hx]; exact hs⟩
  have hb : byN s 0 = x.toNat := byN_head h0
  refine full_no ?_
  unfold dRun
  rw [hb, hd, if_neg (by simp)]
  omega

theorem clk_run {s : ByteArray} {h i c : Nat} (hs : s.data.toList = clkL h i c []) (hh : h < 100) : Rd s ⟨0, false⟩ (clkL h i c []) ∧ ∀ b, 2 ≤ b → dRun s b 0 = 2 := by
  have h0 : Rd s ⟨0, false⟩ (clkL h i c []) := ⟨rfl, Nat.zero_le _, by rw [← hs]; rfl⟩
  refine ⟨h0, fun b hb => ?_⟩
  obtain ⟨a1, a2, a3⟩ := pad_all (v := h) (n := 2) (by omega) (by omega)
  exact (rd_run (p := ⟨0, false⟩) h0 a1 a3 (by rcases Nat.lt_or_ge 2 b with l | l; exact .inr ⟨l, noDig_cons (by decide)⟩; exact .inl (by omega))).1
theorem clk_read {s : ByteArray} {h i c : Nat} (hs : s.data.toList = clkL h i c []) (hh : h < 100) (hi : i < 100) (hc : c < 100) :
    (fu8 s).bad = true ∧ (sy6 s).bad = true ∧ (sl7 s).bad = true ∧ epE s = 20 ∧ (ckC s).bad = false ∧ (ckC s).pos = s.size ∧ ckD s = ⟨0, 0, 0, h, i, c, 0⟩ := by
  obtain ⟨h0, hr⟩ := clk_run hs hh
  obtain ⟨a1, a2, a3⟩ := pad_all (v := h) (n := 2) (by omega) (by omega)
  obtain ⟨h1, u1, u2, u3⟩ := rd_clk h0 hh hi hc
  obtain ⟨h2, u4⟩ := rd_end_frac h1
  refine ⟨full_no (by rw [hr 4 (by omega)]; omega), ?_, ?_, ?_, h2.1, ?_, ?_⟩
  · refine sys_bad ?_
    have hn : cmonN s ⟨0, false⟩ = 0 := by
      have hsz := rd_size h0
      unfold cmonN
      refine monthN_no (fun j hj e => ?_)
      cases hl : padL h 2 with
      | nil => rw [hl] at a3; simp at a3
      | cons x r =>
        rw [hl] at a1
        simp only [allD, List.all_cons, Bool.and_eq_true] at a1
        have hq : monQ s ⟨0, false⟩ = 3 := by
          unfold monQ
          have : 3 ≤ s.size := by rw [← hsz]; simp [clkL, a3]; omega
          simp; omega
        rw [hq] at e
        have hx : (s.extract 0 3).data.toList = x :: (s.extract 0 3).data.toList.tail := by
          rw [extract_list, List.drop_zero, hs]
          unfold clkL
          rw [hl]
          rfl
        have e2 : lowL (s.extract 0 3).data.toList = monL.getD j [] := e
        rw [hx] at e2
        have hxl : lowB x = x := lowB_no x (by have := a1.1; simp [digB] at this; omega)
        have e3 : (monL.getD j []).head? = some x := by rw [← e2]; simp [lowL, hxl]
        have hall : ∀ i : Fin 12, ∀ y, (monL.getD i.1 []).head? = some y → digB y.toNat = false := by decide
        rw [hall ⟨j, hj⟩ x e3] at a1
        exact absurd a1.1 (by simp)
    unfold sy1 monthC
    rw [hn]; simp
  · refine sla_bad ?_
    have h3 := (rd_digits (p := ⟨0, false⟩) (a := 1) (b := 2) h0 a1 a3 (.inl rfl) (by omega)).1
    have hb : byN s (sl1 s).pos = 58 := byN_head h3
    unfold sl2 expectC
    rw [hb]; rfl
  · unfold epE epN
    rw [hr 14 (by omega)]; rfl
  · have : (ckC s).pos + 0 = s.size := rd_size h2
    exact this
  · unfold ckD
    have w5 : clkM s ⟨0, false⟩ = 0 := u4
    rw [u1, u2, u3, w5]
    rfl
end Go.Proofs.YtpbfgafkoodeoaaDoor

namespace Go.Proofs.YtpbfgafkoodeoaaDoor

theorem day_exists (n : Nat) : n ≤ 3652058 → ∃ y m d, Cal.valid y m d ∧ Cal.num y m d = -719162 + n := by
  induction n with
  | zero => intro _; exact ⟨1, 1, 1, by unfold Cal.valid; decide, by decide⟩
  | succ n ih =>
    intro h
    obtain ⟨y, m, d, hv, hn⟩ := ih (by omega)
    obtain ⟨h1, h2, h3⟩ := Cal.next_day hv (by omega)
    obtain ⟨-, -, -, hm, -, hd⟩ := id hv
    rcases Int.lt_or_eq_of_le hd with l | l
    · exact ⟨y, m, d + 1, (h1 l).1, by rw [(h1 l).2]; omega⟩
    · rcases Int.lt_or_eq_of_le hm with l2 | l2
      · exact ⟨y, m + 1, 1, (h2 l l2).1, by rw [(h2 l l2).2]; omega⟩
      · exact ⟨y + 1, 1, 1, (h3 l l2).1, by rw [(h3 l l2).2]; omega⟩
theorem civ_in {n : Int} (h0 : -719162 ≤ n) (h1 : n ≤ 2932896) : Cal.valid (civT n).1 (civT n).2.1 (civT n).2.2 ∧ Cal.num (civT n).1 (civT n).2.1 (civT n).2.2 = n := by
  obtain ⟨y, m, d, hv, hn⟩ := day_exists (n + 719162).toNat (by omega)
  rw [civT_is hv (by rw [hn]; omega)]
  exact ⟨hv, by rw [hn]; omega⟩
theorem civ_num {n : Int} (h : Cal.valid (civT n).1 (civT n).2.1 (civT n).2.2) : Cal.num (civT n).1 (civT n).2.1 (civT n).2.2 = n := by
  by_cases hr : n < -719162 ∨ 2932896 < n
  · rw [civT_no hr] at h
    obtain ⟨-, -, hm, -⟩ := h
    simp at hm
  · exact (civ_in (by omega) (by omega)).2
/-- The milliseconds of a clock. -/
def clkMs (h i c : Int) : Int := h * 3600000 + i * 60000 + c * 1000
theorem ms_day {y m d h i c : Int} : msOf y m d h i c 0 0 = Cal.num y m d * 86400000 + clkMs h i c := by unfold msOf clkMs; omega
theorem clkMs_bd {h i c : Int} (hc : clockOk h i c 0) : 0 ≤ clkMs h i c ∧ clkMs h i c < 86400000 := by
  obtain ⟨a, b, d, -⟩ := hc
  unfold clkMs; omega
theorem okT_small {r : Int} (h0 : 0 ≤ r) (h1 : r ≤ 4000000000000) : okT r 0 := ⟨⟨by omega, by omega⟩, ⟨by decide, by decide⟩, ⟨by omega, by omega⟩⟩
theorem pOf_small (r : Int) : pOf r 0 = r + 62135596800000 := by unfold pOf; omega

theorem neB_pick {y m d h i c r k : Int} (h0 : 0 ≤ r) (h1 : r ≤ 4000000000000) (hk0 : -180 ≤ k) (hk1 : k ≤ 180) (hv : Cal.valid y m d) (hc : clockOk h i c 0) (ht : msOf y m d h i c 0 0 = r + 86400000 * k) (ht0 : 0 ≤ r + 86400000 * k) :
    neB ⟨0, m, d, h, i, c, 0⟩ r 0 = (r + 86400000 * k, 0) := by
  have hcb := clkMs_bd hc
  rw [ms_day] at ht
  unfold neB
  rw [if_pos (okT_small h0 h1), pOf_small]
  obtain ⟨N, hN⟩ : ∃ N, (r + 62135596800000) / 86400000 - 719162 = N := ⟨_, rfl⟩
  rw [hN]
  obtain ⟨cv, cn⟩ := civ_in (n := N) (by omega) (by omega)
  have hnum : Cal.num y m d = N + k := by omega
  have a1 := Cal.cum_day hv
  have a2 := Cal.cum_day cv
  have b0 := Cal.bef_succ (civT N).1
  have b1 := Cal.bef_succ y
  obtain ⟨Y, hY⟩ : ∃ Y, (civT N).1 = Y := ⟨_, rfl⟩
  have hy : Y - 1 ≤ y ∧ y ≤ Y + 1 := by
    unfold Cal.num at hnum cn
    rw [hY] at cn a2 b0
    constructor
    · rcases Int.lt_or_le y (Y - 1) with l | l
      · have m1 := Cal.bef_mono (show y + 1 ≤ Y - 1 by omega)
        have m2 := Cal.bef_lt (show Y - 1 < Y by omega)
        omega
      · exact l
    · rcases Int.lt_or_le (Y + 1) y with l | l
      · have m1 := Cal.bef_mono (show Y + 1 + 1 ≤ y by omega)
        have m2 := Cal.bef_lt (show Y + 1 < Y + 1 + 1 by omega)
        omega
      · exact l
  rw [hY]
  obtain ⟨j, hj⟩ : ∃ j : Nat, y = Y - 1 + j := ⟨(y - (Y - 1)).toNat, by omega⟩
  have hxs : ∀ n : Nat, yrs Y ⟨0, m, d, h, i, c, 0⟩ n = ⟨Y - 1 + n, m, d, h, i, c, 0⟩ := fun n => rfl
  have hmj := mil_val (x := ⟨y, m, d, h, i, c, 0⟩) (z := 0) ⟨hv, hc⟩ ⟨by decide, by decide⟩ (by simp only; rw [ms_day]; exact ⟨by omega, by omega⟩)
  rw [ms_day] at hmj
  refine (near_pick r 0 (r + 86400000 * k) _ j (by rw [hxs, ← hj]; exact hmj.2) (by rw [hxs, ← hj, hmj.1]; exact ht) (fun n hn he => ?_) 3).2 (by omega)
  rw [hxs] at he ⊢
  rw [(mil_is he).2.2]
  simp only
  rw [ms_day]
  unfold dist
  rcases Int.lt_trichotomy (Y - 1 + (n : Int)) y with l | l | l
  · have := num_apart (m := m) (d := d) l
    omega
  · omega
  · have := num_apart (m := m) (d := d) l
    omega
theorem dyB_pick {h i c r u n : Int} (h0 : 0 ≤ r) (h1 : r ≤ 4000000000000) (hu0 : -39600000 ≤ u - r) (hu1 : u - r ≤ 39600000) (hc : clockOk h i c 0) (hn : u = n * 86400000 + clkMs h i c) :
    dyB ⟨0, 0, 0, h, i, c, 0⟩ r 0 = (u, 0) := by
  have hcb := clkMs_bd hc
  unfold dyB
  rw [if_pos (okT_small h0 h1), pOf_small]
  obtain ⟨N, hN⟩ : ∃ N, (r + 62135596800000) / 86400000 - 719162 = N := ⟨_, rfl⟩
  rw [hN]
  obtain ⟨j, hj⟩ : ∃ j : Nat, n = N - 1 + j := ⟨(n - (N - 1)).toNat, by omega⟩
  have hj3 : j < 3 := by omega
  have hxs : ∀ k : Nat, dys N ⟨0, 0, 0, h, i, c, 0⟩ k = ⟨(civT (N - 1 + k)).1, (civT (N - 1 + k)).2.1, (civT (N - 1 + k)).2.2, h, i, c, 0⟩ := fun k => rfl
  obtain ⟨cv, cn⟩ := civ_in (n := N - 1 + j) (by omega) (by omega)
  have hmj := mil_val (x := ⟨(civT (N - 1 + j)).1, (civT (N - 1 + j)).2.1, (civT (N - 1 + j)).2.2, h, i, c, 0⟩) (z := 0) ⟨cv, hc⟩ ⟨by decide, by decide⟩ (by simp only; rw [ms_day, cn]; exact ⟨by omega, by omega⟩)
  rw [ms_day] at hmj
  simp only at hmj
  rw [cn] at hmj
  refine (near_pick r 0 u _ j (by rw [hxs]; exact hmj.2) (by rw [hxs, hmj.1, hn, hj]) (fun k hk he => ?_) 3).2 hj3
  rw [hxs] at he ⊢
  obtain ⟨hck, -, hmv⟩ := mil_is he
  rw [hmv]
  simp only
  rw [ms_day, civ_num hck.1]
  unfold dist
  omega
end Go.Proofs.YtpbfgafkoodeoaaDoor

namespace Go.Proofs.YtpbfgafkoodeoaaDoor
open Go.RowKit

theorem nfold_keep {ref z : Int} {xs : Nat → D7} {k : Nat} (h : (nfold ref z xs k).2 = 0) : (nfold ref z xs (k + 1)).2 = 0 := by
  show (nstep ref z (nfold ref z xs k) (xs k)).2 = 0
  unfold nstep
  split
  · exact h
  · split
    · rfl
    · exact h
theorem nfold_hit {ref z : Int} {xs : Nat → D7} {k : Nat} (h : (xs k).mE z = 0) : (nfold ref z xs (k + 1)).2 = 0 := by
  show (nstep ref z (nfold ref z xs k) (xs k)).2 = 0
  unfold nstep
  rw [if_neg (by simpa using h)]
  by_cases h2 : (nfold ref z xs k).2 = 0
  · split
    · rfl
    · exact h2
  · rw [if_pos (.inl h2)]
theorem ms_of {n h i s c z : Int} (hc : clockOk h i s c) (hz : isZ z) : n * 86400000 - 86400000 ≤ ((n * 24 + h) * 60 + i - z) * 60000 + s * 1000 + c ∧ ((n * 24 + h) * 60 + i - z) * 60000 + s * 1000 + c ≤ n * 86400000 + 86399999 + 86400000 := by
  obtain ⟨⟨h1, h2⟩, ⟨h3, h4⟩, ⟨h5, h6⟩, h7, h8⟩ := hc
  obtain ⟨z1, z2⟩ := hz
  constructor <;> omega
theorem mE_day {T z : Int} {x : D7} {k : Nat} (hc : clockOk x.h x.i x.s x.c) (hz : isZ z) (h0 : -719162 < T - 1 + k) (h1 : T - 1 + k < 2932896) : (dys T x k).mE z = 0 := by
  obtain ⟨hv, hn⟩ := civ_in (n := T - 1 + k) (by omega) (by omega)
  have hm := ms_of (n := T - 1 + k) hc hz
  unfold D7.mE milE
  have ht : isT (msOf (dys T x k).y (dys T x k).m (dys T x k).d (dys T x k).h (dys T x k).i (dys T x k).s (dys T x k).c z) := by
    show isT (msOf (civT (T - 1 + k)).1 (civT (T - 1 + k)).2.1 (civT (T - 1 + k)).2.2 x.h x.i x.s x.c z)
    unfold msOf
    rw [hn]
    unfold isT
    omega
  rw [if_pos ⟨hv, hc⟩, if_pos ⟨hz, ht⟩]
theorem mE_noClk {T z : Int} {x : D7} {k : Nat} (hc : ¬ clockOk x.h x.i x.s x.c) : (dys T x k).mE z = 10 := by
  unfold D7.mE milE
  rw [if_neg (fun h => hc h.2)]
theorem mE_noDay {T z : Int} {x : D7} {k : Nat} (h : T - 1 + k < -719162 ∨ 2932896 < T - 1 + k) : (dys T x k).mE z = 10 := by
  unfold D7.mE milE
  rw [if_neg]
  rintro ⟨hv, -⟩
  have e : (dys T x k).y = 0 := by show (civT (T - 1 + k)).1 = 0; rw [civT_no h]
  have := hv.1
  omega
theorem day_in {ref z : Int} (hk : okT ref z) : -719162 ≤ pOf ref z / 86400000 - 719162 ∧ pOf ref z / 86400000 - 719162 ≤ 2932896 := by
  obtain ⟨-, -, h1, h2⟩ := hk
  unfold pOf
  omega
/-- Where the clock is one, a day is found. -/
theorem dy_found {T ref z : Int} {x : D7} (hz : isZ z) (h0 : -719162 ≤ T) (h1 : T ≤ 2932896) (h : (nfold ref z (dys T x) 3).2 ≠ 0) : ¬ clockOk x.h x.i x.s x.c := by
  intro hc
  by_cases a : T = -719162
  · exact h (nfold_hit (k := 2) (mE_day hc hz (by omega) (by omega)))
  · by_cases b : T = 2932896
    · exact h (nfold_keep (nfold_keep (nfold_hit (k := 0) (mE_day hc hz (by omega) (by omega)))))
    · exact h (nfold_keep (nfold_hit (k := 1) (mE_day hc hz (by omega) (by omega))))
end Go.Proofs.YtpbfgafkoodeoaaDoor
