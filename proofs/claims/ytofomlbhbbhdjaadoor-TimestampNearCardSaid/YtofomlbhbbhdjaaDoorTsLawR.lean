/- The statement that a formatted time is recovered, and all of its bytes are used. -/
import Derived.Test.YtofomlbhbbhdjaaDoorTsAw
import Derived.Test.YtofomlbhbbhdjaaDoorTsTrip
namespace Go.Proofs.YtofomlbhbbhdjaaDoor
open Go.RowKit

theorem clock_of (p : Int) : clockOk (p / 3600000 % 24) (p / 60000 % 60) (p / 1000 % 60) (p % 1000) := by unfold clockOk; omega
theorem ms_back {y m d k z p : Int} (hp : k + z * 60000 + 62135596800000 = p) (hn : Cal.num y m d = p / 86400000 - 719162) :
    msOf y m d (p / 3600000 % 24) (p / 60000 % 60) (p / 1000 % 60) (p % 1000) z = k := by
  unfold msOf; rw [hn]; omega
/-- The text, with all of its parts after one another. -/
def isoL (y m d h i c ms : Nat) (Z : List UInt8) : List UInt8 :=
  padL y 4 ++ (45 :: (padL m 2 ++ (45 :: (padL d 2 ++ (84 :: clkL h i c (46 :: (padL ms 3 ++ Z)))))))
theorem fmt_iso (y m d p z : Int) : fmtL y m d p z = isoL y.toNat m.toNat d.toNat (p / 3600000 % 24).toNat (p / 60000 % 60).toNat (p / 1000 % 60).toNat (p % 1000).toNat (zoneL z) := by
  simp [fmtL, dayL, timeL, isoL, clkL]
theorem noDig_cons {c : UInt8} {R : List UInt8} (h : digB c.toNat = false) : noDig (c :: R) := fun x hx => by
  obtain rfl : c = x := by simpa using hx
  exact h
theorem zone_noDig (z : Int) : noDig (zoneL z) := by
  unfold zoneL zoneP
  split
  · exact noDig_cons (by decide)
  · split
    · simp only [List.append_assoc, List.cons_append, List.nil_append]
      exact noDig_cons (by decide)
    · simp only [List.append_assoc, List.cons_append, List.nil_append]
      exact noDig_cons (by decide)
theorem rd_zone {s : ByteArray} {p : CS} (z g : Int) (h : Rd s p (zoneL z)) (hz : isZ z) : Rd s (zoneC s p) [] ∧ zoneV s p g = z := by
  obtain ⟨h1, h2⟩ := hz
  unfold zoneL at h
  split at h
  · rename_i h0
    obtain ⟨a, b⟩ := rd_zoneZ g h
    exact ⟨a, by rw [b]; omega⟩
  · split at h
    · rename_i h0 hp
      have e : zoneP [43] (padL (z / 60).toNat 2) (padL (z % 60).toNat 2) = 43 :: (padL (z / 60).toNat 2 ++ (58 :: (padL (z % 60).toNat 2 ++ []))) := by simp [zoneP]
      rw [e] at h
      obtain ⟨a, b⟩ := rd_zoneS g h (.inl rfl) (by omega) (by omega)
      exact ⟨a, by rw [b, if_neg (by decide)]; omega⟩
    · rename_i h0 hp
      have e : zoneP [45] (padL ((-z) / 60).toNat 2) (padL ((-z) % 60).toNat 2) = 45 :: (padL ((-z) / 60).toNat 2 ++ (58 :: (padL ((-z) % 60).toNat 2 ++ []))) := by simp [zoneP]
      rw [e] at h
      obtain ⟨a, b⟩ := rd_zoneS g h (.inr rfl) (by omega) (by omega)
      exact ⟨a, by rw [b, if_pos rfl]; omega⟩
theorem iso_full {y m d h i c ms : Nat} {z g : Int} {s : ByteArray} (hs : s.data.toList = isoL y m d h i c ms (zoneL z)) (hy : y < 10000) (hm : m < 100) (hd : d < 100) (hh : h < 100) (hi : i < 100) (hc : c < 100) (hms : ms < 1000) (hz : isZ z) :
    (fu8 s).bad = false ∧ (fu8 s).pos = s.size ∧ fuD s = ⟨y, m, d, h, i, c, ms⟩ ∧ fuZ s g = z := by
  have h0 : Rd s ⟨0, false⟩ (isoL y m d h i c ms (zoneL z)) := ⟨rfl, Nat.zero_le _, by rw [← hs]; rfl⟩
  obtain ⟨h1, v1⟩ := rd_pad h0 (n := 4) (by omega) (by omega)
  have h2 := rd_expect h1 (n := 45) rfl
  obtain ⟨h3, v3⟩ := rd_pad h2 (n := 2) (by omega) (by omega)
  have h4 := rd_expect h3 (n := 45) rfl
  obtain ⟨h5, v5⟩ := rd_pad h4 (n := 2) (by omega) (by omega)
  have h6 : Rd s (fu6 s) (clkL h i c (46 :: (padL ms 3 ++ zoneL z))) := by
    unfold fu6
    rw [if_pos (show byN s (fu5 s).pos = 84 from byN_head h5)]
    exact rd_next h5
  obtain ⟨h7, u1, u2, u3⟩ := rd_clk h6 hh hi hc
  obtain ⟨h8, u4⟩ := rd_frac h7 hms (zone_noDig z)
  obtain ⟨h9, u5⟩ := rd_zone z g h8 hz
  refine ⟨h9.1, ?_, ?_, u5⟩
  · have : (fu8 s).pos + 0 = s.size := rd_size h9
    exact this
  · unfold fuD
    have w1 : numC s 0 4 = y := v1
    have w3 : numC s (fu2 s).pos 2 = m := v3
    have w5 : numC s (fu4 s).pos 2 = d := v5
    have w9 : clkM s (fu6 s) = ms := u4
    rw [w1, w3, w5, u1, u2, u3, w9]
theorem iso_len {y m d h i c ms : Nat} {z : Int} (hy : y < 10000) (hm : m < 100) (hd : d < 100) (hh : h < 100) (hi : i < 100) (hc : c < 100) (hms : ms < 1000) (hz : isZ z) : (isoL y m d h i c ms (zoneL z)).length ≤ 40 := by
  have a1 := (pad_all (n := 4) hy (by omega)).2.2
  have a2 := (pad_all (n := 2) hm (by omega)).2.2
  have a3 := (pad_all (n := 2) hd (by omega)).2.2
  have a4 := (pad_all (n := 2) hh (by omega)).2.2
  have a5 := (pad_all (n := 2) hi (by omega)).2.2
  have a6 := (pad_all (n := 2) hc (by omega)).2.2
  have a7 := (pad_all (n := 3) hms (by omega)).2.2
  obtain ⟨h1, h2⟩ := hz
  have a8 : (zoneL z).length ≤ 6 := by
    unfold zoneL zoneP
    split
    · simp
    · split
      · have b1 := (pad_all (v := (z / 60).toNat) (n := 2) (by omega) (by omega)).2.2
        have b2 := (pad_all (v := (z % 60).toNat) (n := 2) (by omega) (by omega)).2.2
        simp [b1, b2]
      · have b1 := (pad_all (v := ((-z) / 60).toNat) (n := 2) (by omega) (by omega)).2.2
        have b2 := (pad_all (v := ((-z) % 60).toNat) (n := 2) (by omega) (by omega)).2.2
        simp [b1, b2]
  simp [isoL, clkL, a1, a2, a3, a4, a5, a6, a7]
  omega
/-- Recover of a formatted time. -/
theorem recover_iso (k z g : Int) (y m d : Int) (hz : isZ z) (hk : isT k) (hl : isT (k + z * 60000)) (hv : Cal.valid y m d) (hn : Cal.num y m d = (k + z * 60000 + 62135596800000) / 86400000 - 719162) (w : World) (hT : DaysT w) (hM : MonT w) :
    Calls Tryd.prog 11 #[.string ⟨(fmtL y m d (k + z * 60000 + 62135596800000) z).toArray⟩, .int .i64 0, .int .i64 0, .int .i64 g, .bool false] w fun e w' => e = .returned (.tuple #[.int .i64 k, .int .i64 (fmtL y m d (k + z * 60000 + 62135596800000) z).length, .int .i64 0]) ∧ Below w.heap.size w w' := by
  have hl1 := hl.1
  have hl2 := hl.2
  have hval := hv
  have hb := ms_back (y := y) (m := m) (d := d) (k := k) (z := z) rfl hn
  have hc := clock_of (k + z * 60000 + 62135596800000)
  obtain ⟨p, hp⟩ : ∃ p, k + z * 60000 + 62135596800000 = p := ⟨_, rfl⟩
  rw [hp] at hb hc ⊢
  rw [fmt_iso]
  obtain ⟨y1, y2, m1, m2, d1, d2⟩ := hv
  have hd31 := (Cal.len_pos (y := y) (m := m) m1 m2).2
  have hs : (⟨(isoL y.toNat m.toNat d.toNat (p / 3600000 % 24).toNat (p / 60000 % 60).toNat (p / 1000 % 60).toNat (p % 1000).toNat (zoneL z)).toArray⟩ : ByteArray).data.toList = isoL y.toNat m.toNat d.toNat (p / 3600000 % 24).toNat (p / 60000 % 60).toNat (p / 1000 % 60).toNat (p % 1000).toNat (zoneL z) := by simp
  have hlen := iso_len (y := y.toNat) (m := m.toNat) (d := d.toNat) (h := (p / 3600000 % 24).toNat) (i := (p / 60000 % 60).toNat) (c := (p / 1000 % 60).toNat) (ms := (p % 1000).toNat) (by omega) (by omega) (by omega) (by omega) (by omega) (by omega) (by omega) hz
  obtain ⟨e1, e2, e3, e4⟩ := iso_full (g := g) hs (by omega) (by omega) (by omega) (by omega) (by omega) (by omega) (by omega) hz
  obtain ⟨L, hL⟩ : ∃ L, isoL y.toNat m.toNat d.toNat (p / 3600000 % 24).toNat (p / 60000 % 60).toNat (p / 1000 % 60).toNat (p % 1000).toNat (zoneL z) = L := ⟨_, rfl⟩
  rw [hL] at e1 e2 e3 e4 hlen ⊢
  have hsz : (⟨L.toArray⟩ : ByteArray).size = L.length := size_of L
  have hD : fuD ⟨L.toArray⟩ = ⟨y, m, d, p / 3600000 % 24, p / 60000 % 60, p / 1000 % 60, p % 1000⟩ := by
    rw [e3]
    simp only [D7.mk.injEq]
    refine ⟨?_, ?_, ?_, ?_, ?_, ?_, ?_⟩ <;> omega
  have hmil := mil_val (x := ⟨y, m, d, p / 3600000 % 24, p / 60000 % 60, p / 1000 % 60, p % 1000⟩) (z := z) ⟨hval, hc⟩ hz (by rw [hb]; exact hk)
  rw [hb] at hmil
  have hV : fuV ⟨L.toArray⟩ g = k ∧ fuE ⟨L.toArray⟩ g = 0 := by
    unfold fuV fuE
    rw [e1, if_neg (by simp), if_neg (by simp), e4, hD]
    exact hmil
  have h := recover_at ⟨L.toArray⟩ (by rw [hsz]; omega) 0 0 g false 0 (by omega) k 0 L.length (fun j hj => by omega)
    (fun B W h1 h2 => by
      have := full_any ⟨L.toArray⟩ B 0 0 g false W h1 h2
      rw [hV.1, hV.2, e2, hsz] at this
      exact this) (by omega) w hT hM
  exact h

set_option maxRecDepth 100000 in
set_option maxHeartbeats 8000000 in
theorem lawReturns (ms zone other : Int) (m0 : -9223372036854775808 ≤ ms) (m1 : ms ≤ 9223372036854775807) (z0 : -9223372036854775808 ≤ zone) (z1 : zone ≤ 9223372036854775807) (o0 : -9223372036854775808 ≤ other) (o1 : other ≤ 9223372036854775807) (w : World) (hT : DaysT w) (hM : MonT w) (hP : Pow10 w) :
    Calls Tryd.prog 5 #[.int .i64 ms, .int .i64 zone, .int .i64 other] w fun e w' => e = .returned (.bool true) ∧ Below w.heap.size w w' := by
  have hn1 := fun W => near6_any ms (-30609792000000) 253402210799999 m0 m1 (by decide) (by decide) (by decide) W
  have hn2 := fun W => near6_any zone (-1439) 1439 z0 z1 (by decide) (by decide) (by decide) W
  have hn3 := fun W => near6_any other (-1440) 1440 o0 o1 (by decide) (by decide) (by decide) W
  have hb1 := nearN_bd (x := ms) (lo := -30609792000000) (hi := 253402210799999) (by decide)
  have hb2 := nearN_bd (x := zone) (lo := -1439) (hi := 1439) (by decide)
  obtain ⟨k, hk⟩ : ∃ k, nearN ms (-30609792000000) 253402210799999 = k := ⟨_, rfl⟩
  obtain ⟨z, hz⟩ : ∃ k, nearN zone (-1439) 1439 = k := ⟨_, rfl⟩
  obtain ⟨g, hg⟩ : ∃ k, nearN other (-1440) 1440 = k := ⟨_, rfl⟩
  rw [hk] at hn1 hb1
  rw [hz] at hn2 hb2
  rw [hg] at hn3
  have hk1 : isT k := ⟨by omega, by omega⟩
  have hz1 : isZ z := ⟨by omega, by omega⟩
  have hl1 : isT (k + z * 60000) := ⟨by omega, by omega⟩
  have hfm := fun W h h' => format_yes k z hk1 hz1 hl1 W h h'
  have hrc := fun (y m d : Int) (hv : Cal.valid y m d) (hn : Cal.num y m d = (k + z * 60000 + 62135596800000) / 86400000 - 719162) W h h' => recover_iso k z g y m d hz1 hk1 hl1 hv hn W h h'
  have haw := awake6_any w hT hM
  obtain ⟨p, hp⟩ : ∃ p, k + z * 60000 + 62135596800000 = p := ⟨_, rfl⟩
  rw [hp] at hfm hrc
  have HN := Lib.hid (And.intro hn1 (And.intro hn2 hn3))
  have HF := Lib.hid (And.intro hfm hrc)
  have HA := Lib.hid haw
  have HT := Lib.hid (And.intro hT (And.intro hM hP))
  clear hn1 hn2 hn3 hfm hrc haw hT hM hP hp hk hz hg hk1 hz1 hl1 hb1 hb2 m0 m1 z0 z1 o0 o1
  go_enter Tryd.func5, Tryd.ntmps5
  go_wp2_with fail
  refine (HA.out).mono ?_
  rintro e w1 ⟨rfl, hb1⟩
  have HB1 := Lib.hid hb1
  clear hb1
  go_wp2_with fail
  refine (HN.out.1 _).mono ?_
  rintro e w' ⟨rfl, rfl⟩
  go_wp2_with fail
  refine (HN.out.2.1 _).mono ?_
  rintro e w' ⟨rfl, rfl⟩
  go_wp2_with fail
  refine (HF.out.1 _ (HT.out.1.below HB1.out) (pow_below HT.out.2.2 HB1.out)).mono ?_
  rintro e w2 ⟨y, m, d, rfl, hv, hn, hb2⟩
  have hr := HF.out.2 y m d hv hn
  obtain ⟨F, hF⟩ : ∃ F, fmtL y m d p z = F := ⟨_, rfl⟩
  rw [hF] at hr ⊢
  have HR := Lib.hid hr
  have HB2 := Lib.hid (bl_trans HB1.out hb2)
  clear hb2 hv hn hr hF
  go_wp2_with fail
  refine (HN.out.2.2 _).mono ?_
  rintro e w' ⟨rfl, rfl⟩
  go_wp2_with fail
  refine (HR.out _ (HT.out.1.below HB2.out) (HT.out.2.1.below HB2.out)).mono ?_
  rintro e w3 ⟨rfl, hb3⟩
  have HB3 := Lib.hid (bl_trans HB2.out hb3)
  clear hb3
  go_wp2
  go_ret
  exact ⟨rfl, HB3.out⟩
end Go.Proofs.YtofomlbhbbhdjaaDoor
