/- The statement that a time without a year that lies within 180 days of the reference is recovered, and a clock without a date within 11 hours. -/
import Derived.Test.YtofomlbhbbhdjaaDoorTsRecN
import Derived.Deep.RegionHeld3
import Derived.IntWalk
import Derived.Deep.DeepCutAuto
namespace Go.Proofs.YtofomlbhbbhdjaaDoor
open Go.RowKit

/-- The time of day within a formatted time. -/
theorem iso_clock {y m d h i c ms : Nat} {Z : List UInt8} (hy : y < 10000) (hm : m < 100) (hd : d < 100) (hh : h < 100) (hi : i < 100) (hc : c < 100) :
    ((⟨(isoL y m d h i c ms Z).toArray⟩ : ByteArray).extract 11 19) = ⟨(clkL h i c []).toArray⟩ ∧ 19 ≤ (isoL y m d h i c ms Z).length := by
  have a1 := (pad_all (n := 4) hy (by omega)).2.2
  have a2 := (pad_all (n := 2) hm (by omega)).2.2
  have a3 := (pad_all (n := 2) hd (by omega)).2.2
  have a4 := (pad_all (n := 2) hh (by omega)).2.2
  have a5 := (pad_all (n := 2) hi (by omega)).2.2
  have a6 := (pad_all (n := 2) hc (by omega)).2.2
  have e : isoL y m d h i c ms Z = (padL y 4 ++ (45 :: (padL m 2 ++ (45 :: (padL d 2 ++ [84]))))) ++ (clkL h i c [] ++ (46 :: (padL ms 3 ++ Z))) := by
    simp [isoL, clkL]
  have l1 : (padL y 4 ++ (45 :: (padL m 2 ++ (45 :: (padL d 2 ++ [84]))))).length = 11 := by simp [a1, a2, a3]
  have l2 : (clkL h i c []).length = 8 := by simp [clkL, a4, a5, a6]
  constructor
  · apply bext
    rw [extract_list]
    show ((isoL y m d h i c ms Z).take 19).drop 11 = clkL h i c []
    rw [e, List.drop_take, List.drop_left' l1]
    exact List.take_left' l2
  · rw [e, List.length_append, l1, List.length_append, l2]; omega
theorem slice_lit (s : ByteArray) (a k : Nat) (hak : a ≤ k) (h2 : k ≤ s.size) (x y : Int) (hx : x = a) (hy : y = k) (W : World) :
    (Instr.slice 9 (.string s) (some (.int .i64 x)) (some (.int .i64 y)) none).run Tryd.prog W = .ok (.string (s.extract a k)) W := by
  subst hx hy
  have := slice_two s a (k - a) (by omega) W
  rw [show (a : Int) + ((k - a : Nat) : Int) = (k : Int) by omega, show a + (k - a) = k by omega] at this
  exact this
theorem parts_of {p t : Int} (ht : t + 0 * 60000 + 62135596800000 = p) (hm : t % 1000 = 0) :
    p % 1000 = 0 ∧ clockOk (p / 3600000 % 24) (p / 60000 % 60) (p / 1000 % 60) 0 ∧ t = (p / 86400000 - 719162) * 86400000 + clkMs (p / 3600000 % 24) (p / 60000 % 60) (p / 1000 % 60) := by
  unfold clockOk clkMs
  omega
theorem cat_sys (M D C : List UInt8) : ((((⟨M.toArray⟩ : ByteArray) ++ ⟨#[32]⟩) ++ ⟨D.toArray⟩) ++ ⟨#[32]⟩) ++ ⟨C.toArray⟩ = ⟨(M ++ (32 :: (D ++ (32 :: C)))).toArray⟩ := by
  apply bext
  simp [ByteArray.data_append]

set_option maxRecDepth 100000 in
set_option linter.unusedSimpArgs false in
set_option maxHeartbeats 32000000 in
theorem lawNear (rf days hours : Int) (r0 : -9223372036854775808 ≤ rf) (r1 : rf ≤ 9223372036854775807) (d0 : -9223372036854775808 ≤ days) (d1 : days ≤ 9223372036854775807) (o0 : -9223372036854775808 ≤ hours) (o1 : hours ≤ 9223372036854775807) (w : World) (hT : DaysT w) (hM : MonT w) (hP : Pow10 w) :
    Calls Tryd.prog 6 #[.int .i64 rf, .int .i64 days, .int .i64 hours] w fun e w' => e = .returned (.bool true) ∧ Below w.heap.size w w' := by
  have hn1 := fun W => near6_any rf 0 4000000000000 r0 r1 (by decide) (by decide) (by decide) W
  have hn2 := fun W => near6_any days (-180) 180 d0 d1 (by decide) (by decide) (by decide) W
  have hn3 := fun W => near6_any hours (-11) 11 o0 o1 (by decide) (by decide) (by decide) W
  have hb1 := nearN_bd (x := rf) (lo := 0) (hi := 4000000000000) (by decide)
  have hb2 := nearN_bd (x := days) (lo := -180) (hi := 180) (by decide)
  have hb3 := nearN_bd (x := hours) (lo := -11) (hi := 11) (by decide)
  obtain ⟨nr, hnr⟩ : ∃ k, nearN rf 0 4000000000000 = k := ⟨_, rfl⟩
  obtain ⟨k, hk⟩ : ∃ k, nearN days (-180) 180 = k := ⟨_, rfl⟩
  obtain ⟨g, hg⟩ : ∃ k, nearN hours (-11) 11 = k := ⟨_, rfl⟩
  rw [hnr] at hn1 hb1
  rw [hk] at hn2 hb2
  rw [hg] at hn3 hb3
  obtain ⟨nr0, nr1⟩ := hb1
  obtain ⟨k0, k1⟩ := hb2
  obtain ⟨g0, g1⟩ := hb3
  obtain ⟨q, hq⟩ : ∃ q, nr / 1000 = q := ⟨_, rfl⟩
  have hq0 : 0 ≤ q := by omega
  have hq1 : q ≤ 4000000000 := by omega
  have HN := Lib.hid (And.intro hn1 (And.intro hn2 hn3))
  have HA := Lib.hid (awake6_any w hT hM)
  have HT := Lib.hid (And.intro hT (And.intro hM hP))
  clear hn1 hn2 hn3 hT hM hP hnr hk hg r0 r1 d0 d1 o0 o1
  go_enter Tryd.func6, Tryd.ntmps6
  go_wp2_with fail
  refine (HA.out).mono ?_
  rintro e w1 ⟨rfl, hb1⟩
  have HB1 := Lib.hid hb1
  clear hb1 HA
  go_wp2_with fail
  refine (HN.out.1 _).mono ?_
  rintro e w' ⟨rfl, rfl⟩
  go_wp2_with fail
  refine (HN.out.2.1 _).mono ?_
  rintro e w' ⟨rfl, rfl⟩
  clear hq nr0 nr1
  have hdt := fun W hW => dates_yes (q * 1000 + 86400000 * k) 0 ⟨by omega, by omega⟩ ⟨by decide, by decide⟩ ⟨by omega, by omega⟩ W hW
  have hfm := fun W hW hP => format_yes (q * 1000 + 86400000 * k) 0 ⟨by omega, by omega⟩ ⟨by decide, by decide⟩ ⟨by omega, by omega⟩ W hW hP
  obtain ⟨p, hp⟩ : ∃ p, q * 1000 + 86400000 * k + 0 * 60000 + 62135596800000 = p := ⟨_, rfl⟩
  have hp0 : 0 ≤ p := by omega
  obtain ⟨pm, pc, pt⟩ := parts_of hp (by omega)
  rw [hp] at hdt hfm
  obtain ⟨h, hh⟩ : ∃ h : Nat, p / 3600000 % 24 = h := ⟨(p / 3600000 % 24).toNat, by omega⟩
  obtain ⟨i, hi⟩ : ∃ h : Nat, p / 60000 % 60 = h := ⟨(p / 60000 % 60).toNat, by omega⟩
  obtain ⟨c, hc⟩ : ∃ h : Nat, p / 1000 % 60 = h := ⟨(p / 1000 % 60).toNat, by omega⟩
  obtain ⟨ms, hms⟩ : ∃ h : Int, p % 1000 = h := ⟨_, rfl⟩
  have hdv : ∀ y m d : Int, dateV y m d p = .agg #[.int .i64 y, .int .i64 m, .int .i64 d, .int .i64 h, .int .i64 i, .int .i64 c, .int .i64 ms] := fun y m d => by unfold dateV; rw [hh, hi, hc, hms]
  rw [hh, hi, hc] at pc pt
  have hfl : ∀ y m d : Int, fmtL y m d p 0 = isoL y.toNat m.toNat d.toNat h i c (p % 1000).toNat (zoneL 0) := fun y m d => by rw [fmt_iso, hh, hi, hc]; simp
  have HDT := Lib.hid (And.intro hdt (And.intro hfm (And.intro hdv (And.intro hfl (And.intro pc pt)))))
  clear hdt hfm hdv hfl pm pc pt hp hp0 hh hi hc hms
  by_cases ht0 : q * 1000 + 86400000 * k < 0
  · go_wp2_with fail
    refine (HDT.out.1 _ (HT.out.1.below HB1.out)).mono ?_
    rintro e w2 ⟨y, m, d, rfl, hv, hn, hb2⟩
    have HB2 := Lib.hid (bl_trans HB1.out (bl_trans hb2 (below_alloc w2 (.cells #[.int .i64 y, .int .i64 m, .int .i64 d, .int .i64 h, .int .i64 i, .int .i64 c, .int .i64 ms] 36))))
    rw [HDT.out.2.2.1]
    clear hv hn hb2
    go_wp2
    go_ret
    exact ⟨rfl, HB2.out⟩
  · go_wp2_with fail
    refine (HDT.out.1 _ (HT.out.1.below HB1.out)).mono ?_
    rintro e w2 ⟨y, m, d, rfl, hv, hn, hb2⟩
    obtain ⟨y1, y2, m1, m2, d1, d2⟩ := id hv
    have hd31 := (Cal.len_pos (y := y) (m := m) m1 m2).2
    obtain ⟨j, rfl⟩ : ∃ j : Nat, m = (j : Int) + 1 := ⟨(m - 1).toNat, by omega⟩
    obtain ⟨d, rfl⟩ : ∃ d' : Nat, d = d' := ⟨d.toNat, by omega⟩
    have hj12 : j < 12 := by omega
    have hdd1 : 1 ≤ d := by omega
    have hdd2 : d ≤ 31 := by omega
    rw [HDT.out.2.2.1]
    have hdr := (RowAt.new 36 #[.int .i64 y, .int .i64 ((j : Int) + 1), .int .i64 (d : Int), .int .i64 (h : Int), .int .i64 (i : Int), .int .i64 (c : Int), .int .i64 ms] w2)
    have hdb := bl_trans HB1.out (bl_trans hb2 (below_alloc w2 (.cells #[.int .i64 y, .int .i64 ((j : Int) + 1), .int .i64 (d : Int), .int .i64 (h : Int), .int .i64 (i : Int), .int .i64 (c : Int), .int .i64 ms] 36)))
    have HD1 := Lib.hid (And.intro hdr hdb)
    have HVN := Lib.hid (And.intro hv hn)
    clear hv hn hb2 hdr hdb m1 m2 d1 d2 hd31 y1 y2
    have hbm : (w2.alloc (.cells #[.int .i64 y, .int .i64 ((j : Int) + 1), .int .i64 (d : Int), .int .i64 (h : Int), .int .i64 (i : Int), .int .i64 (c : Int), .int .i64 ms] 36)).heap.size = w2.heap.size + 1 := by simp
    have hnr := RowAt.new 9 namRow (w2.alloc (.cells #[.int .i64 y, .int .i64 ((j : Int) + 1), .int .i64 (d : Int), .int .i64 (h : Int), .int .i64 (i : Int), .int .i64 (c : Int), .int .i64 ms] 36))
    rw [hbm] at hnr
    have hlr : namRow = #[.string ⟨#[74, 97, 110]⟩, .string ⟨#[70, 101, 98]⟩, .string ⟨#[77, 97, 114]⟩, .string ⟨#[65, 112, 114]⟩, .string ⟨#[77, 97, 121]⟩, .string ⟨#[74, 117, 110]⟩, .string ⟨#[74, 117, 108]⟩, .string ⟨#[65, 117, 103]⟩, .string ⟨#[83, 101, 112]⟩, .string ⟨#[79, 99, 116]⟩, .string ⟨#[78, 111, 118]⟩, .string ⟨#[68, 101, 99]⟩] := by kernel_rfl
    have HNR := Lib.hid (And.intro hnr hlr)
    clear hnr hlr hbm
    go_wp2_with fail
    rw [← HNR.out.2]
    have hXX := below_alloc (w2.alloc (.cells #[.int .i64 y, .int .i64 ((j : Int) + 1), .int .i64 (d : Int), .int .i64 (h : Int), .int .i64 (i : Int), .int .i64 (c : Int), .int .i64 ms] 36)) (.cells namRow 9)
    have HX0 := Lib.hid (And.intro (HD1.out.1.below hXX) (And.intro HNR.out.1 (bl_trans HD1.out.2 hXX)))
    clear hXX
    obtain ⟨X0, hX0⟩ : ∃ X, (w2.alloc (.cells #[.int .i64 y, .int .i64 ((j : Int) + 1), .int .i64 (d : Int), .int .i64 (h : Int), .int .i64 (i : Int), .int .i64 (c : Int), .int .i64 ms] 36)).alloc (.cells namRow 9) = X := ⟨_, rfl⟩
    obtain ⟨bd, hbd⟩ : ∃ b, w2.heap.size = b := ⟨_, rfl⟩
    rw [hX0, hbd] at HX0
    rw [hX0]
    refine (HDT.out.2.1 _ (HT.out.1.below HX0.out.2.2) (pow_below HT.out.2.2 HX0.out.2.2)).mono ?_
    rintro e X ⟨y', m', d', rfl, hv', hn', hb3⟩
    obtain ⟨rfl, rfl, rfl⟩ := Cal.num_inj hv' HVN.out.1 (hn'.trans HVN.out.2.symm)
    rw [HDT.out.2.2.2.1]
    have HX := Lib.hid (And.intro (HX0.out.1.below hb3) (And.intro (HX0.out.2.1.below hb3) (bl_trans HX0.out.2.2 hb3)))
    clear hv' hn' hb3
    have hvv := HVN.out.1
    obtain ⟨y1, y2, -⟩ := id hvv
    have hpc := HDT.out.2.2.2.2.1
    have hic := iso_clock (y := y'.toNat) (m := ((j : Int) + 1).toNat) (d := (d : Int).toNat) (h := h) (i := i) (c := c) (ms := (p % 1000).toNat) (Z := zoneL 0) (by omega) (by omega) (by omega) (by have := hpc.1; omega) (by have := hpc.2.1; omega) (by have := hpc.2.2.1; omega)
    have hmso : msOf y' ((j : Int) + 1) d h i c 0 0 = q * 1000 + 86400000 * k := by rw [ms_day, HVN.out.2]; exact HDT.out.2.2.2.2.2.symm
    have hrec := fun W hW hM => recover_sys j hj12 d h i c y' (q * 1000) k (by omega) (by omega) k0 k1 hvv hpc hmso (by omega) W hW hM
    unfold sysL at hrec
    rw [← cat_sys] at hrec
    obtain ⟨F, hF⟩ : ∃ F, isoL y'.toNat ((j : Int) + 1).toNat (d : Int).toNat h i c (p % 1000).toNat (zoneL 0) = F := ⟨_, rfl⟩
    rw [hF] at hic ⊢
    obtain ⟨C, hC⟩ : ∃ C, clkL h i c [] = C := ⟨_, rfl⟩
    have hC8 : C.length = 8 := by
      have p1 := (pad_all (v := h) (n := 2) (by have := hpc.1; omega) (by omega)).2.2
      have p2 := (pad_all (v := i) (n := 2) (by have := hpc.2.1; omega) (by omega)).2.2
      have p3 := (pad_all (v := c) (n := 2) (by have := hpc.2.2.1; omega) (by omega)).2.2
      rw [← hC]; simp [clkL, p1, p2, p3]
    rw [hC] at hic hrec
    have hsl := fun W => slice_lit ⟨F.toArray⟩ 11 19 (by omega) (by rw [size_of]; exact hic.2) 11 19 rfl rfl W
    rw [hic.1] at hsl
    have hF19 : ¬ (F.length : Int) < 19 := by have := hic.2; omega
    have hdc := fun W hW => decimal_any (d : Int) (by omega) (by omega) W hW
    rw [show Lib.itoa (d : Int) = Lib.decDigits d by unfold Lib.itoa; rw [if_neg (by omega)]; simp] at hdc
    have hDl := digits_len 1 d (by omega)
    obtain ⟨D, hD⟩ : ∃ D, Lib.decDigits d = D := ⟨_, rfl⟩
    rw [hD] at hdc hDl hrec
    have hMl := nam_len j hj12
    obtain ⟨M, hMM⟩ : ∃ M, namG j = M := ⟨_, rfl⟩
    rw [hMM] at hMl hrec
    have HSL := Lib.hid hsl
    have HDC := Lib.hid hdc
    have HR1 := Lib.hid hrec
    have HMM := Lib.hid hMM
    have c1 : ¬ 9223372036854775807 < M.length + 1 := by omega
    have c2 : ¬ 9223372036854775807 < M.length + 1 + D.length := by omega
    have c3 : ¬ 9223372036854775807 < M.length + 1 + D.length + 1 := by omega
    have c4 : ¬ 9223372036854775807 < M.length + 1 + D.length + 1 + C.length := by omega
    rw [hbd]
    have hpc2 := Lib.hid hpc
    clear hsl hdc hrec hic hF hC hD hmso hvv hX0 hbd hpc y1 y2 hMM hMl hC8 hDl
    have hsl := HSL.out
    go_wp2_with fail
    clear hsl
    have hMM := HMM.out
    have hI : (j : Int) < 12 := by omega
    have hI0 : (0 : Int) ≤ (j : Int) := by omega
    have hwr : IntKind.i64.wrap (j : Int) = (j : Int) := IntWalk.i64_in _ (by omega)
    refine wp_region_held_drew (S := (fun w' => RowAt bd 36 #[.int .i64 y', .int .i64 ((j : Int) + 1), .int .i64 (d : Int), .int .i64 (h : Int), .int .i64 (i : Int), .int .i64 (c : Int), .int .i64 ms] w' ∧ RowAt (bd + 1) 9 namRow w')) (by kernel_rfl) ⟨HX.out.1, HX.out.2.1⟩ (fun hHeld => ?_)
    refine wpAnyH_take (i := 0) (v := ?v0a) rfl (by kernel_rfl) (by kernel_rfl) (by kernel_rfl) (fun _ _ _ h => h) (Or.inl ⟨by rfl, fun w' hSw => ?y0a⟩) (by assumption) ?r0a
    case y0a =>
      go_simp
      try with_reducible rfl
    try simp only [Act.put, List.getElem_toArray, List.getElem_cons_zero, List.getElem_cons_succ, List.setIfInBounds_toArray, List.set_cons_zero, List.set_cons_succ]
    refine wpAnyH_take (i := 1) (v := ?v1a) rfl (by kernel_rfl) (by kernel_rfl) (by kernel_rfl) (fun _ _ _ h => h) (Or.inl ⟨by rfl, fun w' hSw => ?y1a⟩) (by assumption) ?r1a
    case y1a =>
      go_simp
      try with_reducible rfl
    try simp only [Act.put, List.getElem_toArray, List.getElem_cons_zero, List.getElem_cons_succ, List.setIfInBounds_toArray, List.set_cons_zero, List.set_cons_succ]
    refine wpAnyH_take (i := 2) (v := ?v2a) rfl (by kernel_rfl) (by kernel_rfl) (by kernel_rfl) (fun _ _ _ h => h) (Or.inl ⟨by rfl, fun w' hSw => ?y2a⟩) (by assumption) ?r2a
    case y2a =>
      have q1 := hSw.1.cell 1
      have q2 := hSw.1.cell 2
      simp only [List.getElem?_toArray, List.getElem?_cons_zero, List.getElem?_cons_succ] at q1 q2
      go_simp
      try with_reducible rfl
    try simp only [Act.put, List.getElem_toArray, List.getElem_cons_zero, List.getElem_cons_succ, List.setIfInBounds_toArray, List.set_cons_zero, List.set_cons_succ]
    refine wpAnyH_take (i := 3) (v := ?v3a) rfl (by kernel_rfl) (by kernel_rfl) (by kernel_rfl) (fun _ _ _ h => h) (Or.inl ⟨by rfl, fun w' hSw => ?y3a⟩) (by assumption) ?r3a
    case y3a =>
      go_simp
      try with_reducible rfl
    try simp only [Act.put, List.getElem_toArray, List.getElem_cons_zero, List.getElem_cons_succ, List.setIfInBounds_toArray, List.set_cons_zero, List.set_cons_succ]
    refine wpAnyH_take (i := 4) (v := ?v4a) rfl (by kernel_rfl) (by kernel_rfl) (by kernel_rfl) (fun _ _ _ h => h) (Or.inl ⟨by rfl, fun w' hSw => ?y4a⟩) (by assumption) ?r4a
    case y4a =>
      go_simp
      try with_reducible rfl
    try simp only [Act.put, List.getElem_toArray, List.getElem_cons_zero, List.getElem_cons_succ, List.setIfInBounds_toArray, List.set_cons_zero, List.set_cons_succ]
    refine wpAnyH_take (i := 5) (v := ?v5a) rfl (by kernel_rfl) (by kernel_rfl) (by kernel_rfl) (fun _ _ _ h => h) (Or.inl ⟨by rfl, fun w' hSw => ?y5a⟩) (by assumption) ?r5a
    case y5a =>
      have qm := hSw.2.cell j
      rw [namRow_get j hj12] at qm
      go_simp
      try with_reducible rfl
    try simp only [Act.put, List.getElem_toArray, List.getElem_cons_zero, List.getElem_cons_succ, List.setIfInBounds_toArray, List.set_cons_zero, List.set_cons_succ]
    refine wpAnyH_take (i := 6) (v := ?v6a) rfl (by kernel_rfl) (by kernel_rfl) (by kernel_rfl) (fun _ _ _ h => h) (Or.inl ⟨by rfl, fun w' hSw => ?y6a⟩) (by assumption) ?r6a
    case y6a =>
      go_simp
      try with_reducible rfl
    try simp only [Act.put, List.getElem_toArray, List.getElem_cons_zero, List.getElem_cons_succ, List.setIfInBounds_toArray, List.set_cons_zero, List.set_cons_succ]
    refine wpAnyH_take (i := 7) (v := ?v7a) rfl (by kernel_rfl) (by kernel_rfl) (by kernel_rfl) (fun _ _ _ h => h) (Or.inl ⟨by rfl, fun w' hSw => ?y7a⟩) (by assumption) ?r7a
    case y7a =>
      go_simp
      try with_reducible rfl
    try simp only [Act.put, List.getElem_toArray, List.getElem_cons_zero, List.getElem_cons_succ, List.setIfInBounds_toArray, List.set_cons_zero, List.set_cons_succ]
    refine wpAnyH_take (i := 8) (v := ?v8a) rfl (by kernel_rfl) (by kernel_rfl) (by kernel_rfl) (fun _ _ _ h => h) (Or.inl ⟨by rfl, fun w' hSw => ?y8a⟩) (by assumption) ?r8a
    case y8a =>
      have q1 := hSw.1.cell 1
      have q2 := hSw.1.cell 2
      simp only [List.getElem?_toArray, List.getElem?_cons_zero, List.getElem?_cons_succ] at q1 q2
      go_simp
      try with_reducible rfl
    try simp only [Act.put, List.getElem_toArray, List.getElem_cons_zero, List.getElem_cons_succ, List.setIfInBounds_toArray, List.set_cons_zero, List.set_cons_succ]
    refine wpAnyH_take (i := 12) (v := ?v12a) rfl (by kernel_rfl) (by kernel_rfl) (by kernel_rfl) (fun _ _ _ h => h) (Or.inl ⟨by rfl, fun w' hSw => ?y12a⟩) (by assumption) ?r12a
    case y12a =>
      go_simp
      try with_reducible rfl
    try simp only [Act.put, List.getElem_toArray, List.getElem_cons_zero, List.getElem_cons_succ, List.setIfInBounds_toArray, List.set_cons_zero, List.set_cons_succ]
    refine wpAnyH_take (i := 14) (v := ?v14a) rfl (by kernel_rfl) (by kernel_rfl) (by kernel_rfl) (fun _ _ _ h => h) (Or.inl ⟨by rfl, fun w' hSw => ?y14a⟩) (by assumption) ?r14a
    case y14a =>
      go_simp
      try with_reducible rfl
    try simp only [Act.put, List.getElem_toArray, List.getElem_cons_zero, List.getElem_cons_succ, List.setIfInBounds_toArray, List.set_cons_zero, List.set_cons_succ]
    refine wpAnyH_ready (rs := [9]) (by kernel_rfl) (by simp) (AllReadyH.cons rfl (fun K hK => ?_) AllReadyH.nil)
    go_simp
    go_wp2_with (go_at_call 20; refine (HDC.out _ (pow_below HT.out.2.2 HX.out.2.2.drew)).mono ?_; rintro e wd ⟨rfl, hbd⟩)
    have HD2 := Lib.hid (show (RowAt bd 36 #[.int .i64 y', .int .i64 ((j : Int) + 1), .int .i64 (d : Int), .int .i64 (h : Int), .int .i64 (i : Int), .int .i64 (c : Int), .int .i64 ms] wd ∧ RowAt (bd + 1) 9 namRow wd) ∧ Below w.heap.size w wd from ⟨⟨RowAt.below (w := X.drew) HX.out.1 hbd, RowAt.below (w := X.drew) HX.out.2.1 hbd⟩, bl_trans (b := X.drew) HX.out.2.2.drew hbd⟩)
    clear hbd
    refine hK.out _ _ HD2.out.1 (fun hHeld2 => ?_)
    clear hK K
    try simp only [Act.put, List.getElem_toArray, List.getElem_cons_zero, List.getElem_cons_succ, List.setIfInBounds_toArray, List.set_cons_zero, List.set_cons_succ]
    refine wpAnyH_take (i := 10) (v := ?v10a) rfl (by kernel_rfl) (by kernel_rfl) (by kernel_rfl) (fun _ _ _ h => h) (Or.inl ⟨by rfl, fun w' hSw => ?y10a⟩) (by assumption) ?r10a
    case y10a =>
      go_simp
      try with_reducible rfl
    try simp only [Act.put, List.getElem_toArray, List.getElem_cons_zero, List.getElem_cons_succ, List.setIfInBounds_toArray, List.set_cons_zero, List.set_cons_succ]
    refine wpAnyH_take (i := 11) (v := ?v11a) rfl (by kernel_rfl) (by kernel_rfl) (by kernel_rfl) (fun _ _ _ h => h) (Or.inl ⟨by rfl, fun w' hSw => ?y11a⟩) (by assumption) ?r11a
    case y11a =>
      go_simp
      try with_reducible rfl
    try simp only [Act.put, List.getElem_toArray, List.getElem_cons_zero, List.getElem_cons_succ, List.setIfInBounds_toArray, List.set_cons_zero, List.set_cons_succ]
    refine wpAnyH_take (i := 13) (v := ?v13a) rfl (by kernel_rfl) (by kernel_rfl) (by kernel_rfl) (fun _ _ _ h => h) (Or.inl ⟨by rfl, fun w' hSw => ?y13a⟩) (by assumption) ?r13a
    case y13a =>
      go_simp
      try with_reducible rfl
    try simp only [Act.put, List.getElem_toArray, List.getElem_cons_zero, List.getElem_cons_succ, List.setIfInBounds_toArray, List.set_cons_zero, List.set_cons_succ]
    refine wpAnyH_ready (rs := [15]) (by kernel_rfl) (by simp) (AllReadyH.cons rfl (fun K hK => ?_) AllReadyH.nil)
    go_simp
    go_wp2_with (go_at_call 11; refine (HR1.out _ (HT.out.1.below HD2.out.2) (HT.out.2.1.below HD2.out.2)).mono ?_; rintro e we ⟨⟨P, rfl⟩, hbe⟩)
    have HE2 := Lib.hid (show (RowAt bd 36 #[.int .i64 y', .int .i64 ((j : Int) + 1), .int .i64 (d : Int), .int .i64 (h : Int), .int .i64 (i : Int), .int .i64 (c : Int), .int .i64 ms] we ∧ RowAt (bd + 1) 9 namRow we) ∧ Below w.heap.size w we from ⟨⟨HD2.out.1.1.below hbe, HD2.out.1.2.below hbe⟩, bl_trans HD2.out.2 hbe⟩)
    clear hbe
    refine hK.out _ _ HE2.out.1 (fun hHeld3 => ?_)
    clear hK K
    try simp only [Act.put, List.getElem_toArray, List.getElem_cons_zero, List.getElem_cons_succ, List.setIfInBounds_toArray, List.set_cons_zero, List.set_cons_succ]
    refine wpAnyH_take (i := 16) (v := ?v16a) rfl (by kernel_rfl) (by kernel_rfl) (by kernel_rfl) (fun _ _ _ h => h) (Or.inl ⟨by rfl, fun w' hSw => ?y16a⟩) (by assumption) ?r16a
    case y16a =>
      go_simp
      try with_reducible rfl
    try simp only [Act.put, List.getElem_toArray, List.getElem_cons_zero, List.getElem_cons_succ, List.setIfInBounds_toArray, List.set_cons_zero, List.set_cons_succ]
    refine wpAnyH_take (i := 17) (v := ?v17a) rfl (by kernel_rfl) (by kernel_rfl) (by kernel_rfl) (fun _ _ _ h => h) (Or.inl ⟨by rfl, fun w' hSw => ?y17a⟩) (by assumption) ?r17a
    case y17a =>
      go_simp
      try with_reducible rfl
    try simp only [Act.put, List.getElem_toArray, List.getElem_cons_zero, List.getElem_cons_succ, List.setIfInBounds_toArray, List.set_cons_zero, List.set_cons_succ]
    refine wpAnyH_take (i := 18) (v := ?v18a) rfl (by kernel_rfl) (by kernel_rfl) (by kernel_rfl) (fun _ _ _ h => h) (Or.inl ⟨by rfl, fun w' hSw => ?y18a⟩) (by assumption) ?r18a
    case y18a =>
      go_simp
      try with_reducible rfl
    try simp only [Act.put, List.getElem_toArray, List.getElem_cons_zero, List.getElem_cons_succ, List.setIfInBounds_toArray, List.set_cons_zero, List.set_cons_succ]
    refine wpAnyH_take (i := 19) (v := ?v19a) rfl (by kernel_rfl) (by kernel_rfl) (by kernel_rfl) (fun _ _ _ h => h) (Or.inl ⟨by rfl, fun w' hSw => ?y19a⟩) (by assumption) ?r19a
    case y19a =>
      go_simp
      try with_reducible rfl
    try simp only [Act.put, List.getElem_toArray, List.getElem_cons_zero, List.getElem_cons_succ, List.setIfInBounds_toArray, List.set_cons_zero, List.set_cons_succ]
    refine wpAnyH_take (i := 20) (v := ?v20a) rfl (by kernel_rfl) (by kernel_rfl) (by kernel_rfl) (fun _ _ _ h => h) (Or.inl ⟨by rfl, fun w' hSw => ?y20a⟩) (by assumption) ?r20a
    case y20a =>
      go_simp
      try with_reducible rfl
    try simp only [Act.put, List.getElem_toArray, List.getElem_cons_zero, List.getElem_cons_succ, List.setIfInBounds_toArray, List.set_cons_zero, List.set_cons_succ]
    refine wpAnyH_take (i := 21) (v := ?v21a) rfl (by kernel_rfl) (by kernel_rfl) (by kernel_rfl) (fun _ _ _ h => h) (Or.inl ⟨by rfl, fun w' hSw => ?y21a⟩) (by assumption) ?r21a
    case y21a =>
      go_simp
      try with_reducible rfl
    try simp only [Act.put, List.getElem_toArray, List.getElem_cons_zero, List.getElem_cons_succ, List.setIfInBounds_toArray, List.set_cons_zero, List.set_cons_succ]
    refine wpAnyH_take (i := 22) (v := ?v22a) rfl (by kernel_rfl) (by kernel_rfl) (by kernel_rfl) (fun _ _ _ h => h) (Or.inl ⟨by rfl, fun w' hSw => ?y22a⟩) (by assumption) ?r22a
    case y22a =>
      go_simp
      try with_reducible rfl
    try simp only [Act.put, List.getElem_toArray, List.getElem_cons_zero, List.getElem_cons_succ, List.setIfInBounds_toArray, List.set_cons_zero, List.set_cons_succ]
    refine wpAnyH_done (by kernel_rfl) ?_ _
    clear hHeld hHeld2 hHeld3
    clear hMM c1 c2 c3 c4 hI hI0 hwr
    go_wp2_with fail
    refine (HN.out.2.2 _).mono ?_
    rintro e w' ⟨rfl, rfl⟩
    have hfm := fun W hW hP => format_yes (q * 1000 + 3600000 * g) 0 ⟨by omega, by omega⟩ ⟨by decide, by decide⟩ ⟨by omega, by omega⟩ W hW hP
    obtain ⟨p2, hp⟩ : ∃ p, q * 1000 + 3600000 * g + 0 * 60000 + 62135596800000 = p := ⟨_, rfl⟩
    have hp0 : 0 ≤ p2 := by omega
    obtain ⟨pm, pc, pt⟩ := parts_of hp (by omega)
    rw [hp] at hfm
    obtain ⟨h2, hh⟩ : ∃ h : Nat, p2 / 3600000 % 24 = h := ⟨(p2 / 3600000 % 24).toNat, by omega⟩
    obtain ⟨i2, hi⟩ : ∃ h : Nat, p2 / 60000 % 60 = h := ⟨(p2 / 60000 % 60).toNat, by omega⟩
    obtain ⟨s2, hs⟩ : ∃ h : Nat, p2 / 1000 % 60 = h := ⟨(p2 / 1000 % 60).toNat, by omega⟩
    rw [hh, hi, hs] at pc pt
    have hfl : ∀ y m d : Int, fmtL y m d p2 0 = isoL y.toNat m.toNat d.toNat h2 i2 s2 (p2 % 1000).toNat (zoneL 0) := fun y m d => by rw [fmt_iso, hh, hi, hs]; simp
    have hrec := fun W hW hM => recover_clk h2 i2 s2 (q * 1000) (q * 1000 + 3600000 * g) (p2 / 86400000 - 719162) (by omega) (by omega) (by omega) (by omega) pc pt W hW hM
    have HF2 := Lib.hid (And.intro hfm (And.intro hfl (And.intro pc hrec)))
    clear hfm hfl pc pt pm hrec hp hp0 hh hi hs
    go_wp2_with fail
    refine (HF2.out.1 _ (HT.out.1.below HE2.out.2) (pow_below HT.out.2.2 HE2.out.2)).mono ?_
    rintro e wf ⟨yf, mf, df, rfl, hvf, -, hbf⟩
    rw [HF2.out.2.1]
    have HB9 := Lib.hid (bl_trans HE2.out.2 hbf)
    have hpc := HF2.out.2.2.1
    obtain ⟨f1, f2, f3, f4, f5, f6⟩ := id hvf
    have hd31 := (Cal.len_pos (y := yf) (m := mf) f3 f4).2
    have hic := iso_clock (y := yf.toNat) (m := mf.toNat) (d := df.toNat) (h := h2) (i := i2) (c := s2) (ms := (p2 % 1000).toNat) (Z := zoneL 0) (by omega) (by omega) (by omega) (by have := hpc.1; omega) (by have := hpc.2.1; omega) (by have := hpc.2.2.1; omega)
    obtain ⟨F2, hF2⟩ : ∃ F, isoL yf.toNat mf.toNat df.toNat h2 i2 s2 (p2 % 1000).toNat (zoneL 0) = F := ⟨_, rfl⟩
    rw [hF2] at hic ⊢
    have hsl := fun W => slice_lit ⟨F2.toArray⟩ 11 19 (by omega) (by rw [size_of]; exact hic.2) 11 19 rfl rfl W
    rw [hic.1] at hsl
    have hF29 : ¬ (F2.length : Int) < 19 := by have := hic.2; omega
    clear hbf hvf f1 f2 f3 f4 f5 f6 hd31 hic hF2 hpc
    go_wp2_with fail
    clear hsl
    refine (HF2.out.2.2.2 _ (HT.out.1.below HB9.out) (HT.out.2.1.below HB9.out)).mono ?_
    rintro e wg ⟨rfl, hbg⟩
    have HB10 := Lib.hid (bl_trans HB9.out hbg)
    clear hbg
    go_wp2
    go_ret
    exact ⟨rfl, HB10.out⟩
end Go.Proofs.YtofomlbhbbhdjaaDoor
