/- The contract of package timestamp's Recover, where the forms up to the first that fits have theirs. When the nearest of three times is known; the chapter's example. The sanity check of layer 6; near of its statements. -/
import Derived.Test.YtpbfgafkoodeoaaDoorRvH
namespace Go.Proofs.YtpbfgafkoodeoaaDoor
open Go.RowKit

def formF : Nat → FuncId
  | 0 => 32
  | 1 => 33
  | 2 => 34
  | 3 => 35
  | _ => 36
def fnV (k : Nat) : Value := .func (Fn.func (formF k)) #[] #[]
def formsA : Array Value := #[fnV 0, fnV 1, fnV 2, fnV 3, fnV 4]
set_option maxRecDepth 100000 in
theorem forms_any (w : World) :
    Calls Tryd.prog 16 #[] w fun e w' => e = .returned (.slice (some ⟨w.heap.size, 0, none⟩) 5 5) ∧ RowAt w.heap.size 52 formsA w' ∧ Below w.heap.size w w' := by
  go_enter Tryd.func16, Tryd.ntmps16
  go_wp2
  go_ret
  exact ⟨rfl, RowAt.new _ _ w, below_alloc _ _⟩
theorem formsA_cell {w : World} {b : Nat} (h : RowAt b 52 formsA w) (k : Nat) (hk : k < 5) : w.cell? ⟨b, k, none⟩ = some (fnV k) := by
  rw [h.cell k]
  have : ∀ i : Fin 5, formsA[i.1]? = some (fnV i.1) := fun i => by
    rcases i with ⟨i, hi⟩
    have h5 : i = 0 ∨ i = 1 ∨ i = 2 ∨ i = 3 ∨ i = 4 := by omega
    rcases h5 with rfl | rfl | rfl | rfl | rfl <;> rfl
  exact this ⟨k, hk⟩

/-- A form's contract at a string. -/
def FormC (f : FuncId) (s : ByteArray) (ref year zone : Int) (first : Bool) (V E : Int) (P : Nat) : Prop :=
  ∀ (B : Nat) (W : World), CAt s B ⟨0, false⟩ W → Glob B W → Calls Tryd.prog f #[cPtr B, .agg #[.int .i64 ref, .int .i64 year, .int .i64 zone, .bool first]] W (FmOut s B V E P W)
/-- What is found in memory in each round. -/
structure RcInv (b FB : Nat) (hv : Array Value) (w wr : World) : Prop where
  hd : RowAt b 48 hv wr
  fm : RowAt FB 52 formsA wr
  bl : Below w.heap.size w wr
theorem RcInv.below {b FB : Nat} {hv : Array Value} {w wr wd : World} (h : RcInv b FB hv w wr) (k : Below wr.heap.size wr wd) : RcInv b FB hv w wd := ⟨h.hd.below k, h.fm.below k, h.bl.trans (k.mono h.bl.size)⟩
theorem fresh_fr {w w2 : World} {o : Obj} (k : FrP (fun j => j = w.heap.size) (w.alloc o) w2) : Below w.heap.size w w2 := fresh_below rfl k
theorem glob_new {w wr : World} {o : Obj} (hT : DaysT w) (hM : MonT w) (h1 : 0 < w.heap.size) (h2 : 1 < w.heap.size) (hb : Below w.heap.size w wr) : Glob wr.heap.size (wr.alloc o) :=
  ⟨(hT.below hb).alloc o, (hM.below hb).below (below_alloc _ _), Nat.ne_of_gt (Nat.lt_of_lt_of_le h1 hb.size), Nat.ne_of_gt (Nat.lt_of_lt_of_le h2 hb.size)⟩
theorem DaysT.lt {w : World} (h : DaysT w) : 0 < w.heap.size := by
  rcases Nat.lt_or_ge 0 w.heap.size with l | l
  · exact l
  · have hg : Tryd.prog.globalNamed "logtide/calendar.daysBefore" = some 0 := by kernel_rfl
    unfold DaysT Lib.TabIs World.var? at h
    rw [hg] at h
    simp only [Option.bind_some] at h
    rw [Array.getElem?_eq_none (by omega)] at h; cases h
theorem MonT.lt {w : World} (h : MonT w) : 1 < w.heap.size := by
  obtain ⟨t, fz, hh⟩ := h.heap
  exact (Array.getElem?_eq_some_iff.1 hh).1
theorem ic0 : ((0 : Nat) : Int) = 0 := rfl
theorem ic1 : ((1 : Nat) : Int) = 1 := rfl
theorem ic2 : ((2 : Nat) : Int) = 2 := rfl
theorem ic3 : ((3 : Nat) : Int) = 3 := rfl
theorem ic4 : ((4 : Nat) : Int) = 4 := rfl
theorem below_drewN {B : Nat} {a w : World} (h : Below B a w) (n : Nat) : Below B a (w.drewN n) := ⟨h.os, h.tape, h.output, h.size, h.block⟩
theorem rt_iii {a b c d x : Int} (h : a = c) (k : b = d) : Ending.returned (.tuple #[.int .i64 a, .int .i64 b, .int .i64 x]) = .returned (.tuple #[.int .i64 c, .int .i64 d, .int .i64 x]) := by rw [h, k]
def recV (V E : Int) : Int := if E = 0 then V else 0
def recP (E : Int) (P : Nat) : Int := if E = 0 then (P : Int) else 0

set_option maxRecDepth 100000 in
set_option linter.unusedSimpArgs false in
set_option maxHeartbeats 16000000 in
theorem recover_at (s : ByteArray) (hs : s.size ≤ 20000) (ref year zone : Int) (first : Bool) (K : Nat) (hK : K < 5) (V E : Int) (P : Nat)
    (hno : ∀ k, k < K → ∃ p, FormC (formF k) s ref year zone first 0 20 p) (hyes : FormC (formF K) s ref year zone first V E P) (hE : E ≠ 20) (w : World) (hT : DaysT w) (hM : MonT w) :
    Calls Tryd.prog 8 #[.string s, .int .i64 ref, .int .i64 year, .int .i64 zone, .bool first] w fun e w' => e = .returned (.tuple #[.int .i64 (recV V E), .int .i64 (recP E P), .int .i64 E]) ∧ Below w.heap.size w w' := by
  have HG := Lib.hid (And.intro hT (And.intro hM (And.intro hT.lt hM.lt)))
  have HF := Lib.hid (And.intro hno hyes)
  have HV : Hid (∀ V' P', recV V' 0 = V' ∧ recP 0 P' = P') := fun V' P' => ⟨if_pos rfl, if_pos rfl⟩
  have HW : Hid (∀ V' P', E ≠ 0 → recV V' E = 0 ∧ recP E P' = 0) := fun V' P' h => ⟨if_neg h, if_neg h⟩
  have hs2 : ¬ (20000 : Int) < (s.size : Int) := by omega
  have hs3 := Lib.hid hs
  clear hT hM hno hyes hs
  go_enter Tryd.func8, Tryd.ntmps8
  go_wp2_with fail
  refine (forms_any _).mono ?_
  rintro e w1 ⟨rfl, hfm, hb1⟩
  have hb := bl_trans (below_alloc w (.cells #[.int .i64 ref, .int .i64 year, .int .i64 zone, .bool first] 48)) hb1
  have hh := (RowAt.new 48 #[.int .i64 ref, .int .i64 year, .int .i64 zone, .bool first] w).below hb1
  have hFB : (w.alloc (.cells #[.int .i64 ref, .int .i64 year, .int .i64 zone, .bool first] 48)).heap.size = w.heap.size + 1 := by simp
  rw [hFB] at hfm ⊢
  have HI := Lib.hid (show RcInv w.heap.size (w.heap.size + 1) #[.int .i64 ref, .int .i64 year, .int .i64 zone, .bool first] w w1 from ⟨hh, hfm, hb⟩)
  clear hfm hb1 hb hh hFB
  go_wp2_with fail
  go_loopw [29] (fun i wr => ∃ k : Nat, k ≤ K ∧ i = .int .i64 k ∧ RcInv w.heap.size (w.heap.size + 1) #[.int .i64 ref, .int .i64 year, .int .i64 zone, .bool first] w wr) (fun i _ => 5 - (intOf i).toNat)
  case atStart => exact ⟨0, by omega, rfl, HI.out⟩
  case round =>
    obtain ⟨k, hk, rfl, hinv⟩ := hrel
    have hd5 : decide ((k : Int) < 5) = true := by rw [decide_eq_true_iff]; omega
    have hk5 : k < 5 := by omega
    have hcell := formsA_cell hinv.fm k hk5
    have hlt := hinv.hd.lt
    have g0 := hinv.hd.cell 0
    have g1 := hinv.hd.cell 1
    have g2 := hinv.hd.cell 2
    have g3 := hinv.hd.cell 3
    simp only [List.getElem?_toArray, List.getElem?_cons_zero, List.getElem?_cons_succ] at g0 g1 g2 g3
    have hnew := CAt.new hs3.out wr
    have hgl := glob_new (o := .cells #[.string s, .int .i64 0, .bool false] 54) HG.out.1 HG.out.2.1 HG.out.2.2.1 HG.out.2.2.2 hinv.bl
    have HI2 := Lib.hid (And.intro hinv (And.intro hnew hgl))
    clear hinv hnew hgl
    rcases Nat.lt_or_eq_of_le hk with hkK | hkK
    · obtain ⟨p, hfc⟩ := HF.out.1 k hkK
      have HC := Lib.hid (fun B W h1 h2 => hfc B W h1 h2)
      have HK := Lib.hid hkK
      have H5 := Lib.hid hk5
      clear hfc hk hkK hk5 hd5
      have h5 : k = 0 ∨ k = 1 ∨ k = 2 ∨ k = 3 ∨ k = 4 := by have := H5.out; omega
      rcases h5 with rfl | rfl | rfl | rfl | rfl
      all_goals
        simp only [fnV, formF, ic0, ic1, ic2, ic3, ic4] at hcell ⊢
        go_wp2_with fail
        refine (HC.out _ _ HI2.out.2.1 HI2.out.2.2).mono ?_
        rintro e w2 ⟨rfl, ⟨b, hc2⟩, hf2⟩
        have HB := Lib.hid (HI2.out.1.below (fresh_fr hf2))
        clear hc2 hf2
        go_wp2
        go_roundw
        case rel => exact ⟨_, HK.out, rfl, HB.out⟩
        case measure => simp [intOf]
    · have HC := Lib.hid (fun B W h1 h2 => HF.out.2 B W h1 h2)
      rw [← hkK] at HC
      have H5 := Lib.hid hk5
      clear hk hkK hk5 hd5
      have h5 : k = 0 ∨ k = 1 ∨ k = 2 ∨ k = 3 ∨ k = 4 := by have := H5.out; omega
      by_cases h0 : E = 0
      · subst h0
        have HVV := Lib.hid (HV.out V P)
        clear hE HW
        rcases h5 with rfl | rfl | rfl | rfl | rfl
        all_goals
          simp only [fnV, formF, ic0, ic1, ic2, ic3, ic4] at hcell ⊢
          go_wp2_with fail
          refine (HC.out _ _ HI2.out.2.1 HI2.out.2.2).mono ?_
          rintro e w2 ⟨rfl, ⟨b, hc2⟩, hf2⟩
          have HB := Lib.hid (HI2.out.1.below (fresh_fr hf2))
          obtain ⟨c0, c1, c2, -, -, -⟩ := hc2.parts
          simp only at c1
          clear hc2 hf2
          go_wp2
          go_quiet (fail)
          go_wp2
          exact bodyPost_ret (v := .tuple #[.int .i64 V, .int .i64 (P : Int), .int .i64 0]) (by simp [results, Tryd.results8, go_sem]) rfl ⟨rt_iii HVV.out.1.symm HVV.out.2.symm, below_drewN HB.out.bl _⟩
      · have HVV := Lib.hid (HW.out V P h0)
        have e1 : (E == 0) = false := by rw [beq_eq_false_iff_ne]; exact h0
        have e2 : (E == 20) = false := by rw [beq_eq_false_iff_ne]; exact hE
        clear HW h0 hE
        rcases h5 with rfl | rfl | rfl | rfl | rfl
        all_goals
          simp only [fnV, formF, ic0, ic1, ic2, ic3, ic4] at hcell ⊢
          go_wp2_with fail
          refine (HC.out _ _ HI2.out.2.1 HI2.out.2.2).mono ?_
          rintro e w2 ⟨rfl, ⟨b, hc2⟩, hf2⟩
          have HB := Lib.hid (HI2.out.1.below (fresh_fr hf2))
          clear hc2 hf2
          go_wp2
          exact bodyPost_ret (v := .tuple #[.int .i64 0, .int .i64 0, .int .i64 E]) (by simp [results, Tryd.results8, go_sem]) rfl ⟨rt_iii HVV.out.1.symm HVV.out.2.symm, HB.out.bl⟩
end Go.Proofs.YtpbfgafkoodeoaaDoor

namespace Go.Proofs.YtpbfgafkoodeoaaDoor

theorem mil_val {x : D7} {z : Int} (h : chkOk x.y x.m x.d x.h x.i x.s x.c) (hz : isZ z) (ht : isT (msOf x.y x.m x.d x.h x.i x.s x.c z)) : x.mV z = msOf x.y x.m x.d x.h x.i x.s x.c z ∧ x.mE z = 0 := by
  unfold D7.mV D7.mE milV milE
  rw [if_pos ⟨h, hz, ht⟩, if_pos h, if_pos ⟨hz, ht⟩]
  exact ⟨rfl, rfl⟩
theorem mil_is {x : D7} {z : Int} (h : x.mE z = 0) : chkOk x.y x.m x.d x.h x.i x.s x.c ∧ isZ z ∧ x.mV z = msOf x.y x.m x.d x.h x.i x.s x.c z := by
  unfold D7.mE milE at h
  by_cases H : chkOk x.y x.m x.d x.h x.i x.s x.c
  · rw [if_pos H] at h
    by_cases H2 : isZ z ∧ isT (msOf x.y x.m x.d x.h x.i x.s x.c z)
    · refine ⟨H, H2.1, ?_⟩
      unfold D7.mV milV
      rw [if_pos ⟨H, H2.1, H2.2⟩]
    · rw [if_neg H2] at h; omega
  · rw [if_neg H] at h; omega
/-- The time that is nearer than all others is found. -/
theorem near_pick (ref z t : Int) (xs : Nat → D7) (j : Nat) (he : (xs j).mE z = 0) (hv : (xs j).mV z = t)
    (hf : ∀ k, k ≠ j → (xs k).mE z = 0 → dist t ref < dist ((xs k).mV z) ref) :
    ∀ n, (n ≤ j → (nfold ref z xs n).2 ≠ 0 ∨ dist t ref < dist (nfold ref z xs n).1 ref) ∧ (j < n → nfold ref z xs n = (t, 0)) := by
  intro n
  induction n with
  | zero => exact ⟨fun _ => .inl (by unfold nfold; simp), fun h => by omega⟩
  | succ n ih =>
    unfold nfold nstep
    refine ⟨fun h => ?_, fun h => ?_⟩
    · have ih1 := ih.1 (by omega)
      by_cases e : (xs n).mE z = 0
      · rw [if_neg (by simpa using e)]
        split
        · exact .inr (hf n (by omega) e)
        · exact ih1
      · rw [if_pos e]; exact ih1
    · rcases Nat.lt_or_ge j n with l | l
      · rw [ih.2 l]
        by_cases e : (xs n).mE z = 0
        · have := hf n (by omega) e
          rw [if_neg (by simpa using e), if_neg (by simp; omega)]
        · rw [if_pos e]
      · obtain rfl : n = j := by omega
        have ih1 := ih.1 (Nat.le_refl _)
        rw [if_neg (by simpa using he), hv, if_pos ih1]

/-- The same day of a later year is at least 365 days later. -/
theorem num_apart {y y' m d : Int} (h : y < y') : Cal.num y m d + 365 ≤ Cal.num y' m d := by
  have h1 := Cal.bef_succ y
  have h2 := Cal.bef_mono (show y + 1 ≤ y' by omega)
  unfold Cal.num Cal.cum
  by_cases h3 : 3 ≤ m <;> cases hl : Cal.leap y <;> cases hl' : Cal.leap y' <;> rw [hl] at h1 <;> simp [h3] at h1 ⊢ <;> omega

/-- The chapter's example. -/
def exS : ByteArray := ⟨#[68, 101, 99, 32, 51, 49, 32, 50, 51, 58, 53, 57, 58, 53, 57, 32, 120]⟩
theorem ex_full : (fu8 exS).bad = true := by decide +kernel
theorem ex_bad : (sy6 exS).bad = false := by decide +kernel
theorem ex_pos : (sy6 exS).pos = 15 := by decide +kernel
theorem ex_date : (syD exS 0).m = 12 ∧ (syD exS 0).d = 31 ∧ (syD exS 0).h = 23 ∧ (syD exS 0).i = 59 ∧ (syD exS 0).s = 59 ∧ (syD exS 0).c = 0 := by decide +kernel
def exRef : Int := 1767312000000
def exT : Int := 1767225599000
theorem ex_num : Cal.num 2026 1 2 = 20455 ∧ Cal.num 2025 12 31 = 20453 ∧ Cal.num 2026 12 31 = 20818 ∧ Cal.num 2027 12 31 = 21183 := by decide +kernel
theorem ex_ref : D7.mV ⟨2026, 1, 2, 0, 0, 0, 0⟩ 0 = exRef ∧ D7.mE ⟨2026, 1, 2, 0, 0, 0, 0⟩ 0 = 0 := by
  have h := mil_val (x := ⟨2026, 1, 2, 0, 0, 0, 0⟩) (z := 0) (by unfold chkOk Cal.valid clockOk; decide) ⟨by decide, by decide⟩ (by unfold msOf isT; rw [ex_num.1]; decide)
  rw [h.1, h.2]
  unfold msOf exRef
  rw [ex_num.1]
  decide
theorem ex_near : neB (syD exS 0) exRef 0 = (exT, 0) := by
  have hok : okT exRef 0 := ⟨⟨by decide, by decide⟩, ⟨by decide, by decide⟩, ⟨by decide, by decide⟩⟩
  unfold neB
  rw [if_pos hok]
  have hc : civT (pOf exRef 0 / 86400000 - 719162) = (2026, 1, 2) := civT_is (by unfold Cal.valid; decide) (by rw [ex_num.1]; decide)
  rw [hc]
  obtain ⟨e1, e2, e3, e4, e5, e6⟩ := ex_date
  have hy : ∀ k : Nat, yrs 2026 (syD exS 0) k = ⟨2026 - 1 + k, 12, 31, 23, 59, 59, 0⟩ := fun k => by unfold yrs; rw [e1, e2, e3, e4, e5, e6]
  have h0 := mil_val (x := ⟨2025, 12, 31, 23, 59, 59, 0⟩) (z := 0) (by unfold chkOk Cal.valid clockOk; decide) ⟨by decide, by decide⟩ (by unfold msOf isT; rw [ex_num.2.1]; decide)
  refine (near_pick exRef 0 exT _ 0 (by rw [hy]; exact h0.2) (by rw [hy]; exact h0.1.trans (by unfold msOf exT; rw [ex_num.2.1]; decide)) (fun k hk he => ?_) 3).2 (by omega)
  rw [hy] at he ⊢
  have hm := mil_is he
  rw [hm.2.2]
  have hn := num_apart (y := 2025) (y' := 2026 - 1 + k) (m := 12) (d := 31) (by omega)
  rw [ex_num.2.1] at hn
  unfold msOf dist exT exRef
  simp only
  omega
end Go.Proofs.YtpbfgafkoodeoaaDoor

namespace Go.Proofs.YtpbfgafkoodeoaaDoor
open Go.RowKit

theorem tmod_neg_bd6 {x n : Int} (hx : x < 0) (hn : 1 ≤ n) : -n < x.tmod n ∧ x.tmod n ≤ 0 := by
  obtain ⟨u, rfl⟩ : ∃ u, x = -u := ⟨-x, by omega⟩
  rw [Int.neg_tmod, Int.tmod_eq_emod_of_nonneg (by omega)]
  have h1 := Int.emod_nonneg u (show n ≠ 0 by omega)
  have h2 := Int.emod_lt_of_pos u (show 0 < n by omega)
  omega
/-- Some number from lo to hi, the same at each call. -/
def modN (x n : Int) : Int := if 0 ≤ x.tmod n then x.tmod n else x.tmod n + n
def nearN (x lo hi : Int) : Int := lo + modN x (hi - lo + 1)
theorem modN_bd {x n : Int} (hn : 1 ≤ n) : 0 ≤ modN x n ∧ modN x n ≤ n - 1 := by
  unfold modN
  by_cases hx : 0 ≤ x
  · rw [Int.tmod_eq_emod_of_nonneg hx]
    have h1 := Int.emod_nonneg x (show n ≠ 0 by omega)
    have h2 := Int.emod_lt_of_pos x (show 0 < n by omega)
    rw [if_pos h1]; omega
  · have := tmod_neg_bd6 (x := x) (n := n) (by omega) hn
    split <;> omega
theorem nearN_bd {x lo hi : Int} (h : lo ≤ hi) : lo ≤ nearN x lo hi ∧ nearN x lo hi ≤ hi := by
  have := modN_bd (x := x) (n := hi - lo + 1) (by omega)
  unfold nearN; omega
set_option maxRecDepth 100000 in
set_option maxHeartbeats 1000000 in
theorem mod6_any (x n : Int) (h0 : -9223372036854775808 ≤ x) (h1 : x ≤ 9223372036854775807) (hn : 1 ≤ n) (hn2 : n ≤ 4611686018427387904) (w : World) :
    Calls Tryd.prog 15 #[.int .i64 x, .int .i64 n] w fun e w' => e = .returned (.int .i64 (modN x n)) ∧ w = w' := by
  by_cases hx : 0 ≤ x
  · have m1 := Int.emod_nonneg x (show n ≠ 0 by omega)
    have m2 := Int.emod_lt_of_pos x (show 0 < n by omega)
    have e1 : x.tmod n = x % n := Int.tmod_eq_emod_of_nonneg hx
    have hv : modN x n = x % n := by unfold modN; rw [e1, if_pos m1]
    rw [hv]
    obtain ⟨t, ht⟩ : ∃ t, x % n = t := ⟨_, rfl⟩
    rw [ht] at m1 m2 e1 ⊢
    clear hv
    go_enter Tryd.func15, Tryd.ntmps15
    go_wp2
    go_ret
    exact ⟨rfl, rfl⟩
  · have hb := tmod_neg_bd6 (x := x) (n := n) (by omega) hn
    have hv : modN x n = (if 0 ≤ x.tmod n then x.tmod n else x.tmod n + n) := rfl
    obtain ⟨t, ht⟩ : ∃ t, x.tmod n = t := ⟨_, rfl⟩
    rw [ht] at hb hv
    rw [hv]
    clear hv
    by_cases h : t < 0
    · rw [if_neg (by omega)]
      go_enter Tryd.func15, Tryd.ntmps15
      go_wp2
      go_ret
      exact ⟨rfl, rfl⟩
    · rw [if_pos (by omega)]
      go_enter Tryd.func15, Tryd.ntmps15
      go_wp2
      go_ret
      exact ⟨rfl, rfl⟩
set_option maxRecDepth 100000 in
set_option maxHeartbeats 1000000 in
theorem near6_any (x lo hi : Int) (h0 : -9223372036854775808 ≤ x) (h1 : x ≤ 9223372036854775807) (hl : lo ≤ hi) (hlo : -1152921504606846976 ≤ lo) (hhi : hi ≤ 1152921504606846976) (w : World) :
    Calls Tryd.prog 7 #[.int .i64 x, .int .i64 lo, .int .i64 hi] w fun e w' => e = .returned (.int .i64 (nearN x lo hi)) ∧ w = w' := by
  have hm := mod6_any x (hi - lo + 1) h0 h1 (by omega) (by omega) w
  have hb := modN_bd (x := x) (n := hi - lo + 1) (by omega)
  have hv : nearN x lo hi = lo + modN x (hi - lo + 1) := rfl
  obtain ⟨r, hr⟩ : ∃ r, modN x (hi - lo + 1) = r := ⟨_, rfl⟩
  rw [hr] at hm hb hv
  rw [hv]
  have HM := Lib.hid hm
  clear h0 h1 hm hr hv
  go_enter Tryd.func7, Tryd.ntmps7
  go_wp2_with fail
  refine (HM.out).mono ?_
  rintro e w' ⟨rfl, rfl⟩
  go_wp2
  go_ret
  exact ⟨rfl, rfl⟩

theorem ex_recover (w : World) (hT : DaysT w) (hM : MonT w) :
    Calls Tryd.prog 8 #[.string exS, .int .i64 exRef, .int .i64 0, .int .i64 0, .bool false] w fun e w' => e = .returned (.tuple #[.int .i64 exT, .int .i64 15, .int .i64 0]) ∧ Below w.heap.size w w' := by
  have hV : syV exS exRef 0 0 = exT := by unfold syV; rw [ex_bad, if_neg (by simp), if_pos rfl, ex_near]
  have hE : syE exS exRef 0 0 = 0 := by unfold syE; rw [ex_bad, if_neg (by simp), if_pos rfl, ex_near]
  have h := recover_at exS (by decide) exRef 0 0 false 1 (by omega) exT 0 15
    (fun k hk => ⟨_, fun B W hc hg => by
      obtain rfl : k = 0 := by omega
      have hv : fuV exS 0 = 0 ∧ fuE exS 0 = 20 := ⟨if_pos ex_full, if_pos ex_full⟩
      have := full_any exS B exRef 0 0 false W hc hg
      rw [hv.1, hv.2] at this
      exact this⟩)
    (fun B W hc hg => by
      have := syslog_any exS B exRef 0 0 false W hc hg
      rw [hV, hE, ex_pos] at this
      exact this) (by omega) w hT hM
  exact h
theorem ex_dates (w : World) (hT : DaysT w) :
    Calls Tryd.prog 11 #[.int .i64 exT, .int .i64 0] w fun e w' => (∃ m d : Int, e = .returned (.tuple #[dateV 2025 m d 63902822399000, .int .i64 0])) ∧ Below w.heap.size w w' := by
  refine (dates_yes exT 0 ⟨by decide, by decide⟩ ⟨by decide, by decide⟩ ⟨by decide, by decide⟩ w hT).mono fun e w' ⟨y, m, d, he, hv, hn, hb⟩ => ?_
  obtain ⟨rfl, rfl, rfl⟩ := Cal.num_inj hv (show Cal.valid 2025 12 31 by unfold Cal.valid; decide) (by rw [hn, ex_num.2.1]; decide)
  exact ⟨⟨12, 31, he⟩, hb⟩

set_option maxRecDepth 100000 in
set_option maxHeartbeats 4000000 in
theorem awake6_any (w : World) (hT : DaysT w) (hM : MonT w) :
    Calls Tryd.prog 4 #[] w fun e w' => e = .returned (.bool true) ∧ Below w.heap.size w w' := by
  have h1 := mil_any ⟨2026, 1, 2, 0, 0, 0, 0⟩ 0 w hT
  rw [ex_ref.1, ex_ref.2] at h1
  have H1 := Lib.hid h1
  have H2 := Lib.hid (fun W h h' => ex_recover W h h')
  have H3 := Lib.hid (fun W h => ex_dates W h)
  have HT := Lib.hid (And.intro hT hM)
  obtain ⟨R, hR⟩ : ∃ R, exRef = R := ⟨_, rfl⟩
  obtain ⟨T, hTT⟩ : ∃ T, exT = T := ⟨_, rfl⟩
  rw [hR] at H1 H2
  rw [hTT] at H2 H3
  unfold exS at H2
  clear h1 hT hM hR hTT
  go_enter Tryd.func4, Tryd.ntmps4
  go_wp2_with fail
  refine (H1.out).mono ?_
  rintro e w1 ⟨rfl, hb1⟩
  have HB1 := Lib.hid hb1
  clear hb1
  go_wp2_with fail
  refine (H2.out _ (HT.out.1.below HB1.out) (HT.out.2.below HB1.out)).mono ?_
  rintro e w2 ⟨rfl, hb2⟩
  have HB2 := Lib.hid (bl_trans HB1.out hb2)
  clear hb2
  go_wp2_with fail
  refine (H3.out _ (HT.out.1.below HB2.out)).mono ?_
  rintro e w3 ⟨⟨m, d, rfl⟩, hb3⟩
  have HB3 := Lib.hid (bl_trans HB2.out hb3)
  clear hb3
  unfold dateV
  go_wp2
  go_ret
  exact ⟨rfl, bl_trans HB3.out (below_alloc _ _)⟩
end Go.Proofs.YtpbfgafkoodeoaaDoor
