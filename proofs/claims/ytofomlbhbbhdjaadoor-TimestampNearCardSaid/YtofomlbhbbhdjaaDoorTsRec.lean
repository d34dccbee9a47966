/- The contract of package timestamp's Recover, where the forms up to the first that fits have theirs. -/
import Derived.Test.YtofomlbhbbhdjaaDoorTsForm2
namespace Go.Proofs.YtofomlbhbbhdjaaDoor
open Go.RowKit

def formF : Nat → FuncId
  | 0 => 51
  | 1 => 52
  | 2 => 53
  | 3 => 54
  | _ => 55
def fnV (k : Nat) : Value := .func (Fn.func (formF k)) #[] #[]
def formsA : Array Value := #[fnV 0, fnV 1, fnV 2, fnV 3, fnV 4]
set_option maxRecDepth 100000 in
theorem forms_any (w : World) :
    Calls Tryd.prog 25 #[] w fun e w' => e = .returned (.slice (some ⟨w.heap.size, 0, none⟩) 5 5) ∧ RowAt w.heap.size 60 formsA w' ∧ Below w.heap.size w w' := by
  go_enter Tryd.func25, Tryd.ntmps25
  go_wp2
  go_ret
  exact ⟨rfl, RowAt.new _ _ w, below_alloc _ _⟩
theorem formsA_cell {w : World} {b : Nat} (h : RowAt b 60 formsA w) (k : Nat) (hk : k < 5) : w.cell? ⟨b, k, none⟩ = some (fnV k) := by
  rw [h.cell k]
  have : ∀ i : Fin 5, formsA[i.1]? = some (fnV i.1) := fun i => by
    rcases i with ⟨i, hi⟩
    have h5 : i = 0 ∨ i = 1 ∨ i = 2 ∨ i = 3 ∨ i = 4 := by omega
    rcases h5 with rfl | rfl | rfl | rfl | rfl <;> rfl
  exact this ⟨k, hk⟩

/-- A form's contract at a string. -/
def FormC (f : FuncId) (s : ByteArray) (ref year zone : Int) (first : Bool) (V E : Int) (P : Nat) : Prop :=
  ∀ (B : Nat) (W : World), CAt s B ⟨0, false⟩ W → Glob B W → Calls Tryd.prog f #[cPtr B, .agg #[.int .i64 ref, .int .i64 year, .int .i64 zone, .bool first]] W (FmOut s B V E P W)
/-- What is found in memory in each round. -/
structure RcInv (b FB : Nat) (hv : Array Value) (w wr : World) : Prop where
  hd : RowAt b 56 hv wr
  fm : RowAt FB 60 formsA wr
  bl : Below w.heap.size w wr
theorem RcInv.below {b FB : Nat} {hv : Array Value} {w wr wd : World} (h : RcInv b FB hv w wr) (k : Below wr.heap.size wr wd) : RcInv b FB hv w wd := ⟨h.hd.below k, h.fm.below k, h.bl.trans (k.mono h.bl.size)⟩
theorem fresh_fr {w w2 : World} {o : Obj} (k : FrP (fun j => j = w.heap.size) (w.alloc o) w2) : Below w.heap.size w w2 := fresh_below rfl k
theorem glob_new {w wr : World} {o : Obj} (hT : DaysT w) (hM : MonT w) (h1 : 1 < w.heap.size) (h2 : 0 < w.heap.size) (hb : Below w.heap.size w wr) : Glob wr.heap.size (wr.alloc o) :=
  ⟨(hT.below hb).alloc o, (hM.below hb).below (below_alloc _ _), Nat.ne_of_gt (Nat.lt_of_lt_of_le h1 hb.size), Nat.ne_of_gt (Nat.lt_of_lt_of_le h2 hb.size)⟩
theorem DaysT.lt {w : World} (h : DaysT w) : 1 < w.heap.size := by
  rcases Nat.lt_or_ge 1 w.heap.size with l | l
  · exact l
  · have hg : Tryd.prog.globalNamed "logtide/calendar.daysBefore" = some 1 := by kernel_rfl
    unfold DaysT Lib.TabIs World.var? at h
    rw [hg] at h
    simp only [Option.bind_some] at h
    rw [Array.getElem?_eq_none (by omega)] at h; cases h
theorem MonT.lt {w : World} (h : MonT w) : 0 < w.heap.size := by
  obtain ⟨t, fz, hh⟩ := h.heap
  exact (Array.getElem?_eq_some_iff.1 hh).1
theorem ic0 : ((0 : Nat) : Int) = 0 := rfl
theorem ic1 : ((1 : Nat) : Int) = 1 := rfl
theorem ic2 : ((2 : Nat) : Int) = 2 := rfl
theorem ic3 : ((3 : Nat) : Int) = 3 := rfl
theorem ic4 : ((4 : Nat) : Int) = 4 := rfl
theorem below_drewN {B : Nat} {a w : World} (h : Below B a w) (n : Nat) : Below B a (w.drewN n) := ⟨h.os, h.tape, h.output, h.size, h.block⟩
theorem rt_iii {a b c d x : Int} (h : a = c) (k : b = d) : Ending.returned (.tuple #[.int .i64 a, .int .i64 b, .int .i64 x]) = .returned (.tuple #[.int .i64 c, .int .i64 d, .int .i64 x]) := by rw [h, k]
def recV (V E : Int) : Int := if E = 0 then V else 0
def recP (E : Int) (P : Nat) : Int := if E = 0 then (P : Int) else 0

set_option maxRecDepth 100000 in
set_option linter.unusedSimpArgs false in
set_option maxHeartbeats 16000000 in
theorem recover_at (s : ByteArray) (hs : s.size ≤ 20000) (ref year zone : Int) (first : Bool) (K : Nat) (hK : K < 5) (V E : Int) (P : Nat)
    (hno : ∀ k, k < K → ∃ p, FormC (formF k) s ref year zone first 0 20 p) (hyes : FormC (formF K) s ref year zone first V E P) (hE : E ≠ 20) (w : World) (hT : DaysT w) (hM : MonT w) :
    Calls Tryd.prog 11 #[.string s, .int .i64 ref, .int .i64 year, .int .i64 zone, .bool first] w fun e w' => e = .returned (.tuple #[.int .i64 (recV V E), .int .i64 (recP E P), .int .i64 E]) ∧ Below w.heap.size w w' := by
  have HG := Lib.hid (And.intro hT (And.intro hM (And.intro hT.lt hM.lt)))
  have HF := Lib.hid (And.intro hno hyes)
  have HV : Hid (∀ V' P', recV V' 0 = V' ∧ recP 0 P' = P') := fun V' P' => ⟨if_pos rfl, if_pos rfl⟩
  have HW : Hid (∀ V' P', E ≠ 0 → recV V' E = 0 ∧ recP E P' = 0) := fun V' P' h => ⟨if_neg h, if_neg h⟩
  have hs2 : ¬ (20000 : Int) < (s.size : Int) := by omega
  have hs3 := Lib.hid hs
  clear hT hM hno hyes hs
  go_enter Tryd.func11, Tryd.ntmps11
  go_wp2_with fail
  refine (forms_any _).mono ?_
  rintro e w1 ⟨rfl, hfm, hb1⟩
  have hb := bl_trans (below_alloc w (.cells #[.int .i64 ref, .int .i64 year, .int .i64 zone, .bool first] 56)) hb1
  have hh := (RowAt.new 56 #[.int .i64 ref, .int .i64 year, .int .i64 zone, .bool first] w).below hb1
  have hFB : (w.alloc (.cells #[.int .i64 ref, .int .i64 year, .int .i64 zone, .bool first] 56)).heap.size = w.heap.size + 1 := by simp
  rw [hFB] at hfm ⊢
  have HI := Lib.hid (show RcInv w.heap.size (w.heap.size + 1) #[.int .i64 ref, .int .i64 year, .int .i64 zone, .bool first] w w1 from ⟨hh, hfm, hb⟩)
  clear hfm hb1 hb hh hFB
  go_wp2_with fail
  go_loopw [29] (fun i wr => ∃ k : Nat, k ≤ K ∧ i = .int .i64 k ∧ RcInv w.heap.size (w.heap.size + 1) #[.int .i64 ref, .int .i64 year, .int .i64 zone, .bool first] w wr) (fun i _ => 5 - (intOf i).toNat)
  case atStart => exact ⟨0, by omega, rfl, HI.out⟩
  case round =>
    obtain ⟨k, hk, rfl, hinv⟩ := hrel
    have hd5 : decide ((k : Int) < 5) = true := by rw [decide_eq_true_iff]; omega
    have hk5 : k < 5 := by omega
    have hcell := formsA_cell hinv.fm k hk5
    have hlt := hinv.hd.lt
    have g0 := hinv.hd.cell 0
    have g1 := hinv.hd.cell 1
    have g2 := hinv.hd.cell 2
    have g3 := hinv.hd.cell 3
    simp only [List.getElem?_toArray, List.getElem?_cons_zero, List.getElem?_cons_succ] at g0 g1 g2 g3
    have hnew := CAt.new hs3.out wr
    have hgl := glob_new (o := .cells #[.string s, .int .i64 0, .bool false] 62) HG.out.1 HG.out.2.1 HG.out.2.2.1 HG.out.2.2.2 hinv.bl
    have HI2 := Lib.hid (And.intro hinv (And.intro hnew hgl))
    clear hinv hnew hgl
    rcases Nat.lt_or_eq_of_le hk with hkK | hkK
    · obtain ⟨p, hfc⟩ := HF.out.1 k hkK
      have HC := Lib.hid (fun B W h1 h2 => hfc B W h1 h2)
      have HK := Lib.hid hkK
      have H5 := Lib.hid hk5
      clear hfc hk hkK hk5 hd5
      have h5 : k = 0 ∨ k = 1 ∨ k = 2 ∨ k = 3 ∨ k = 4 := by have := H5.out; omega
      rcases h5 with rfl | rfl | rfl | rfl | rfl
      all_goals
        simp only [fnV, formF, ic0, ic1, ic2, ic3, ic4] at hcell ⊢
        go_wp2_with fail
        refine (HC.out _ _ HI2.out.2.1 HI2.out.2.2).mono ?_
        rintro e w2 ⟨rfl, ⟨b, hc2⟩, hf2⟩
        have HB := Lib.hid (HI2.out.1.below (fresh_fr hf2))
        clear hc2 hf2
        go_wp2
        go_roundw
        case rel => exact ⟨_, HK.out, rfl, HB.out⟩
        case measure => simp [intOf]
    · have HC := Lib.hid (fun B W h1 h2 => HF.out.2 B W h1 h2)
      rw [← hkK] at HC
      have H5 := Lib.hid hk5
      clear hk hkK hk5 hd5
      have h5 : k = 0 ∨ k = 1 ∨ k = 2 ∨ k = 3 ∨ k = 4 := by have := H5.out; omega
      by_cases h0 : E = 0
      · subst h0
        have HVV := Lib.hid (HV.out V P)
        clear hE HW
        rcases h5 with rfl | rfl | rfl | rfl | rfl
        all_goals
          simp only [fnV, formF, ic0, ic1, ic2, ic3, ic4] at hcell ⊢
          go_wp2_with fail
          refine (HC.out _ _ HI2.out.2.1 HI2.out.2.2).mono ?_
          rintro e w2 ⟨rfl, ⟨b, hc2⟩, hf2⟩
          have HB := Lib.hid (HI2.out.1.below (fresh_fr hf2))
          obtain ⟨c0, c1, c2, -, -, -⟩ := hc2.parts
          simp only at c1
          clear hc2 hf2
          go_wp2
          go_quiet (fail)
          go_wp2
          exact bodyPost_ret (v := .tuple #[.int .i64 V, .int .i64 (P : Int), .int .i64 0]) (by simp [results, Tryd.results11, go_sem]) rfl ⟨rt_iii HVV.out.1.symm HVV.out.2.symm, below_drewN HB.out.bl _⟩
      · have HVV := Lib.hid (HW.out V P h0)
        have e1 : (E == 0) = false := by rw [beq_eq_false_iff_ne]; exact h0
        have e2 : (E == 20) = false := by rw [beq_eq_false_iff_ne]; exact hE
        clear HW h0 hE
        rcases h5 with rfl | rfl | rfl | rfl | rfl
        all_goals
          simp only [fnV, formF, ic0, ic1, ic2, ic3, ic4] at hcell ⊢
          go_wp2_with fail
          refine (HC.out _ _ HI2.out.2.1 HI2.out.2.2).mono ?_
          rintro e w2 ⟨rfl, ⟨b, hc2⟩, hf2⟩
          have HB := Lib.hid (HI2.out.1.below (fresh_fr hf2))
          clear hc2 hf2
          go_wp2
          exact bodyPost_ret (v := .tuple #[.int .i64 0, .int .i64 0, .int .i64 E]) (by simp [results, Tryd.results11, go_sem]) rfl ⟨rt_iii HVV.out.1.symm HVV.out.2.symm, HB.out.bl⟩
end Go.Proofs.YtofomlbhbbhdjaaDoor
