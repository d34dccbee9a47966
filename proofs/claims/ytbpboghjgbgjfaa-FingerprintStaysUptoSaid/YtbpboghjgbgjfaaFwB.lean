/- wanted of package fingerprint, at the two names of FingerprintStays. The order of fingerprint's compare. -/
import Derived.Test.YtbpboghjgbgjfaaFpM
import Derived.Test.YtbpboghjgbgjfaaFpB
import Derived.Sort.Statements
namespace Go.Proofs.Ytbpboghjgbgjfaa
open Go.RowKit Go.Maps Go.ChangeMaps

def tP (k : Nat) : ByteArray := if k = 0 then bsP else bsQ
theorem tP_pre (k : Nat) : Lib.hasPrefix (tP k).data.toList bsP.data.toList = true := by
  unfold tP
  split <;> decide
def mapP : Nat → DataW HV
  | 0 => .map []
  | k + 1 => (mapP k).put (.int .i64 ((k : Int) + 1)) (.held (.string (tP k)))
def WanOut (w : World) (e : Ending) (w' : World) : Prop := ∃ B, e = .returned (.map (some B)) ∧ w'.ownsMap Try.prog 3 heldR B 2 (mapP 2) ∧ w.heap.size ≤ B ∧ Below w.heap.size w w'
set_option maxRecDepth 100000 in
set_option linter.unusedSimpArgs false in
set_option maxHeartbeats 4000000 in
theorem wanted_P {fs : List FileV} {nv fv : Value} {w : World} (h : FsAt [(bsP, 1), (bsQ, 2)] fs [] nv fv (.slice none 0 0) w) :
    Calls Try.prog 16 #[.agg #[nv, fv, .slice none 0 0], .string bsP] w (WanOut w) := by
  obtain ⟨a, c, rfl, -, halt, hcap, hcm⟩ := row_some h.n (by simp)
  obtain ⟨fa, fm, fc, rfl⟩ := row_slice h.f
  have hcell : ∀ k : Nat, k < 2 → w.cell? ⟨a, k * 2, none⟩ = some (.string (tP k)) ∧ w.cell? ⟨a, k * 2 + 1, none⟩ = some (.int .i64 ((k : Int) + 1)) := fun k hk => by
    have h3 : k = 0 ∨ k = 1 := (by omega)
    rcases h3 with rfl | rfl
    · exact NmR.cells h.n (i := 0) (by simp)
    · exact NmR.cells h.n (i := 1) (by simp)
  have H := Lib.hid (And.intro hcell halt)
  have hcap2 : 2 ≤ c := hcap
  have hbn := below_new w (.cells #[.slice (some ⟨a, 0, none⟩) 2 c, .slice fa fm fc, .slice none 0 0] 33)
  have hz1 : (w.alloc (.cells #[.slice (some ⟨a, 0, none⟩) 2 c, .slice fa fm fc, .slice none 0 0] 33)).heap.size = w.heap.size + 1 := by simp
  have hbm := below_new (w.alloc (.cells #[.slice (some ⟨a, 0, none⟩) 2 c, .slice fa fm fc, .slice none 0 0] 33)) (.map #[] 0)
  have hmk : ((w.alloc (.cells #[.slice (some ⟨a, 0, none⟩) 2 c, .slice fa fm fc, .slice none 0 0] 33)).alloc (.map #[] 0)).ownsMap Try.prog 3 heldR (w.heap.size + 1) 0 (mapP 0) := hz1 ▸ World.ownsMap_made _ _ _ _
  have H1 := Lib.hid (And.intro hmk (bl_trans' hbn hbm))
  clear hcell hcap hcm h halt hbn hz1 hbm hmk
  have hmm := @run_makeMap Try.prog
  go_enter Try.func16, Try.ntmps16
  go_wp2_with fail
  go_loop [14] (fun v => v = .int .i64 0) (fun v => 0)
  case atStart => rfl
  case round =>
    obtain rfl := hrel
    go_wp2_with fail
    go_loopw [24] (fun v wr => ∃ k : Nat, k ≤ 2 ∧ v = .int .i64 k ∧ wr.ownsMap Try.prog 3 heldR (w.heap.size + 1) k (mapP k) ∧ Below w.heap.size w wr) (fun v _ => 2 - (intOf v).toNat)
    case atStart => exact ⟨0, by omega, rfl, H1.out.1, H1.out.2⟩
    case round =>
      obtain ⟨k, hk, rfl, hm, hb⟩ := hrel
      by_cases hlt : k < 2
      · have d1 : decide ((k : Int) < 2) = true := by rw [decide_eq_true_iff]; omega
        have hcc := H.out.1 k hlt
        have c0 : wr.cell? ⟨a, k * 2, none⟩ = some (.string (tP k)) := (hb.cell (p := ⟨a, k * 2, none⟩) H.out.2).trans hcc.1
        have c1 : wr.cell? ⟨a, k * 2 + 1, none⟩ = some (.int .i64 ((k : Int) + 1)) := (hb.cell (p := ⟨a, k * 2 + 1, none⟩) H.out.2).trans hcc.2
        have i0 : (0 : Int) ≤ (k : Int) := by omega
        have i1 : (k : Int) < 2 := by omega
        obtain ⟨t, ht⟩ : ∃ t, tP k = t := ⟨_, rfl⟩
        have hpre := tP_pre k
        rw [ht] at hpre c0
        have hbn := below_new wr (.cells #[.string t, .int .i64 ((k : Int) + 1)] 73)
        have hm2 : (wr.alloc (.cells #[.string t, .int .i64 ((k : Int) + 1)] 73)).ownsMap Try.prog 3 heldR (w.heap.size + 1) k (mapP k) := hm.kept (row := none) ⟨hbn.os, hbn.tape, hbn.output, hbn.size, fun i hi _ => hbn.block i hi⟩ (by simp)
        have HM := Lib.hid (And.intro hm2 (And.intro (bl_trans' hb hbn) (And.intro ht hpre)))
        clear hm hb hm2 hbn hpre hcc ht
        go_wp2_with fail
        refine (Try.strings_HasPrefix _ _ _).mono ?_
        rintro e w2 ⟨rfl, rfl⟩
        rw [show Lib.hasPrefix t.data.toList bsP.data.toList = true from HM.out.2.2.2]
        obtain ⟨n0, n1⟩ : (wr.alloc (.cells #[.string t, .int .i64 ((k : Int) + 1)] 73)).cell? ⟨wr.heap.size, 0, none⟩ = some (.string t) ∧ (wr.alloc (.cells #[.string t, .int .i64 ((k : Int) + 1)] 73)).cell? ⟨wr.heap.size, 1, none⟩ = some (.int .i64 ((k : Int) + 1)) := ⟨(BkAt.new _ _ wr).cell 0, (BkAt.new _ _ wr).cell 1⟩
        obtain ⟨b, hbe⟩ : ∃ b, wr.heap.size = b := ⟨_, rfl⟩
        obtain ⟨W, hW⟩ : ∃ x, (wr.alloc (.cells #[.string t, .int .i64 ((k : Int) + 1)] 73)) = x := ⟨_, rfl⟩
        have HM2 := HM.out
        rw [hW] at n0 n1 HM2
        rw [hbe] at n0 n1
        simp only [hW, hbe]
        obtain ⟨x, hx⟩ : ∃ x, (k : Int) + 1 = x := ⟨_, rfl⟩
        have hwf : keyOf Try.prog 3 (.int .i64 x) = some (.int .i64 x) := keyOf_int_mk Try.underlying3 (WalkArith.wf_i64 (by omega))
        have H3 := Lib.hid (And.intro HM2 (And.intro hwf hx))
        rw [hx] at n1
        clear HM2 hwf hW hbe hx c0 c1 HM
        go_wp2_with (at_mapUpdate; go_loud (refine wpList_mapUpdate_own _ rfl _ _ _ 55 rfl 3 9 law3 Try.underlying55 heldR (w.heap.size + 1) k (mapP k) rfl H3.out.1.1 (by unfold maxLen; omega) _ _ (.int .i64 x) rfl rfl H3.out.2.1 (.held (.string t)) [] rfl ?_; intro w1 hown1 hgrow1))
        have hb1 := H3.out.1.2.1.grown hgrow1 H3.out.1.2.1.size (fun i hi => by cases hi; omega)
        have h4 : mapP (k + 1) = (mapP k).put (.int .i64 x) (.held (.string t)) := by rw [← H3.out.2.2, ← H3.out.1.2.2.1]; rfl
        rw [← h4] at hown1
        have HG := Lib.hid (And.intro hown1 hb1)
        clear hown1 hgrow1 hb1 h4
        go_wp2
        go_roundw
        case rel => exact ⟨k + 1, by omega, by go_num, HG.out.1, HG.out.2⟩
        case measure => simp [intOf]; omega
      · obtain rfl : k = 2 := by omega
        have HG := Lib.hid (And.intro hm hb)
        clear hm hb
        go_wp2
        go_ret
        exact ⟨_, rfl, HG.out.1, by omega, HG.out.2⟩
end Go.Proofs.Ytbpboghjgbgjfaa

namespace Go.Proofs.Ytbpboghjgbgjfaa
open Go.RowKit

theorem cI_zero (x y : Int) : (cI x y ≠ 0) ↔ x ≠ y := by
  show (Lib.compareInt x y ≠ 0) ↔ _
  unfold Lib.compareInt
  by_cases h1 : x < y
  · rw [if_pos h1]; constructor
    · intro _; omega
    · intro _; decide
  · rw [if_neg h1]
    by_cases h2 : x > y
    · rw [if_pos h2]; constructor
      · intro _; omega
      · intro _; decide
    · rw [if_neg h2]; constructor
      · intro h; exact absurd rfl h
      · intro h; omega
theorem cI_neg (x y : Int) : (cI x y < 0) ↔ x < y := by
  show (Lib.compareInt x y < 0) ↔ _
  unfold Lib.compareInt
  by_cases h1 : x < y
  · rw [if_pos h1]; constructor
    · intro _; exact h1
    · intro _; decide
  · rw [if_neg h1]
    by_cases h2 : x > y
    · rw [if_pos h2]; constructor
      · intro h; exact absurd h (by decide)
      · intro h; omega
    · rw [if_neg h2]; constructor
      · intro h; exact absurd h (by decide)
      · intro h; omega
theorem res_neg (f1 i1 s1 f2 i2 s2 : Int) : (resK f1 i1 s1 f2 i2 s2 < 0) ↔ f1 < f2 ∨ (f1 = f2 ∧ (s2 < s1 ∨ (s1 = s2 ∧ i1 < i2))) := by
  unfold resK orI
  by_cases h1 : cI f1 f2 ≠ 0
  · rw [if_pos h1, cI_neg]
    have := (cI_zero _ _).1 h1
    omega
  · rw [if_neg h1]
    have e1 : f1 = f2 := by
      by_cases e : f1 = f2
      · exact e
      · exact absurd ((cI_zero _ _).2 e) h1
    by_cases h2 : cI s2 s1 ≠ 0
    · rw [if_pos h2, cI_neg]
      have := (cI_zero _ _).1 h2
      omega
    · rw [if_neg h2, cI_neg]
      have e2 : s2 = s1 := by
        by_cases e : s2 = s1
        · exact e
        · exact absurd ((cI_zero _ _).2 e) h2
      omega
abbrev SeenT := Int × Int × Int
def encS (x : SeenT) : List Value := [.int .i64 x.1, .int .i64 x.2.1, .int .i64 x.2.2]
def cfS (x y : SeenT) : Int := resK x.1 x.2.1 x.2.2 y.1 y.2.1 y.2.2
def ltS (x y : SeenT) : Bool := decide (cfS x y < 0)
theorem ltS_iff (x y : SeenT) : ltS x y = true ↔ x.1 < y.1 ∨ (x.1 = y.1 ∧ (y.2.2 < x.2.2 ∨ (x.2.2 = y.2.2 ∧ x.2.1 < y.2.1))) := by
  unfold ltS cfS
  rw [decide_eq_true_iff, res_neg]
theorem ltS_not (x y : SeenT) : ltS x y = false ↔ ¬ (x.1 < y.1 ∨ (x.1 = y.1 ∧ (y.2.2 < x.2.2 ∨ (x.2.2 = y.2.2 ∧ x.2.1 < y.2.1)))) := by
  rw [← ltS_iff, Bool.not_eq_true]
theorem ltS_swo : Go.Sort.SWO ltS :=
  ⟨fun x => by rw [ltS_not]; omega, fun x y z h1 h2 => by rw [ltS_iff] at *; omega, fun x y z h1 h2 => by rw [ltS_not] at *; omega⟩
theorem ltS_total : ∀ x y, ltS x y = false → ltS y x = false → x = y := fun x y h1 h2 => by
  rw [ltS_not] at h1 h2
  obtain ⟨a, b, c⟩ := x
  obtain ⟨d, e, f⟩ := y
  simp only at h1 h2
  have e1 : a = d := by omega
  have e2 : c = f := by omega
  have e3 : b = e := by omega
  subst e1 e2 e3
  rfl
theorem compare_S (x y : SeenT) (w : World) : Calls Try.prog 19 #[.agg (encS x).toArray, .agg (encS y).toArray] w fun e w' => e = .returned (.int .i64 (cfS x y)) ∧ ∃ q os', w' = Go.Sort.grow (w.drewN q) os' :=
  compare_any x.1 x.2.1 x.2.2 y.1 y.2.1 y.2.2 w
end Go.Proofs.Ytbpboghjgbgjfaa
