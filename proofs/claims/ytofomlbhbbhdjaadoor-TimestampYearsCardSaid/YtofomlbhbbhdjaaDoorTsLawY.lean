/- The statement that Month and Nearest return what the reference does. -/
import Derived.Test.YtofomlbhbbhdjaaDoorTsAw
import Derived.Test.YtofomlbhbbhdjaaDoorTsRmon
import Derived.Test.YtofomlbhbbhdjaaDoorTsRnst
import Derived.Deep.RegionHeld3
import Derived.Deep.DeepCutAuto
namespace Go.Proofs.YtofomlbhbbhdjaaDoor
open Go.RowKit

def CutE (b : Nat) (V : Array Value) (w : World) (s : Value) (wx : World) : Prop :=
  ∃ (g : Nat) (Y M D H I S C : Int), s = .pointer (some ⟨g, 0, none⟩) ∧ RowAt g 36 #[.int .i64 Y, .int .i64 M, .int .i64 D, .int .i64 H, .int .i64 I, .int .i64 S, .int .i64 C] wx ∧ RowAt b 36 V wx ∧ Below w.heap.size w wx
theorem cutE_mk {b : Nat} {V : Array Value} {w w1 : World} (Y M D H I S C : Int) (h1 : RowAt b 36 V w1) (h2 : Below w.heap.size w w1) :
    CutE b V w (.pointer (some ⟨w1.heap.size, 0, none⟩)) ((w1.alloc (.cells #[.int .i64 Y, .int .i64 M, .int .i64 D, .int .i64 H, .int .i64 I, .int .i64 S, .int .i64 C] 36)).drew) :=
  ⟨w1.heap.size, Y, M, D, H, I, S, C, rfl, RowAt.new _ _ w1, h1.below (below_alloc _ _).drew, (bl_trans h2 (below_alloc w1 _)).drew⟩
/-- What the outer round finds. -/
structure YInv (w : World) (b0 : Nat) (F : Array Value) (wr : World) : Prop where
  bl : Below w.heap.size w wr
  b0 : RowAt b0 36 F wr
theorem YInv.below {w : World} {b0 : Nat} {F : Array Value} {wr wd : World} (h : YInv w b0 F wr) (hb : Below wr.heap.size wr wd) : YInv w b0 F wd := ⟨h.bl.trans (hb.mono h.bl.size), h.b0.below hb⟩
/-- What the inner round finds. -/
structure ZInv (w : World) (b0 : Nat) (F : Array Value) (bx : Nat) (X : Array Value) (b2 : Nat) (Z : Array Value) (wr : World) : Prop where
  y : YInv w b0 F wr
  bx : RowAt bx 36 X wr
  b2 : RowAt b2 3 Z wr
theorem ZInv.below {w : World} {b0 : Nat} {F : Array Value} {bx : Nat} {X : Array Value} {b2 : Nat} {Z : Array Value} {wr wd : World} (h : ZInv w b0 F bx X b2 Z wr) (hb : Below wr.heap.size wr wd) : ZInv w b0 F bx X b2 Z wd := ⟨h.y.below hb, h.bx.below hb, h.b2.below hb⟩
/-- The law's own names of months. -/
def lawM : List (List UInt8) := [[106, 97, 110], [70, 69, 66], [77, 97, 114], [97, 112, 114], [109, 97, 121], [106, 117, 110], [106, 117, 108], [97, 117, 103], [115, 101, 112], [111, 99, 116], [110, 111, 118], [100, 101, 99]]
def lawB (k : Nat) : ByteArray := ⟨(lawM.getD k []).toArray⟩
def lawRow : Array Value := ((List.range 12).map fun i => Value.string (lawB i)).toArray
theorem lawRow_get (i : Nat) (h : i < 12) : lawRow[i]? = some (.string (lawB i)) := by simp [lawRow, h]
theorem lawB_month (k : Nat) (h : k < 12) : monthN (lawB k).data.toList = k + 1 := (by decide +kernel : ∀ i : Fin 12, monthN (lawB i.1).data.toList = i.1 + 1) ⟨k, h⟩
theorem lawB_size (k : Nat) (h : k < 12) : (lawB k).size ≤ 3 := (by decide +kernel : ∀ i : Fin 12, (lawB i.1).size ≤ 3) ⟨k, h⟩

set_option maxRecDepth 100000 in
set_option linter.unusedSimpArgs false in
set_option maxHeartbeats 32000000 in
theorem lawYears (str : ByteArray) (y m d h i s c ref zone : Int) (hstr : str.size ≤ 140737488351232)
    (_y0 : -9223372036854775808 ≤ y) (_y1 : y ≤ 9223372036854775807) (m0 : -9223372036854775808 ≤ m) (m1 : m ≤ 9223372036854775807) (d0 : -9223372036854775808 ≤ d) (d1 : d ≤ 9223372036854775807)
    (h0 : -9223372036854775808 ≤ h) (h1 : h ≤ 9223372036854775807) (i0 : -9223372036854775808 ≤ i) (i1 : i ≤ 9223372036854775807) (s0 : -9223372036854775808 ≤ s) (s1 : s ≤ 9223372036854775807)
    (t0 : -9223372036854775808 ≤ ref) (t1 : ref ≤ 9223372036854775807) (z0 : -9223372036854775808 ≤ zone) (z1 : zone ≤ 9223372036854775807)
    (w : World) (hT : DaysT w) (hM : MonT w) :
    Calls Tryd.prog 4 #[.string str, .agg #[.int .i64 y, .int .i64 m, .int .i64 d, .int .i64 h, .int .i64 i, .int .i64 s, .int .i64 c], .int .i64 ref, .int .i64 zone] w fun e w' => e = .returned (.bool true) ∧ Below w.heap.size w w' := by
  have haw := Lib.hid (fun W h1 h2 => awake6_any W h1 h2)
  have HT := Lib.hid hT
  have HM := Lib.hid hM
  have hz := fun W => near6_any zone (-1441) 1441 z0 z1 (by decide) (by decide) (by decide) W
  have hrf := fun W => near6_any ref (-62135596800000) 253402300799999 t0 t1 (by decide) (by decide) (by decide) W
  have hmo := fun W => mod6_any ref 12 t0 t1 (by decide) (by decide) W
  have hmb := modN_bd (x := ref) (n := 12) (by decide)
  obtain ⟨j, hj⟩ : ∃ j : Nat, modN ref 12 = (j : Int) := ⟨(modN ref 12).toNat, by omega⟩
  rw [hj] at hmo hmb
  obtain ⟨r0, hr0⟩ : ∃ r, nearN ref (-62135596800000) 253402300799999 = r := ⟨_, rfl⟩
  obtain ⟨zr, hzr⟩ : ∃ r, nearN zone (-1441) 1441 = r := ⟨_, rfl⟩
  rw [hr0] at hrf
  rw [hzr] at hz
  have HZ := Lib.hid hz
  have HRF := Lib.hid hrf
  have HMO := Lib.hid hmo
  have hs1 := fun W hW => month_any str hstr W hW
  have hs2 := fun W => rmonth_any str hstr W
  obtain ⟨mn, hmn⟩ : ∃ x, monthN str.data.toList = x := ⟨_, rfl⟩
  rw [hmn] at hs1 hs2
  have HS := Lib.hid (And.intro hs1 hs2)
  have hj12 : j < 12 := by omega
  have hl1 := fun W hW => month_any (lawB j) (by have := lawB_size j hj12; omega) W hW
  rw [lawB_month j hj12] at hl1
  have HL := Lib.hid hl1
  clear hT hM hz hrf hmo hj hr0 hzr t0 t1 z0 z1 hs1 hs2 hmn hstr hl1 hmb
  go_enter Tryd.func4, Tryd.ntmps4
  go_wp2_with fail
  refine (haw.out _ (HT.out.alloc _) (HM.out.below (below_alloc _ _))).mono ?_
  rintro e w1 ⟨rfl, hb1⟩
  have hdt : RowAt w.heap.size 36 #[.int .i64 y, .int .i64 m, .int .i64 d, .int .i64 h, .int .i64 i, .int .i64 s, .int .i64 c] w1 := (RowAt.new _ _ w).below hb1
  have hbw : Below w.heap.size w w1 := bl_trans (below_alloc w _) hb1
  have a0 := hdt.cell 0
  have a1 := hdt.cell 1
  have a2 := hdt.cell 2
  have a3 := hdt.cell 3
  have a4 := hdt.cell 4
  have a5 := hdt.cell 5
  have a6 := hdt.cell 6
  simp only [List.getElem?_toArray, List.getElem?_cons_zero, List.getElem?_cons_succ] at a0 a1 a2 a3 a4 a5 a6
  have HW := Lib.hid (And.intro hdt hbw)
  clear hdt hbw hb1
  go_upto_region 4 with (fail)
  go_cut [9] (fun sl wx => CutE w.heap.size #[.int .i64 y, .int .i64 m, .int .i64 d, .int .i64 h, .int .i64 i, .int .i64 s, .int .i64 c] w sl wx)
  case first =>
    go_region_held3 (fun w' => w'.cell? ⟨w.heap.size, 0, none⟩ = some (.int .i64 y) ∧ w'.cell? ⟨w.heap.size, 1, none⟩ = some (.int .i64 m) ∧ w'.cell? ⟨w.heap.size, 2, none⟩ = some (.int .i64 d) ∧ w'.cell? ⟨w.heap.size, 3, none⟩ = some (.int .i64 h) ∧ w'.cell? ⟨w.heap.size, 4, none⟩ = some (.int .i64 i) ∧ w'.cell? ⟨w.heap.size, 5, none⟩ = some (.int .i64 s)) (go_keep)
      (first
        | (go_at_call 10; refine (near6_any _ _ _ (by omega) (by omega) (by omega) (by omega) (by omega) _).mono ?_; rintro e w' ⟨rfl, rfl⟩))
    all_goals (go_wp2_with fail; go_meet)
    all_goals exact cutE_mk _ _ _ _ _ _ _ HW.out.1 HW.out.2
  case rest =>
    clear a0 a1 a2 a3 a4 a5 a6 HW _y0 _y1 m0 m1 d0 d1 h0 h1 i0 i1 s0 s1
    obtain ⟨g, Y, M, D, H, I, S, C, rfl, hg, hd, hb⟩ := hcut
    have a0 := hd.cell 0
    have a1 := hd.cell 1
    have a2 := hd.cell 2
    have a3 := hd.cell 3
    have a4 := hd.cell 4
    have a5 := hd.cell 5
    have a6 := hd.cell 6
    have e0 := hg.cell 0
    have e1 := hg.cell 1
    have e2 := hg.cell 2
    have e3 := hg.cell 3
    have e4 := hg.cell 4
    have e5 := hg.cell 5
    have e6 := hg.cell 6
    simp only [List.getElem?_toArray, List.getElem?_cons_zero, List.getElem?_cons_succ] at a0 a1 a2 a3 a4 a5 a6 e0 e1 e2 e3 e4 e5 e6
    have HB := Lib.hid hb
    clear hb hg hd
    go_wp2_with fail
    have hX1 : YInv w wc.heap.size #[.int .i64 y, .int .i64 m, .int .i64 d, .int .i64 h, .int .i64 i, .int .i64 s, .int .i64 c, .int .i64 Y, .int .i64 M, .int .i64 D, .int .i64 H, .int .i64 I, .int .i64 S, .int .i64 C, .int .i64 0, .int .i64 2, .int .i64 29, .int .i64 0, .int .i64 0, .int .i64 0, .int .i64 0] (wc.alloc (.cells #[.int .i64 y, .int .i64 m, .int .i64 d, .int .i64 h, .int .i64 i, .int .i64 s, .int .i64 c, .int .i64 Y, .int .i64 M, .int .i64 D, .int .i64 H, .int .i64 I, .int .i64 S, .int .i64 C, .int .i64 0, .int .i64 2, .int .i64 29, .int .i64 0, .int .i64 0, .int .i64 0, .int .i64 0] 36)) := ⟨bl_trans HB.out (below_alloc _ _), RowAt.new _ _ _⟩
    obtain ⟨X, hX⟩ : ∃ X, wc.alloc (.cells #[.int .i64 y, .int .i64 m, .int .i64 d, .int .i64 h, .int .i64 i, .int .i64 s, .int .i64 c, .int .i64 Y, .int .i64 M, .int .i64 D, .int .i64 H, .int .i64 I, .int .i64 S, .int .i64 C, .int .i64 0, .int .i64 2, .int .i64 29, .int .i64 0, .int .i64 0, .int .i64 0, .int .i64 0] 36) = X := ⟨_, rfl⟩
    obtain ⟨b0, hb0⟩ : ∃ b, wc.heap.size = b := ⟨_, rfl⟩
    rw [hX, hb0] at hX1
    rw [hX, hb0]
    have HX1 := Lib.hid hX1
    clear hX hb0 hX1 HB a0 a1 a2 a3 a4 a5 a6 e0 e1 e2 e3 e4 e5 e6
    go_loopw [45] (fun u wr => ∃ k : Nat, k ≤ 3 ∧ u = .int .i64 k ∧ YInv w b0 #[.int .i64 y, .int .i64 m, .int .i64 d, .int .i64 h, .int .i64 i, .int .i64 s, .int .i64 c, .int .i64 Y, .int .i64 M, .int .i64 D, .int .i64 H, .int .i64 I, .int .i64 S, .int .i64 C, .int .i64 0, .int .i64 2, .int .i64 29, .int .i64 0, .int .i64 0, .int .i64 0, .int .i64 0] wr) (fun u _ => 3 - (intOf u).toNat)
    case atStart => exact ⟨0, by omega, rfl, HX1.out⟩
    case round =>
      obtain ⟨k, hk, rfl, hinv⟩ := hrel
      obtain ⟨wo, rfl⟩ : ∃ wo : World, wo = wr := ⟨_, rfl⟩
      by_cases hlt : k < 3
      · have hdk : decide ((k : Int) < 3) = true := by rw [decide_eq_true_iff]; omega
        have hk01 : k = 0 ∨ k = 1 ∨ k = 2 := by omega
        obtain ⟨p0, p1, p2, p3, p4, p5, p6, q0, q1, q2, q3, q4, q5, q6⟩ : ∃ p0 p1 p2 p3 p4 p5 p6 : Int, wo.cell? ⟨b0, k * 7, none⟩ = some (.int .i64 p0) ∧ wo.cell? ⟨b0, k * 7 + 1, none⟩ = some (.int .i64 p1) ∧ wo.cell? ⟨b0, k * 7 + 2, none⟩ = some (.int .i64 p2) ∧ wo.cell? ⟨b0, k * 7 + 3, none⟩ = some (.int .i64 p3) ∧ wo.cell? ⟨b0, k * 7 + 4, none⟩ = some (.int .i64 p4) ∧ wo.cell? ⟨b0, k * 7 + 5, none⟩ = some (.int .i64 p5) ∧ wo.cell? ⟨b0, k * 7 + 6, none⟩ = some (.int .i64 p6) := by
          rcases hk01 with rfl | rfl | rfl
          · exact ⟨y, m, d, h, i, s, c, hinv.b0.cell 0, hinv.b0.cell 1, hinv.b0.cell 2, hinv.b0.cell 3, hinv.b0.cell 4, hinv.b0.cell 5, hinv.b0.cell 6⟩
          · exact ⟨Y, M, D, H, I, S, C, hinv.b0.cell 7, hinv.b0.cell 8, hinv.b0.cell 9, hinv.b0.cell 10, hinv.b0.cell 11, hinv.b0.cell 12, hinv.b0.cell 13⟩
          · exact ⟨0, 2, 29, 0, 0, 0, 0, hinv.b0.cell 14, hinv.b0.cell 15, hinv.b0.cell 16, hinv.b0.cell 17, hinv.b0.cell 18, hinv.b0.cell 19, hinv.b0.cell 20⟩
        clear hk01
        have HI := Lib.hid hinv
        clear hinv
        go_wp2_with fail
        refine (HRF.out _).mono ?_
        rintro e w' ⟨rfl, rfl⟩
        clear q0 q1 q2 q3 q4 q5 q6
        go_wp2_with fail
        have hz1 : (wo.alloc (.cells #[.int .i64 p0, .int .i64 p1, .int .i64 p2, .int .i64 p3, .int .i64 p4, .int .i64 p5, .int .i64 p6] 36)).heap.size = wo.heap.size + 1 := by simp
        have hY1 : ZInv w b0 #[.int .i64 y, .int .i64 m, .int .i64 d, .int .i64 h, .int .i64 i, .int .i64 s, .int .i64 c, .int .i64 Y, .int .i64 M, .int .i64 D, .int .i64 H, .int .i64 I, .int .i64 S, .int .i64 C, .int .i64 0, .int .i64 2, .int .i64 29, .int .i64 0, .int .i64 0, .int .i64 0, .int .i64 0] wo.heap.size #[.int .i64 p0, .int .i64 p1, .int .i64 p2, .int .i64 p3, .int .i64 p4, .int .i64 p5, .int .i64 p6] (wo.heap.size + 1) #[.int .i64 ref, .int .i64 r0] ((wo.alloc (.cells #[.int .i64 p0, .int .i64 p1, .int .i64 p2, .int .i64 p3, .int .i64 p4, .int .i64 p5, .int .i64 p6] 36)).alloc (.cells #[.int .i64 ref, .int .i64 r0] 3)) :=
          ⟨HI.out.below (bl_trans (below_alloc _ _) (below_alloc _ _)), (RowAt.new _ _ wo).below (below_alloc _ _), hz1 ▸ RowAt.new _ _ _⟩
        obtain ⟨X, hX⟩ : ∃ X, (wo.alloc (.cells #[.int .i64 p0, .int .i64 p1, .int .i64 p2, .int .i64 p3, .int .i64 p4, .int .i64 p5, .int .i64 p6] 36)).alloc (.cells #[.int .i64 ref, .int .i64 r0] 3) = X := ⟨_, rfl⟩
        obtain ⟨b2, hb2⟩ : ∃ b, wo.heap.size + 1 = b := ⟨_, rfl⟩
        obtain ⟨bx, hbx⟩ : ∃ b, wo.heap.size = b := ⟨_, rfl⟩
        rw [hX, hb2, hbx] at hY1
        rw [hX, hb2, hbx]
        have HY1 := Lib.hid hY1
        have hnn := fun v W hW => nearest_any ⟨p0, p1, p2, p3, p4, p5, p6⟩ v zr W hW
        have hrn := fun v W => rnearest_any ⟨p0, p1, p2, p3, p4, p5, p6⟩ v zr W
        simp only at hnn hrn
        have HN := Lib.hid (And.intro hnn hrn)
        clear hX hb2 hbx hY1 HI hnn hrn hz1
        go_loopw [54] (fun u wr => ∃ k : Nat, k ≤ 2 ∧ u = .int .i64 k ∧ ZInv w b0 #[.int .i64 y, .int .i64 m, .int .i64 d, .int .i64 h, .int .i64 i, .int .i64 s, .int .i64 c, .int .i64 Y, .int .i64 M, .int .i64 D, .int .i64 H, .int .i64 I, .int .i64 S, .int .i64 C, .int .i64 0, .int .i64 2, .int .i64 29, .int .i64 0, .int .i64 0, .int .i64 0, .int .i64 0] bx #[.int .i64 p0, .int .i64 p1, .int .i64 p2, .int .i64 p3, .int .i64 p4, .int .i64 p5, .int .i64 p6] b2 #[.int .i64 ref, .int .i64 r0] wr) (fun u _ => 2 - (intOf u).toNat)
        case atStart => exact ⟨0, by omega, rfl, HY1.out⟩
        case round =>
          obtain ⟨k2, hk2, rfl, hinv⟩ := hrel
          obtain ⟨wp, rfl⟩ : ∃ wp : World, wp = wr := ⟨_, rfl⟩
          by_cases hlt2 : k2 < 2
          · obtain ⟨v, hv⟩ : ∃ v : Int, wp.cell? ⟨b2, k2, none⟩ = some (.int .i64 v) := by
              have h := hinv.b2.cell k2
              have hk01 : k2 = 0 ∨ k2 = 1 := by omega
              rcases hk01 with rfl | rfl
              · exact ⟨_, h⟩
              · exact ⟨_, h⟩
            have hnv := fun W hW => HN.out.1 v W hW
            have hrv := fun W => HN.out.2 v W
            obtain ⟨⟨nv, ne⟩, hne⟩ : ∃ x, neB ⟨p0, p1, p2, p3, p4, p5, p6⟩ v zr = x := ⟨_, rfl⟩
            rw [hne] at hnv hrv
            simp only at hnv hrv
            have HV := Lib.hid (And.intro hnv hrv)
            have HI := Lib.hid hinv
            clear hinv hnv hrv hne HY1
            go_wp2_with fail
            refine wp_region_held_drew (S := RowAt bx 36 #[.int .i64 p0, .int .i64 p1, .int .i64 p2, .int .i64 p3, .int .i64 p4, .int .i64 p5, .int .i64 p6]) (by kernel_rfl) (show _ from HI.out.bx) (fun hHeld => ?_)
            refine wpAnyH_take (i := 0) (v := ?v0a) rfl (by kernel_rfl) (by kernel_rfl) (by kernel_rfl) (fun _ _ _ h => h) (Or.inl ⟨by rfl, fun w' hSw => ?y0a⟩) (by assumption) ?r0a
            case y0a =>
              have q0 := RowAt.cell hSw 0
              have q1 := RowAt.cell hSw 1
              have q2 := RowAt.cell hSw 2
              have q3 := RowAt.cell hSw 3
              have q4 := RowAt.cell hSw 4
              have q5 := RowAt.cell hSw 5
              have q6 := RowAt.cell hSw 6
              simp only [List.getElem?_toArray, List.getElem?_cons_zero, List.getElem?_cons_succ] at q0 q1 q2 q3 q4 q5 q6
              go_simp
              try with_reducible rfl
            try simp only [Act.put, List.getElem_toArray, List.getElem_cons_zero, List.getElem_cons_succ, List.setIfInBounds_toArray, List.set_cons_zero, List.set_cons_succ]
            refine wpAnyH_take (i := 1) (v := ?v1a) rfl (by kernel_rfl) (by kernel_rfl) (by kernel_rfl) (fun _ _ _ h => h) (Or.inl ⟨by rfl, fun w' hSw => ?y1a⟩) (by assumption) ?r1a
            case y1a =>
              go_simp
              try with_reducible rfl
            try simp only [Act.put, List.getElem_toArray, List.getElem_cons_zero, List.getElem_cons_succ, List.setIfInBounds_toArray, List.set_cons_zero, List.set_cons_succ]
            refine wpAnyH_take (i := 2) (v := ?v2a) rfl (by kernel_rfl) (by kernel_rfl) (by kernel_rfl) (fun _ _ _ h => h) (Or.inl ⟨by rfl, fun w' hSw => ?y2a⟩) (by assumption) ?r2a
            case y2a =>
              go_simp
              try with_reducible rfl
            try simp only [Act.put, List.getElem_toArray, List.getElem_cons_zero, List.getElem_cons_succ, List.setIfInBounds_toArray, List.set_cons_zero, List.set_cons_succ]
            refine wpAnyH_ready (rs := [3]) (by kernel_rfl) (by simp) (AllReadyH.cons rfl (fun K hK => ?_) AllReadyH.nil)
            go_simp
            go_wp2_with (go_at_call 10; refine (HZ.out _).mono ?_; rintro e w' ⟨rfl, rfl⟩)
            refine hK.out _ _ (show RowAt _ _ _ _ from HI.out.bx) (fun hHeld2 => ?_)
            clear hK K
            try simp only [Act.put, List.getElem_toArray, List.getElem_cons_zero, List.getElem_cons_succ, List.setIfInBounds_toArray, List.set_cons_zero, List.set_cons_succ]
            refine wpAnyH_ready (rs := [4]) (by kernel_rfl) (by simp) (AllReadyH.cons rfl (fun K hK => ?_) AllReadyH.nil)
            go_simp
            go_wp2_with (go_at_call 13; refine (HV.out.1 _ (HT.out.below (HI.out.y.bl.drew))).mono ?_; rintro e wda ⟨rfl, hbd⟩)
            have Ia := Lib.hid (HI.out.below (bl_trans (b := wp.drew) (Below.refl _ _).drew hbd))
            clear hbd
            refine hK.out _ _ (show RowAt _ _ _ _ from Ia.out.bx) (fun hHeld3 => ?_)
            clear hK K
            try simp only [Act.put, List.getElem_toArray, List.getElem_cons_zero, List.getElem_cons_succ, List.setIfInBounds_toArray, List.set_cons_zero, List.set_cons_succ]
            refine wpAnyH_take (i := 5) (v := ?v5a) rfl (by kernel_rfl) (by kernel_rfl) (by kernel_rfl) (fun _ _ _ h => h) (Or.inl ⟨by rfl, fun w' hSw => ?y5a⟩) (by assumption) ?r5a
            case y5a =>
              go_simp
              try with_reducible rfl
            try simp only [Act.put, List.getElem_toArray, List.getElem_cons_zero, List.getElem_cons_succ, List.setIfInBounds_toArray, List.set_cons_zero, List.set_cons_succ]
            refine wpAnyH_take (i := 6) (v := ?v6a) rfl (by kernel_rfl) (by kernel_rfl) (by kernel_rfl) (fun _ _ _ h => h) (Or.inl ⟨by rfl, fun w' hSw => ?y6a⟩) (by assumption) ?r6a
            case y6a =>
              go_simp
              try with_reducible rfl
            try simp only [Act.put, List.getElem_toArray, List.getElem_cons_zero, List.getElem_cons_succ, List.setIfInBounds_toArray, List.set_cons_zero, List.set_cons_succ]
            refine wpAnyH_take (i := 7) (v := ?v7a) rfl (by kernel_rfl) (by kernel_rfl) (by kernel_rfl) (fun _ _ _ h => h) (Or.inl ⟨by rfl, fun w' hSw => ?y7a⟩) (by assumption) ?r7a
            case y7a =>
              go_simp
              try with_reducible rfl
            try simp only [Act.put, List.getElem_toArray, List.getElem_cons_zero, List.getElem_cons_succ, List.setIfInBounds_toArray, List.set_cons_zero, List.set_cons_succ]
            refine wpAnyH_take (i := 8) (v := ?v8a) rfl (by kernel_rfl) (by kernel_rfl) (by kernel_rfl) (fun _ _ _ h => h) (Or.inl ⟨by rfl, fun w' hSw => ?y8a⟩) (by assumption) ?r8a
            case y8a =>
              go_simp
              try with_reducible rfl
            try simp only [Act.put, List.getElem_toArray, List.getElem_cons_zero, List.getElem_cons_succ, List.setIfInBounds_toArray, List.set_cons_zero, List.set_cons_succ]
            refine wpAnyH_take (i := 9) (v := ?v9a) rfl (by kernel_rfl) (by kernel_rfl) (by kernel_rfl) (fun _ _ _ h => h) (Or.inl ⟨by rfl, fun w' hSw => ?y9a⟩) (by assumption) ?r9a
            case y9a =>
              go_simp
              try with_reducible rfl
            try simp only [Act.put, List.getElem_toArray, List.getElem_cons_zero, List.getElem_cons_succ, List.setIfInBounds_toArray, List.set_cons_zero, List.set_cons_succ]
            refine wpAnyH_done (by kernel_rfl) ?_ _
            clear hHeld hHeld2 hHeld3
            clear hv
            go_wp2_with fail
            refine wp_region_held_drew (S := RowAt bx 36 #[.int .i64 p0, .int .i64 p1, .int .i64 p2, .int .i64 p3, .int .i64 p4, .int .i64 p5, .int .i64 p6]) (by kernel_rfl) (show _ from Ia.out.bx) (fun hHeld => ?_)
            refine wpAnyH_take (i := 0) (v := ?v0b) rfl (by kernel_rfl) (by kernel_rfl) (by kernel_rfl) (fun _ _ _ h => h) (Or.inl ⟨by rfl, fun w' hSw => ?y0b⟩) (by assumption) ?r0b
            case y0b =>
              have q0 := RowAt.cell hSw 0
              have q1 := RowAt.cell hSw 1
              have q2 := RowAt.cell hSw 2
              have q3 := RowAt.cell hSw 3
              have q4 := RowAt.cell hSw 4
              have q5 := RowAt.cell hSw 5
              have q6 := RowAt.cell hSw 6
              simp only [List.getElem?_toArray, List.getElem?_cons_zero, List.getElem?_cons_succ] at q0 q1 q2 q3 q4 q5 q6
              go_simp
              try with_reducible rfl
            try simp only [Act.put, List.getElem_toArray, List.getElem_cons_zero, List.getElem_cons_succ, List.setIfInBounds_toArray, List.set_cons_zero, List.set_cons_succ]
            refine wpAnyH_take (i := 1) (v := ?v1b) rfl (by kernel_rfl) (by kernel_rfl) (by kernel_rfl) (fun _ _ _ h => h) (Or.inl ⟨by rfl, fun w' hSw => ?y1b⟩) (by assumption) ?r1b
            case y1b =>
              go_simp
              try with_reducible rfl
            try simp only [Act.put, List.getElem_toArray, List.getElem_cons_zero, List.getElem_cons_succ, List.setIfInBounds_toArray, List.set_cons_zero, List.set_cons_succ]
            refine wpAnyH_take (i := 2) (v := ?v2b) rfl (by kernel_rfl) (by kernel_rfl) (by kernel_rfl) (fun _ _ _ h => h) (Or.inl ⟨by rfl, fun w' hSw => ?y2b⟩) (by assumption) ?r2b
            case y2b =>
              go_simp
              try with_reducible rfl
            try simp only [Act.put, List.getElem_toArray, List.getElem_cons_zero, List.getElem_cons_succ, List.setIfInBounds_toArray, List.set_cons_zero, List.set_cons_succ]
            refine wpAnyH_ready (rs := [3]) (by kernel_rfl) (by simp) (AllReadyH.cons rfl (fun K hK => ?_) AllReadyH.nil)
            go_simp
            go_wp2_with (go_at_call 10; refine (HZ.out _).mono ?_; rintro e w' ⟨rfl, rfl⟩)
            refine hK.out _ _ (show RowAt _ _ _ _ from Ia.out.bx) (fun hHeld2 => ?_)
            clear hK K
            try simp only [Act.put, List.getElem_toArray, List.getElem_cons_zero, List.getElem_cons_succ, List.setIfInBounds_toArray, List.set_cons_zero, List.set_cons_succ]
            refine wpAnyH_ready (rs := [4]) (by kernel_rfl) (by simp) (AllReadyH.cons rfl (fun K hK => ?_) AllReadyH.nil)
            go_simp
            go_wp2_with (go_at_call 14; refine (HV.out.2 _).mono ?_; rintro e wdb ⟨rfl, hbd⟩)
            have Ib := Lib.hid (Ia.out.below (bl_trans (b := wda.drew) (Below.refl _ _).drew hbd))
            clear hbd
            refine hK.out _ _ (show RowAt _ _ _ _ from Ib.out.bx) (fun hHeld3 => ?_)
            clear hK K
            try simp only [Act.put, List.getElem_toArray, List.getElem_cons_zero, List.getElem_cons_succ, List.setIfInBounds_toArray, List.set_cons_zero, List.set_cons_succ]
            refine wpAnyH_take (i := 5) (v := ?v5b) rfl (by kernel_rfl) (by kernel_rfl) (by kernel_rfl) (fun _ _ _ h => h) (Or.inl ⟨by rfl, fun w' hSw => ?y5b⟩) (by assumption) ?r5b
            case y5b =>
              go_simp
              try with_reducible rfl
            try simp only [Act.put, List.getElem_toArray, List.getElem_cons_zero, List.getElem_cons_succ, List.setIfInBounds_toArray, List.set_cons_zero, List.set_cons_succ]
            refine wpAnyH_take (i := 6) (v := ?v6b) rfl (by kernel_rfl) (by kernel_rfl) (by kernel_rfl) (fun _ _ _ h => h) (Or.inl ⟨by rfl, fun w' hSw => ?y6b⟩) (by assumption) ?r6b
            case y6b =>
              go_simp
              try with_reducible rfl
            try simp only [Act.put, List.getElem_toArray, List.getElem_cons_zero, List.getElem_cons_succ, List.setIfInBounds_toArray, List.set_cons_zero, List.set_cons_succ]
            refine wpAnyH_take (i := 7) (v := ?v7b) rfl (by kernel_rfl) (by kernel_rfl) (by kernel_rfl) (fun _ _ _ h => h) (Or.inl ⟨by rfl, fun w' hSw => ?y7b⟩) (by assumption) ?r7b
            case y7b =>
              go_simp
              try with_reducible rfl
            try simp only [Act.put, List.getElem_toArray, List.getElem_cons_zero, List.getElem_cons_succ, List.setIfInBounds_toArray, List.set_cons_zero, List.set_cons_succ]
            refine wpAnyH_take (i := 8) (v := ?v8b) rfl (by kernel_rfl) (by kernel_rfl) (by kernel_rfl) (fun _ _ _ h => h) (Or.inl ⟨by rfl, fun w' hSw => ?y8b⟩) (by assumption) ?r8b
            case y8b =>
              go_simp
              try with_reducible rfl
            try simp only [Act.put, List.getElem_toArray, List.getElem_cons_zero, List.getElem_cons_succ, List.setIfInBounds_toArray, List.set_cons_zero, List.set_cons_succ]
            refine wpAnyH_take (i := 9) (v := ?v9b) rfl (by kernel_rfl) (by kernel_rfl) (by kernel_rfl) (fun _ _ _ h => h) (Or.inl ⟨by rfl, fun w' hSw => ?y9b⟩) (by assumption) ?r9b
            case y9b =>
              go_simp
              try with_reducible rfl
            try simp only [Act.put, List.getElem_toArray, List.getElem_cons_zero, List.getElem_cons_succ, List.setIfInBounds_toArray, List.set_cons_zero, List.set_cons_succ]
            refine wpAnyH_done (by kernel_rfl) ?_ _
            clear hHeld hHeld2 hHeld3
            go_wp2
            go_roundw
            case rel => exact ⟨k2 + 1, by omega, by go_num, Ib.out⟩
            case measure => simp [intOf]; omega
          · have HI := Lib.hid hinv.y
            clear hinv HY1 HN
            go_wp2
            go_roundw
            case rel => exact ⟨k + 1, by omega, by go_num, HI.out⟩
            case measure => simp [intOf]; omega
      · have HI := Lib.hid hinv
        have hlr : lawRow = #[.string ⟨#[106, 97, 110]⟩, .string ⟨#[70, 69, 66]⟩, .string ⟨#[77, 97, 114]⟩, .string ⟨#[97, 112, 114]⟩, .string ⟨#[109, 97, 121]⟩, .string ⟨#[106, 117, 110]⟩, .string ⟨#[106, 117, 108]⟩, .string ⟨#[97, 117, 103]⟩, .string ⟨#[115, 101, 112]⟩, .string ⟨#[111, 99, 116]⟩, .string ⟨#[110, 111, 118]⟩, .string ⟨#[100, 101, 99]⟩] := by kernel_rfl
        have hrow := RowAt.new 9 lawRow wo
        have hbl := HI.out.below (below_alloc wo (.cells lawRow 9))
        rw [hlr] at hrow hbl
        have HR0 := Lib.hid (And.intro hrow hbl)
        have HLR := Lib.hid hlr
        clear hinv hrow hbl hlr HX1
        go_wp2_with fail
        refine (HMO.out _).mono ?_
        rintro e w' ⟨rfl, rfl⟩
        obtain ⟨X, hX⟩ : ∃ X, wo.alloc (.cells (#[.string ⟨#[106, 97, 110]⟩, .string ⟨#[70, 69, 66]⟩, .string ⟨#[77, 97, 114]⟩, .string ⟨#[97, 112, 114]⟩, .string ⟨#[109, 97, 121]⟩, .string ⟨#[106, 117, 110]⟩, .string ⟨#[106, 117, 108]⟩, .string ⟨#[97, 117, 103]⟩, .string ⟨#[115, 101, 112]⟩, .string ⟨#[111, 99, 116]⟩, .string ⟨#[110, 111, 118]⟩, .string ⟨#[100, 101, 99]⟩] : Array Value) 9) = X := ⟨_, rfl⟩
        rw [hX]
        rw [hX, ← HLR.out] at HR0
        clear hX
        go_wp2_with fail
        refine (HS.out.1 _ (HM.out.below HR0.out.2.bl)).mono ?_
        rintro e wa ⟨rfl, hba⟩
        have HA := Lib.hid (And.intro (HR0.out.1.below hba) (HR0.out.2.below hba))
        clear hba
        go_wp2_with fail
        refine (HS.out.2 _).mono ?_
        rintro e wb ⟨rfl, hbb⟩
        have HB := Lib.hid (And.intro (HA.out.1.below hbb) (HA.out.2.below hbb))
        clear hbb
        have hcl := HB.out.1.cell j
        rw [lawRow_get j hj12] at hcl
        have hjI : (j : Int) < 12 := by omega
        go_wp2_with fail
        refine (HL.out _ (HM.out.below HB.out.2.bl)).mono ?_
        rintro e wc2 ⟨rfl, hbc⟩
        have HC := Lib.hid (HB.out.2.below hbc)
        have e9 : (((j + 1 : Nat) : Int) == (j : Int) + 1) = true := by rw [beq_iff_eq]; push_cast; rfl
        clear hbc hcl
        go_wp2
        go_ret
        exact ⟨rfl, HC.out.bl⟩
end Go.Proofs.YtofomlbhbbhdjaaDoor
