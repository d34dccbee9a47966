/- The statement that Millis, Dates, Check and Format return what the reference does. -/
import Derived.Test.YtnegfiiecegbbaaDoorCalAny
import Derived.Test.YtnegfiiecegbbaaDoorCalW
import Derived.Deep.DeepCutAuto
namespace Go.Proofs.YtnegfiiecegbbaaDoor
open Go.RowKit

def RowAt (b : Nat) (T : TypeId) (cs : Array Value) (w : World) : Prop := w.heap[b]? = some (.cells cs T (0, 0))
theorem RowAt.below {b : Nat} {T : TypeId} {cs : Array Value} {w w' : World} (h : RowAt b T cs w) (hb : Below w.heap.size w w') : RowAt b T cs w' := (hb.block b (Array.getElem?_eq_some_iff.1 h).1).trans h
theorem RowAt.lt {b : Nat} {T : TypeId} {cs : Array Value} {w : World} (h : RowAt b T cs w) : b < w.heap.size := (Array.getElem?_eq_some_iff.1 h).1
theorem RowAt.cell {b : Nat} {T : TypeId} {cs : Array Value} {w : World} (h : RowAt b T cs w) (j : Nat) : w.cell? ⟨b, j, none⟩ = cs[j]? := Lib.cell_of_heap h j
theorem RowAt.new (T : TypeId) (cs : Array Value) (w : World) : RowAt w.heap.size T cs (w.alloc (.cells cs T)) := heap_alloc_new _ _
theorem row_of_dt {D : Nat} {vs : Array Value} {w : World} (h : DtAt D vs w) : RowAt D 23 vs w := h
/-- What every round finds: the two dates and the zones. -/
def OInv (w : World) (b0 : Nat) (V : Array Value) (g : Nat) (E : Array Value) (b1 : Nat) (Z : Array Value) (wr : World) : Prop :=
  Below w.heap.size w wr ∧ RowAt b0 23 V wr ∧ RowAt g 23 E wr ∧ RowAt b1 3 Z wr
theorem OInv.below {w : World} {b0 : Nat} {V : Array Value} {g : Nat} {E : Array Value} {b1 : Nat} {Z : Array Value} {wr wd : World} (h : OInv w b0 V g E b1 Z wr) (hb : Below wr.heap.size wr wd) : OInv w b0 V g E b1 Z wd :=
  ⟨h.1.trans (hb.mono h.1.size), h.2.1.below hb, h.2.2.1.below hb, h.2.2.2.below hb⟩
theorem below_alloc (w : World) (o : Obj) : Below w.heap.size w (w.alloc o) := (Below.refl _ _).alloc (Nat.le_refl _) _
theorem bl_trans {a b c : World} (h : Below a.heap.size a b) (k : Below b.heap.size b c) : Below a.heap.size a c := h.trans (k.mono h.size)

def IInv (w : World) (b0 : Nat) (V : Array Value) (g : Nat) (E : Array Value) (b1 : Nat) (Z : Array Value) (b2 : Nat) (T : TypeId) (F : Array Value) (wr : World) : Prop :=
  OInv w b0 V g E b1 Z wr ∧ RowAt b2 T F wr
theorem IInv.below {w : World} {b0 : Nat} {V : Array Value} {g : Nat} {E : Array Value} {b1 : Nat} {Z : Array Value} {b2 : Nat} {T : TypeId} {F : Array Value} {wr wd : World} (h : IInv w b0 V g E b1 Z b2 T F wr) (hb : Below wr.heap.size wr wd) : IInv w b0 V g E b1 Z b2 T F wd :=
  ⟨h.1.below hb, h.2.below hb⟩
def CutE (b : Nat) (V : Array Value) (w : World) (s : Value) (wx : World) : Prop :=
  ∃ (g : Nat) (Y M D H I S C : Int), s = .pointer (some ⟨g, 0, none⟩) ∧ DtAt g #[.int .i64 Y, .int .i64 M, .int .i64 D, .int .i64 H, .int .i64 I, .int .i64 S, .int .i64 C] wx ∧ DtAt b V wx ∧ Below w.heap.size w wx
theorem cutE_mk {b : Nat} {V : Array Value} {w w1 : World} (Y M D H I S C : Int) (h1 : DtAt b V w1) (h2 : Below w.heap.size w w1) :
    CutE b V w (.pointer (some ⟨w1.heap.size, 0, none⟩)) ((w1.alloc (.cells #[.int .i64 Y, .int .i64 M, .int .i64 D, .int .i64 H, .int .i64 I, .int .i64 S, .int .i64 C] 23)).drew) :=
  ⟨w1.heap.size, Y, M, D, H, I, S, C, rfl, heap_alloc_new _ _, h1.below (below_alloc _ _).drew, (bl_trans h2 (below_alloc w1 _)).drew⟩

set_option maxRecDepth 100000 in
set_option linter.unusedSimpArgs false in
set_option maxHeartbeats 32000000 in
theorem lawTimes (y m d h i s c ms zone : Int)
    (y0 : -9223372036854775808 ≤ y) (y1 : y ≤ 9223372036854775807) (m0 : -9223372036854775808 ≤ m) (m1 : m ≤ 9223372036854775807) (d0 : -9223372036854775808 ≤ d) (d1 : d ≤ 9223372036854775807)
    (h0 : -9223372036854775808 ≤ h) (h1 : h ≤ 9223372036854775807) (i0 : -9223372036854775808 ≤ i) (i1 : i ≤ 9223372036854775807) (s0 : -9223372036854775808 ≤ s) (s1 : s ≤ 9223372036854775807)
    (c0 : -9223372036854775808 ≤ c) (c1 : c ≤ 9223372036854775807) (t0 : -9223372036854775808 ≤ ms) (t1 : ms ≤ 9223372036854775807) (z0 : -9223372036854775808 ≤ zone) (z1 : zone ≤ 9223372036854775807)
    (w : World) (hT : DaysT w) (hP : Pow10 w) :
    Calls Tryd.prog 3 #[.agg #[.int .i64 y, .int .i64 m, .int .i64 d, .int .i64 h, .int .i64 i, .int .i64 s, .int .i64 c], .int .i64 ms, .int .i64 zone] w fun e w' => e = .returned (.bool true) ∧ Below w.heap.size w w' := by
  have haw := Lib.hid (fun W h1 h2 => awake_any W h1 h2)
  have HT := Lib.hid hT
  have HP := Lib.hid hP
  clear hT hP
  go_enter Tryd.func3, Tryd.ntmps3
  go_wp2_with fail
  refine (haw.out _ (HT.out.alloc _) (HP.out |> fun h => pow_below h ((Below.refl _ _).alloc (Nat.le_refl _) _))).mono ?_
  rintro e w1 ⟨rfl, hb1⟩
  have hdt : DtAt w.heap.size #[.int .i64 y, .int .i64 m, .int .i64 d, .int .i64 h, .int .i64 i, .int .i64 s, .int .i64 c] w1 := (show DtAt w.heap.size _ (w.alloc (.cells _ 23)) from heap_alloc_new _ _).below hb1
  have hbw : Below w.heap.size w w1 := ((Below.refl w.heap.size w).alloc (Nat.le_refl _) _).trans (hb1.mono (by simp))
  have a0 := hdt.cell 0
  have a1 := hdt.cell 1
  have a2 := hdt.cell 2
  have a3 := hdt.cell 3
  have a4 := hdt.cell 4
  have a5 := hdt.cell 5
  have a6 := hdt.cell 6
  simp only [List.getElem?_toArray, List.getElem?_cons_zero, List.getElem?_cons_succ] at a0 a1 a2 a3 a4 a5 a6
  have HW := Lib.hid (And.intro hdt hbw)
  clear hdt hbw hb1
  go_upto_region 3 with (fail)
  go_cut [7] (fun sl wx => CutE w.heap.size #[.int .i64 y, .int .i64 m, .int .i64 d, .int .i64 h, .int .i64 i, .int .i64 s, .int .i64 c] w sl wx)
  case first =>
    go_region_held3 (fun w' => w'.cell? ⟨w.heap.size, 0, none⟩ = some (.int .i64 y) ∧ w'.cell? ⟨w.heap.size, 1, none⟩ = some (.int .i64 m) ∧ w'.cell? ⟨w.heap.size, 2, none⟩ = some (.int .i64 d) ∧ w'.cell? ⟨w.heap.size, 3, none⟩ = some (.int .i64 h) ∧ w'.cell? ⟨w.heap.size, 4, none⟩ = some (.int .i64 i) ∧ w'.cell? ⟨w.heap.size, 5, none⟩ = some (.int .i64 s) ∧ w'.cell? ⟨w.heap.size, 6, none⟩ = some (.int .i64 c)) (go_keep)
      (first
        | (go_at_call 7; refine (near_any _ _ _ (by omega) (by omega) (by omega) (by omega) (by omega) _).mono ?_; rintro e w' ⟨r, rfl, hr0, hr1, rfl⟩))
    all_goals (go_wp2_with fail; go_meet)
    all_goals exact cutE_mk _ _ _ _ _ _ _ HW.out.1 HW.out.2
  case rest =>
    clear a0 a1 a2 a3 a4 a5 a6 HW
    obtain ⟨g, Y, M, D, H, I, S, C, rfl, hg, hd, hb⟩ := hcut
    have HC := Lib.hid (And.intro hg (And.intro hd hb))
    clear hg hd hb
    go_wp2_with fail
    refine (near_any zone (-1441) 1441 z0 z1 (by decide) (by decide) (by decide) _).mono ?_
    rintro e w' ⟨r, rfl, hr0, hr1, rfl⟩
    go_wp2_with fail
    have hX1 : OInv w w.heap.size #[.int .i64 y, .int .i64 m, .int .i64 d, .int .i64 h, .int .i64 i, .int .i64 s, .int .i64 c] g #[.int .i64 Y, .int .i64 M, .int .i64 D, .int .i64 H, .int .i64 I, .int .i64 S, .int .i64 C] wc.heap.size #[.int .i64 zone, .int .i64 r, .int .i64 0] (wc.alloc (.cells #[.int .i64 zone, .int .i64 r, .int .i64 0] 3)) :=
      ⟨bl_trans HC.out.2.2 (below_alloc _ _), RowAt.below (row_of_dt HC.out.2.1) (below_alloc _ _), RowAt.below (row_of_dt HC.out.1) (below_alloc _ _), RowAt.new _ _ _⟩
    obtain ⟨X, hX⟩ : ∃ X, wc.alloc (.cells #[.int .i64 zone, .int .i64 r, .int .i64 0] 3) = X := ⟨_, rfl⟩
    obtain ⟨b1, hb1⟩ : ∃ b, wc.heap.size = b := ⟨_, rfl⟩
    rw [hX, hb1] at hX1
    rw [hX, hb1]
    have HX1 := Lib.hid hX1
    clear hX hb1 hX1 HC
    go_loopw [55] (fun u wr => ∃ k : Nat, k ≤ 3 ∧ u = .int .i64 k ∧ OInv w w.heap.size #[.int .i64 y, .int .i64 m, .int .i64 d, .int .i64 h, .int .i64 i, .int .i64 s, .int .i64 c] g #[.int .i64 Y, .int .i64 M, .int .i64 D, .int .i64 H, .int .i64 I, .int .i64 S, .int .i64 C] b1 #[.int .i64 zone, .int .i64 r, .int .i64 0] wr) (fun u _ => 3 - (intOf u).toNat)
    case atStart => exact ⟨0, by omega, rfl, HX1.out⟩
    case round =>
      obtain ⟨k, hk, rfl, hinv⟩ := hrel
      obtain ⟨wo, rfl⟩ : ∃ wo : World, wo = wr := ⟨_, rfl⟩
      by_cases hlt : k < 3
      · have hdk : decide ((k : Int) < 3) = true := by rw [decide_eq_true_iff]; omega
        obtain ⟨z, hz⟩ : ∃ z : Int, wo.cell? ⟨b1, k, none⟩ = some (.int .i64 z) := by
          have h := hinv.2.2.2.cell k
          have hk3 : k = 0 ∨ k = 1 ∨ k = 2 := by omega
          rcases hk3 with rfl | rfl | rfl
          · exact ⟨_, h⟩
          · exact ⟨_, h⟩
          · exact ⟨_, h⟩
        have a0 := hinv.2.1.cell 0
        have a1 := hinv.2.1.cell 1
        have a2 := hinv.2.1.cell 2
        have a3 := hinv.2.1.cell 3
        have a4 := hinv.2.1.cell 4
        have a5 := hinv.2.1.cell 5
        have a6 := hinv.2.1.cell 6
        have e0 := hinv.2.2.1.cell 0
        have e1 := hinv.2.2.1.cell 1
        have e2 := hinv.2.2.1.cell 2
        have e3 := hinv.2.2.1.cell 3
        have e4 := hinv.2.2.1.cell 4
        have e5 := hinv.2.2.1.cell 5
        have e6 := hinv.2.2.1.cell 6
        simp only [List.getElem?_toArray, List.getElem?_cons_zero, List.getElem?_cons_succ] at a0 a1 a2 a3 a4 a5 a6 e0 e1 e2 e3 e4 e5 e6
        have HI := Lib.hid hinv
        clear hinv
        go_wp2_with fail

        have hY1 : IInv w w.heap.size #[.int .i64 y, .int .i64 m, .int .i64 d, .int .i64 h, .int .i64 i, .int .i64 s, .int .i64 c] g #[.int .i64 Y, .int .i64 M, .int .i64 D, .int .i64 H, .int .i64 I, .int .i64 S, .int .i64 C] b1 #[.int .i64 zone, .int .i64 r, .int .i64 0] wo.heap.size 23 #[.int .i64 y, .int .i64 m, .int .i64 d, .int .i64 h, .int .i64 i, .int .i64 s, .int .i64 c, .int .i64 Y, .int .i64 M, .int .i64 D, .int .i64 H, .int .i64 I, .int .i64 S, .int .i64 C] (wo.alloc (.cells #[.int .i64 y, .int .i64 m, .int .i64 d, .int .i64 h, .int .i64 i, .int .i64 s, .int .i64 c, .int .i64 Y, .int .i64 M, .int .i64 D, .int .i64 H, .int .i64 I, .int .i64 S, .int .i64 C] 23)) :=
          ⟨HI.out.below (below_alloc _ _), RowAt.new _ _ _⟩
        obtain ⟨X, hX⟩ : ∃ X, wo.alloc (.cells #[.int .i64 y, .int .i64 m, .int .i64 d, .int .i64 h, .int .i64 i, .int .i64 s, .int .i64 c, .int .i64 Y, .int .i64 M, .int .i64 D, .int .i64 H, .int .i64 I, .int .i64 S, .int .i64 C] 23) = X := ⟨_, rfl⟩
        obtain ⟨b2, hb2⟩ : ∃ b, wo.heap.size = b := ⟨_, rfl⟩
        rw [hX, hb2] at hY1
        rw [hX, hb2]
        have HY1 := Lib.hid hY1
        clear hX hb2 hY1 hz a0 a1 a2 a3 a4 a5 a6 e0 e1 e2 e3 e4 e5 e6 HI
        go_loopw [63] (fun u wr => ∃ k : Nat, k ≤ 2 ∧ u = .int .i64 k ∧ IInv w w.heap.size #[.int .i64 y, .int .i64 m, .int .i64 d, .int .i64 h, .int .i64 i, .int .i64 s, .int .i64 c] g #[.int .i64 Y, .int .i64 M, .int .i64 D, .int .i64 H, .int .i64 I, .int .i64 S, .int .i64 C] b1 #[.int .i64 zone, .int .i64 r, .int .i64 0] b2 23 #[.int .i64 y, .int .i64 m, .int .i64 d, .int .i64 h, .int .i64 i, .int .i64 s, .int .i64 c, .int .i64 Y, .int .i64 M, .int .i64 D, .int .i64 H, .int .i64 I, .int .i64 S, .int .i64 C] wr) (fun u _ => 2 - (intOf u).toNat)
        case atStart => exact ⟨0, by omega, rfl, HY1.out⟩
        case round =>
          obtain ⟨k2, hk2, rfl, hinv⟩ := hrel
          obtain ⟨wp, rfl⟩ : ∃ wp : World, wp = wr := ⟨_, rfl⟩
          by_cases hlt2 : k2 < 2
          · have hk01 : k2 = 0 ∨ k2 = 1 := by omega
            obtain ⟨p0, p1, p2, p3, p4, p5, p6, q0, q1, q2, q3, q4, q5, q6⟩ : ∃ p0 p1 p2 p3 p4 p5 p6 : Int, wp.cell? ⟨b2, k2 * 7, none⟩ = some (.int .i64 p0) ∧ wp.cell? ⟨b2, k2 * 7 + 1, none⟩ = some (.int .i64 p1) ∧ wp.cell? ⟨b2, k2 * 7 + 2, none⟩ = some (.int .i64 p2) ∧ wp.cell? ⟨b2, k2 * 7 + 3, none⟩ = some (.int .i64 p3) ∧ wp.cell? ⟨b2, k2 * 7 + 4, none⟩ = some (.int .i64 p4) ∧ wp.cell? ⟨b2, k2 * 7 + 5, none⟩ = some (.int .i64 p5) ∧ wp.cell? ⟨b2, k2 * 7 + 6, none⟩ = some (.int .i64 p6) := by
              rcases hk01 with rfl | rfl
              · exact ⟨y, m, d, h, i, s, c, hinv.2.cell 0, hinv.2.cell 1, hinv.2.cell 2, hinv.2.cell 3, hinv.2.cell 4, hinv.2.cell 5, hinv.2.cell 6⟩
              · exact ⟨Y, M, D, H, I, S, C, hinv.2.cell 7, hinv.2.cell 8, hinv.2.cell 9, hinv.2.cell 10, hinv.2.cell 11, hinv.2.cell 12, hinv.2.cell 13⟩
            clear hk01
            have HI := Lib.hid hinv
            have hz := hinv.2.lt
            clear hinv
            have hm := fun W hW => millis_any p0 p1 p2 p3 p4 p5 p6 z W hW
            have hr := fun W => rmillis_any p0 p1 p2 p3 p4 p5 p6 z W
            have hc := fun W hW => check_any p0 p1 p2 p3 p4 p5 p6 W hW
            have hd := fun W => rcheck_any p0 p1 p2 p3 p4 p5 p6 W
            obtain ⟨mv, hmv⟩ : ∃ x, milV p0 p1 p2 p3 p4 p5 p6 z = x := ⟨_, rfl⟩
            obtain ⟨me, hme⟩ : ∃ x, milE p0 p1 p2 p3 p4 p5 p6 z = x := ⟨_, rfl⟩
            obtain ⟨ce, hce⟩ : ∃ x, chkE p0 p1 p2 p3 p4 p5 p6 = x := ⟨_, rfl⟩
            rw [hmv, hme] at hm hr
            rw [hce] at hc hd
            have HM := Lib.hid (And.intro hm (And.intro hr (And.intro hc hd)))
            clear hm hr hc hd hmv hme hce
            go_wp2_with fail
            refine (HM.out.1 _ (HT.out.below (bl_trans HI.out.1.1 (below_alloc _ _)))).mono ?_
            rintro e wa ⟨rfl, hba⟩
            clear q0 q1 q2 q3 q4 q5 q6
            have hbx := RowAt.below (RowAt.new 23 #[.int .i64 p0, .int .i64 p1, .int .i64 p2, .int .i64 p3, .int .i64 p4, .int .i64 p5, .int .i64 p6] wp) hba
            have q0 := hbx.cell 0
            have q1 := hbx.cell 1
            have q2 := hbx.cell 2
            have q3 := hbx.cell 3
            have q4 := hbx.cell 4
            have q5 := hbx.cell 5
            have q6 := hbx.cell 6
            simp only [List.getElem?_toArray, List.getElem?_cons_zero, List.getElem?_cons_succ] at q0 q1 q2 q3 q4 q5 q6
            have hIa := HI.out.below (bl_trans (below_alloc wp _) hba)
            have HA := Lib.hid (And.intro hbx hIa)
            clear hbx hIa hba
            go_wp2_with fail
            refine (HM.out.2.1 _).mono ?_
            rintro e wb ⟨rfl, hbb⟩
            clear q0 q1 q2 q3 q4 q5 q6
            have hbx := HA.out.1.below hbb
            have hIb := HA.out.2.below hbb
            have HB := Lib.hid (And.intro hbx hIb)
            clear hbx hIb hbb HA HI
            go_wp2_with fail
            refine wp_region_held_drew (S := RowAt wp.heap.size 23 #[.int .i64 p0, .int .i64 p1, .int .i64 p2, .int .i64 p3, .int .i64 p4, .int .i64 p5, .int .i64 p6]) (by kernel_rfl) (show _ from HB.out.1) (fun hHeld => ?_)
            refine wpAnyH_take (i := 0) (v := ?v0a) rfl (by kernel_rfl) (by kernel_rfl) (by kernel_rfl) (fun _ _ _ h => h) (Or.inl ⟨by rfl, fun w' hSw => ?y0a⟩) (by assumption) ?r0a
            case y0a =>
              go_simp
              try with_reducible rfl
            try simp only [Act.put, List.getElem_toArray, List.getElem_cons_zero, List.getElem_cons_succ, List.setIfInBounds_toArray, List.set_cons_zero, List.set_cons_succ]
            refine wpAnyH_take (i := 1) (v := ?v1a) rfl (by kernel_rfl) (by kernel_rfl) (by kernel_rfl) (fun _ _ _ h => h) (Or.inl ⟨by rfl, fun w' hSw => ?y1a⟩) (by assumption) ?r1a
            case y1a =>
              go_simp
              try with_reducible rfl
            try simp only [Act.put, List.getElem_toArray, List.getElem_cons_zero, List.getElem_cons_succ, List.setIfInBounds_toArray, List.set_cons_zero, List.set_cons_succ]
            refine wpAnyH_take (i := 2) (v := ?v2a) rfl (by kernel_rfl) (by kernel_rfl) (by kernel_rfl) (fun _ _ _ h => h) (Or.inl ⟨by rfl, fun w' hSw => ?y2a⟩) (by assumption) ?r2a
            case y2a =>
              go_simp
              try with_reducible rfl
            try simp only [Act.put, List.getElem_toArray, List.getElem_cons_zero, List.getElem_cons_succ, List.setIfInBounds_toArray, List.set_cons_zero, List.set_cons_succ]
            refine wpAnyH_take (i := 3) (v := ?v3a) rfl (by kernel_rfl) (by kernel_rfl) (by kernel_rfl) (fun _ _ _ h => h) (Or.inl ⟨by rfl, fun w' hSw => ?y3a⟩) (by assumption) ?r3a
            case y3a =>
              go_simp
              try with_reducible rfl
            try simp only [Act.put, List.getElem_toArray, List.getElem_cons_zero, List.getElem_cons_succ, List.setIfInBounds_toArray, List.set_cons_zero, List.set_cons_succ]
            refine wpAnyH_take (i := 4) (v := ?v4a) rfl (by kernel_rfl) (by kernel_rfl) (by kernel_rfl) (fun _ _ _ h => h) (Or.inl ⟨by rfl, fun w' hSw => ?y4a⟩) (by assumption) ?r4a
            case y4a =>
              go_simp
              try with_reducible rfl
            try simp only [Act.put, List.getElem_toArray, List.getElem_cons_zero, List.getElem_cons_succ, List.setIfInBounds_toArray, List.set_cons_zero, List.set_cons_succ]
            refine wpAnyH_take (i := 5) (v := ?v5a) rfl (by kernel_rfl) (by kernel_rfl) (by kernel_rfl) (fun _ _ _ h => h) (Or.inl ⟨by rfl, fun w' hSw => ?y5a⟩) (by assumption) ?r5a
            case y5a =>
              go_simp
              try with_reducible rfl
            try simp only [Act.put, List.getElem_toArray, List.getElem_cons_zero, List.getElem_cons_succ, List.setIfInBounds_toArray, List.set_cons_zero, List.set_cons_succ]
            refine wpAnyH_take (i := 6) (v := ?v6a) rfl (by kernel_rfl) (by kernel_rfl) (by kernel_rfl) (fun _ _ _ h => h) (Or.inl ⟨by rfl, fun w' hSw => ?y6a⟩) (by assumption) ?r6a
            case y6a =>
              go_simp
              try with_reducible rfl
            try simp only [Act.put, List.getElem_toArray, List.getElem_cons_zero, List.getElem_cons_succ, List.setIfInBounds_toArray, List.set_cons_zero, List.set_cons_succ]
            refine wpAnyH_take (i := 7) (v := ?v7a) rfl (by kernel_rfl) (by kernel_rfl) (by kernel_rfl) (fun _ _ _ h => h) (Or.inl ⟨by rfl, fun w' hSw => ?y7a⟩) (by assumption) ?r7a
            case y7a =>
              go_simp
              try with_reducible rfl
            try simp only [Act.put, List.getElem_toArray, List.getElem_cons_zero, List.getElem_cons_succ, List.setIfInBounds_toArray, List.set_cons_zero, List.set_cons_succ]
            refine wpAnyH_take (i := 8) (v := ?v8a) rfl (by kernel_rfl) (by kernel_rfl) (by kernel_rfl) (fun _ _ _ h => h) (Or.inl ⟨by rfl, fun w' hSw => ?y8a⟩) (by assumption) ?r8a
            case y8a =>
              go_simp
              try with_reducible rfl
            try simp only [Act.put, List.getElem_toArray, List.getElem_cons_zero, List.getElem_cons_succ, List.setIfInBounds_toArray, List.set_cons_zero, List.set_cons_succ]
            refine wpAnyH_take (i := 9) (v := ?v9a) rfl (by kernel_rfl) (by kernel_rfl) (by kernel_rfl) (fun _ _ _ h => h) (Or.inl ⟨by rfl, fun w' hSw => ?y9a⟩) (by assumption) ?r9a
            case y9a =>
              have q0 := RowAt.cell hSw 0
              have q1 := RowAt.cell hSw 1
              have q2 := RowAt.cell hSw 2
              have q3 := RowAt.cell hSw 3
              have q4 := RowAt.cell hSw 4
              have q5 := RowAt.cell hSw 5
              have q6 := RowAt.cell hSw 6
              simp only [List.getElem?_toArray, List.getElem?_cons_zero, List.getElem?_cons_succ] at q0 q1 q2 q3 q4 q5 q6
              go_simp
              try with_reducible rfl
            try simp only [Act.put, List.getElem_toArray, List.getElem_cons_zero, List.getElem_cons_succ, List.setIfInBounds_toArray, List.set_cons_zero, List.set_cons_succ]
            refine wpAnyH_take (i := 11) (v := ?v11a) rfl (by kernel_rfl) (by kernel_rfl) (by kernel_rfl) (fun _ _ _ h => h) (Or.inl ⟨by rfl, fun w' hSw => ?y11a⟩) (by assumption) ?r11a
            case y11a =>
              have q0 := RowAt.cell hSw 0
              have q1 := RowAt.cell hSw 1
              have q2 := RowAt.cell hSw 2
              have q3 := RowAt.cell hSw 3
              have q4 := RowAt.cell hSw 4
              have q5 := RowAt.cell hSw 5
              have q6 := RowAt.cell hSw 6
              simp only [List.getElem?_toArray, List.getElem?_cons_zero, List.getElem?_cons_succ] at q0 q1 q2 q3 q4 q5 q6
              go_simp
              try with_reducible rfl
            try simp only [Act.put, List.getElem_toArray, List.getElem_cons_zero, List.getElem_cons_succ, List.setIfInBounds_toArray, List.set_cons_zero, List.set_cons_succ]
            refine wpAnyH_ready (rs := [10]) (by kernel_rfl) (by simp) (AllReadyH.cons rfl (fun K hK => ?_) AllReadyH.nil)
            go_simp
            go_wp2_with (go_at_call 10; refine (HM.out.2.2.1 _ (HT.out.below HB.out.2.1.1.drew)).mono ?_; rintro e wc2 ⟨rfl, hbc⟩)
            have HC2 := Lib.hid (And.intro (RowAt.below (w := wb.drew) HB.out.1 hbc) (IInv.below (wr := wb) HB.out.2 (bl_trans (b := wb.drew) (Below.refl _ _).drew hbc)))
            clear hbc
            refine hK.out _ _ (show RowAt _ _ _ _ from HC2.out.1) (fun hHeld2 => ?_)
            clear hK K
            try simp only [Act.put, List.getElem_toArray, List.getElem_cons_zero, List.getElem_cons_succ, List.setIfInBounds_toArray, List.set_cons_zero, List.set_cons_succ]
            refine wpAnyH_ready (rs := [12]) (by kernel_rfl) (by simp) (AllReadyH.cons rfl (fun K hK => ?_) AllReadyH.nil)
            go_simp
            go_wp2_with (go_at_call 11; refine (HM.out.2.2.2 _).mono ?_; rintro e wd ⟨rfl, hbd⟩)
            have HD2 := Lib.hid (And.intro (HC2.out.1.below hbd) (HC2.out.2.below hbd))
            clear hbd
            refine hK.out _ _ (show RowAt _ _ _ _ from HD2.out.1) (fun hHeld3 => ?_)
            clear hK K
            try simp only [Act.put, List.getElem_toArray, List.getElem_cons_zero, List.getElem_cons_succ, List.setIfInBounds_toArray, List.set_cons_zero, List.set_cons_succ]
            refine wpAnyH_take (i := 13) (v := ?v13a) rfl (by kernel_rfl) (by kernel_rfl) (by kernel_rfl) (fun _ _ _ h => h) (Or.inl ⟨by rfl, fun w' hSw => ?y13a⟩) (by assumption) ?r13a
            case y13a =>
              go_simp
              try with_reducible rfl
            try simp only [Act.put, List.getElem_toArray, List.getElem_cons_zero, List.getElem_cons_succ, List.setIfInBounds_toArray, List.set_cons_zero, List.set_cons_succ]
            refine wpAnyH_take (i := 14) (v := ?v14a) rfl (by kernel_rfl) (by kernel_rfl) (by kernel_rfl) (fun _ _ _ h => h) (Or.inl ⟨by rfl, fun w' hSw => ?y14a⟩) (by assumption) ?r14a
            case y14a =>
              go_simp
              try with_reducible rfl
            try simp only [Act.put, List.getElem_toArray, List.getElem_cons_zero, List.getElem_cons_succ, List.setIfInBounds_toArray, List.set_cons_zero, List.set_cons_succ]
            refine wpAnyH_done (by kernel_rfl) ?_ _
            clear hHeld hHeld2 hHeld3
            go_wp2
            go_roundw
            case rel => exact ⟨k2 + 1, by omega, by go_num, HD2.out.2⟩
            case measure => simp [intOf]; omega
          · have HI := Lib.hid hinv.1
            clear hinv HY1
            go_wp2_with fail
            refine (near_any ms (-62135596800005) 253402300800004 t0 t1 (by decide) (by decide) (by decide) _).mono ?_
            rintro e w' ⟨r1, rfl, hr1a, hr1b, rfl⟩
            go_wp2_with fail
            refine (near_any ms (-62135596800000) (-62135496800001) t0 t1 (by decide) (by decide) (by decide) _).mono ?_
            rintro e w' ⟨r2, rfl, hr2a, hr2b, rfl⟩
            go_wp2_with fail
            refine (near_any ms 0 99999999 t0 t1 (by decide) (by decide) (by decide) _).mono ?_
            rintro e w' ⟨r3, rfl, hr3a, hr3b, rfl⟩
            go_wp2_with fail
            have hY1 : IInv w w.heap.size #[.int .i64 y, .int .i64 m, .int .i64 d, .int .i64 h, .int .i64 i, .int .i64 s, .int .i64 c] g #[.int .i64 Y, .int .i64 M, .int .i64 D, .int .i64 H, .int .i64 I, .int .i64 S, .int .i64 C] b1 #[.int .i64 zone, .int .i64 r, .int .i64 0] wp.heap.size 3 #[.int .i64 ms, .int .i64 r1, .int .i64 r2, .int .i64 (253402300799999 - r3)] (wp.alloc (.cells #[.int .i64 ms, .int .i64 r1, .int .i64 r2, .int .i64 (253402300799999 - r3)] 3)) :=
              ⟨HI.out.below (below_alloc _ _), RowAt.new _ _ _⟩
            obtain ⟨X, hX⟩ : ∃ X, wp.alloc (.cells #[.int .i64 ms, .int .i64 r1, .int .i64 r2, .int .i64 (253402300799999 - r3)] 3) = X := ⟨_, rfl⟩
            obtain ⟨b3, hb3⟩ : ∃ b, wp.heap.size = b := ⟨_, rfl⟩
            rw [hX, hb3] at hY1
            rw [hX, hb3]
            have HY3 := Lib.hid hY1
            clear hX hb3 hY1 HI hr1a hr1b hr2a hr2b hr3a hr3b
            go_loopw [105] (fun u wr => ∃ k : Nat, k ≤ 4 ∧ u = .int .i64 k ∧ IInv w w.heap.size #[.int .i64 y, .int .i64 m, .int .i64 d, .int .i64 h, .int .i64 i, .int .i64 s, .int .i64 c] g #[.int .i64 Y, .int .i64 M, .int .i64 D, .int .i64 H, .int .i64 I, .int .i64 S, .int .i64 C] b1 #[.int .i64 zone, .int .i64 r, .int .i64 0] b3 3 #[.int .i64 ms, .int .i64 r1, .int .i64 r2, .int .i64 (253402300799999 - r3)] wr) (fun u _ => 4 - (intOf u).toNat)
            case atStart => exact ⟨0, by omega, rfl, HY3.out⟩
            case round =>
              obtain ⟨k3, hk3, rfl, hinv⟩ := hrel
              obtain ⟨wq, rfl⟩ : ∃ wq : World, wq = wr := ⟨_, rfl⟩
              by_cases hlt3 : k3 < 4
              · obtain ⟨v, hv⟩ : ∃ v : Int, wq.cell? ⟨b3, k3, none⟩ = some (.int .i64 v) := by
                  have h := hinv.2.cell k3
                  have hk4 : k3 = 0 ∨ k3 = 1 ∨ k3 = 2 ∨ k3 = 3 := by omega
                  rcases hk4 with rfl | rfl | rfl | rfl
                  · exact ⟨_, h⟩
                  · exact ⟨_, h⟩
                  · exact ⟨_, h⟩
                  · exact ⟨_, h⟩
                have hD := fun W hW => dates_any v z W hW
                have hR := fun W => rdates_any v z W
                have hF := fun W hW hP => format_any v z W hW hP
                have hG := fun W => rformat_any v z W
                obtain ⟨g0, g1, g2, g3, g4, g5, g6, hgg⟩ : ∃ g0 g1 g2 g3 g4 g5 g6 : Int, datesV v z = .agg #[.int .i64 g0, .int .i64 g1, .int .i64 g2, .int .i64 g3, .int .i64 g4, .int .i64 g5, .int .i64 g6] := ⟨_, _, _, _, _, _, _, rfl⟩
                obtain ⟨de, hde⟩ : ∃ x, dE v z = x := ⟨_, rfl⟩
                obtain ⟨ft, hft⟩ : ∃ x, fT v z = x := ⟨_, rfl⟩
                rw [hgg, hde] at hD hR
                rw [hft, hde] at hF hG
                have HM := Lib.hid (And.intro hD (And.intro hR (And.intro hF hG)))
                have HI := Lib.hid hinv
                clear hD hR hF hG hgg hde hft hinv
                go_wp2_with fail
                refine (HM.out.1 _ (HT.out.below HI.out.1.1)).mono ?_
                rintro e wa ⟨rfl, hba⟩
                have hIa := HI.out.below (bl_trans hba (below_alloc wa (.cells #[.int .i64 g0, .int .i64 g1, .int .i64 g2, .int .i64 g3, .int .i64 g4, .int .i64 g5, .int .i64 g6] 23)))
                have HA := Lib.hid hIa
                clear hba hIa HI hv
                go_wp2_with fail
                refine (HM.out.2.1 _).mono ?_
                rintro e wb ⟨rfl, hbb⟩
                have hx := (RowAt.new 23 #[.int .i64 g0, .int .i64 g1, .int .i64 g2, .int .i64 g3, .int .i64 g4, .int .i64 g5, .int .i64 g6] wa).below hbb
                have hIb := HA.out.below (bl_trans hbb (below_alloc wb (.cells #[.int .i64 g0, .int .i64 g1, .int .i64 g2, .int .i64 g3, .int .i64 g4, .int .i64 g5, .int .i64 g6] 23)))
                have HB := Lib.hid (And.intro (hx.below (below_alloc wb (.cells #[.int .i64 g0, .int .i64 g1, .int .i64 g2, .int .i64 g3, .int .i64 g4, .int .i64 g5, .int .i64 g6] 23))) hIb)
                clear hbb hIb hx HA
                go_wp2_with fail
                refine (HM.out.2.2.1 _ (HT.out.below HB.out.2.1.1) (pow_below HP.out HB.out.2.1.1)).mono ?_
                rintro e wc3 ⟨rfl, hbc⟩
                have hx := HB.out.1.below hbc
                have hy := (RowAt.new 23 #[.int .i64 g0, .int .i64 g1, .int .i64 g2, .int .i64 g3, .int .i64 g4, .int .i64 g5, .int .i64 g6] wb).below hbc
                have hIc := HB.out.2.below hbc
                have HC := Lib.hid (And.intro hx (And.intro hy hIc))
                clear hbc hIc hx hy HB
                go_wp2_with fail
                refine (HM.out.2.2.2 _).mono ?_
                rintro e wd ⟨rfl, hbd⟩
                have hx := HC.out.1.below hbd
                have hy := HC.out.2.1.below hbd
                have HD := Lib.hid (HC.out.2.2.below hbd)
                have x0 := hx.cell 0
                have x1 := hx.cell 1
                have x2 := hx.cell 2
                have x3 := hx.cell 3
                have x4 := hx.cell 4
                have x5 := hx.cell 5
                have x6 := hx.cell 6
                have v0 := hy.cell 0
                have v1 := hy.cell 1
                have v2 := hy.cell 2
                have v3 := hy.cell 3
                have v4 := hy.cell 4
                have v5 := hy.cell 5
                have v6 := hy.cell 6
                simp only [List.getElem?_toArray, List.getElem?_cons_zero, List.getElem?_cons_succ] at x0 x1 x2 x3 x4 x5 x6 v0 v1 v2 v3 v4 v5 v6
                clear hbd hx hy HC
                go_wp2
                go_roundw
                case rel => exact ⟨k3 + 1, by omega, by go_num, HD.out⟩
                case measure => simp [intOf]; omega
              · have HI := Lib.hid hinv.1
                clear hinv
                go_wp2
                go_roundw
                case rel => exact ⟨k + 1, by omega, by go_num, HI.out⟩
                case measure => simp [intOf]; omega

      · have HI := Lib.hid hinv
        clear hinv
        go_wp2
        go_ret
        exact ⟨rfl, HI.out.1⟩
end Go.Proofs.YtnegfiiecegbbaaDoor
