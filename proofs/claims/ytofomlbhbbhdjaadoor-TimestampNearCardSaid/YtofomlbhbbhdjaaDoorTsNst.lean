/- The contract of package timestamp's Nearest. -/
import Derived.Test.YtofomlbhbbhdjaaDoorTsNear
namespace Go.Proofs.YtofomlbhbbhdjaaDoor
open Go.RowKit

def RowAt (b : Nat) (T : TypeId) (cs : Array Value) (w : World) : Prop := w.heap[b]? = some (.cells cs T (0, 0))
theorem RowAt.below {b : Nat} {T : TypeId} {cs : Array Value} {w w' : World} (h : RowAt b T cs w) (hb : Below w.heap.size w w') : RowAt b T cs w' := (hb.block b (Array.getElem?_eq_some_iff.1 h).1).trans h
theorem RowAt.frp {b : Nat} {T : TypeId} {cs : Array Value} {w w' : World} {P : Nat → Prop} (h : RowAt b T cs w) (hb : FrP P w w') (hn : ¬ P b) : RowAt b T cs w' := (hb.block b (Array.getElem?_eq_some_iff.1 h).1 hn).trans h
theorem RowAt.lt {b : Nat} {T : TypeId} {cs : Array Value} {w : World} (h : RowAt b T cs w) : b < w.heap.size := (Array.getElem?_eq_some_iff.1 h).1
theorem RowAt.cell {b : Nat} {T : TypeId} {cs : Array Value} {w : World} (h : RowAt b T cs w) (j : Nat) : w.cell? ⟨b, j, none⟩ = cs[j]? := Lib.cell_of_heap h j
theorem RowAt.free {b : Nat} {T : TypeId} {cs : Array Value} {w : World} (h : RowAt b T cs w) (j : Nat) : w.frozen? ⟨b, j, none⟩ = false := Lib.frozen_of_heap h j
theorem RowAt.new (T : TypeId) (cs : Array Value) (w : World) : RowAt w.heap.size T cs (w.alloc (.cells cs T)) := heap_alloc_new _ _
theorem RowAt.set {b : Nat} {T : TypeId} {cs : Array Value} {w : World} (h : RowAt b T cs w) (i : Nat) (v : Value) : RowAt b T (cs.setIfInBounds i v) (w.setCell ⟨b, i, none⟩ v) := heap_setCell_row v h
theorem RowAt.other {b c : Nat} {T : TypeId} {cs : Array Value} {w : World} (h : RowAt b T cs w) (i : Nat) (v : Value) (hn : b ≠ c) : RowAt b T cs (w.setCell ⟨c, i, none⟩ v) := (Below.heap_setCell w ⟨c, i, none⟩ v b hn).trans h

theorem below_alloc (w : World) (o : Obj) : Below w.heap.size w (w.alloc o) := (Below.refl _ _).alloc (Nat.le_refl _) _
theorem bl_trans {a b c : World} (h : Below a.heap.size a b) (k : Below b.heap.size b c) : Below a.heap.size a c := h.trans (k.mono h.size)

/-- A date is stored into an array of dates. -/
def put7 (w : World) (A o : Nat) (a b c d e f g : Int) : World :=
  ((((((w.setCell ⟨A, o, none⟩ (.int .i64 a)).setCell ⟨A, o + 1, none⟩ (.int .i64 b)).setCell ⟨A, o + 2, none⟩ (.int .i64 c)).setCell ⟨A, o + 3, none⟩ (.int .i64 d)).setCell ⟨A, o + 4, none⟩ (.int .i64 e)).setCell ⟨A, o + 5, none⟩ (.int .i64 f)).setCell ⟨A, o + 6, none⟩ (.int .i64 g)
def set7 (cs : Array Value) (o : Nat) (a b c d e f g : Int) : Array Value :=
  ((((((cs.setIfInBounds o (.int .i64 a)).setIfInBounds (o + 1) (.int .i64 b)).setIfInBounds (o + 2) (.int .i64 c)).setIfInBounds (o + 3) (.int .i64 d)).setIfInBounds (o + 4) (.int .i64 e)).setIfInBounds (o + 5) (.int .i64 f)).setIfInBounds (o + 6) (.int .i64 g)
theorem put7_row {A : Nat} {T : TypeId} {cs : Array Value} {w : World} (h : RowAt A T cs w) (o : Nat) (a b c d e f g : Int) : RowAt A T (set7 cs o a b c d e f g) (put7 w A o a b c d e f g) :=
  ((((((h.set o _).set (o + 1) _).set (o + 2) _).set (o + 3) _).set (o + 4) _).set (o + 5) _).set (o + 6) _
theorem put7_other {A n : Nat} {T : TypeId} {cs : Array Value} {w : World} (h : RowAt n T cs w) (hn : n ≠ A) (o : Nat) (a b c d e f g : Int) : RowAt n T cs (put7 w A o a b c d e f g) :=
  ((((((h.other o _ hn).other (o + 1) _ hn).other (o + 2) _ hn).other (o + 3) _ hn).other (o + 4) _ hn).other (o + 5) _ hn).other (o + 6) _ hn
theorem put7_below {B A : Nat} {a0 w : World} (h : Below B a0 w) (hB : B ≤ A) (o : Nat) (a b c d e f g : Int) : Below B a0 (put7 w A o a b c d e f g) := by
  unfold put7
  exact ((((((h.setCell (by exact hB) _).setCell (by exact hB) _).setCell (by exact hB) _).setCell (by exact hB) _).setCell (by exact hB) _).setCell (by exact hB) _).setCell (by exact hB) _
def z7 : Array Value := date7 0 0 0 0 0 0 0
def arrK (xs : Nat → D7) : Nat → Array Value
  | 0 => z7 ++ z7 ++ z7
  | 1 => (xs 0).cs ++ z7 ++ z7
  | 2 => (xs 0).cs ++ (xs 1).cs ++ z7
  | _ => arr3 xs
/-- The years around. -/
def yrs (Y : Int) (x : D7) (k : Nat) : D7 := ⟨Y - 1 + k, x.m, x.d, x.h, x.i, x.s, x.c⟩
theorem arr_step0 (Y : Int) (x : D7) : set7 (arrK (yrs Y x) 0) 0 (Y - 1) x.m x.d x.h x.i x.s x.c = arrK (yrs Y x) 1 := by simp [set7, arrK, yrs, D7.cs, date7, z7]
theorem arr_step1 (Y : Int) (x : D7) : set7 (arrK (yrs Y x) 1) 7 Y x.m x.d x.h x.i x.s x.c = arrK (yrs Y x) 2 := by simp [set7, arrK, yrs, D7.cs, date7, z7]
theorem arr_step2 (Y : Int) (x : D7) : set7 (arrK (yrs Y x) 2) 14 (Y - 1 + 2) x.m x.d x.h x.i x.s x.c = arrK (yrs Y x) 3 := by simp [set7, arrK, arr3, yrs, D7.cs, date7, z7]
open Classical in
noncomputable def neB (x : D7) (ref z : Int) : Int × Int := if okT ref z then nfold ref z (yrs (civT (pOf ref z / 86400000 - 719162)).1 x) 3 else (0, 2)

set_option maxRecDepth 100000 in
set_option maxHeartbeats 8000000 in
theorem nearest_yes (x : D7) (ref z : Int) (hk : okT ref z) (w : World) (hT : DaysT w) :
    Calls Tryd.prog 13 #[.agg #[.int .i64 x.y, .int .i64 x.m, .int .i64 x.d, .int .i64 x.h, .int .i64 x.i, .int .i64 x.s, .int .i64 x.c], .int .i64 ref, .int .i64 z] w fun e w' => e = .returned (.tuple #[.int .i64 (neB x ref z).1, .int .i64 (neB x ref z).2]) ∧ Below w.heap.size w w' := by
  have hd := fun W hW => dates_yes ref z hk.1 hk.2.1 hk.2.2 W hW
  unfold neB
  rw [if_pos hk]
  have hr := hk.1
  have hp : ref + z * 60000 + 62135596800000 = pOf ref z := rfl
  rw [hp] at hd
  obtain ⟨p, hpp⟩ : ∃ p, pOf ref z = p := ⟨_, rfl⟩
  rw [hpp] at hd ⊢
  obtain ⟨Y0, hY0⟩ : ∃ y, (civT (p / 86400000 - 719162)).1 = y := ⟨_, rfl⟩
  rw [hY0]
  have HY := Lib.hid hY0
  clear hY0
  have HD := Lib.hid hd
  have HR := Lib.hid hr
  have HT := Lib.hid hT
  clear hd hr hp hpp hT hk
  go_enter Tryd.func13, Tryd.ntmps13
  go_wp2_with fail
  refine (HD.out _ (HT.out.alloc _)).mono ?_
  rintro e w1 ⟨Y, M, D, rfl, hv, hn, hb1⟩
  have hcv := civT_is hv hn
  have hy1 := hv.1
  have hy2 := hv.2.1
  obtain rfl : Y = Y0 := by rw [← HY.out, hcv]
  have hb := bl_trans (below_alloc w (.cells #[.int .i64 x.y, .int .i64 x.m, .int .i64 x.d, .int .i64 x.h, .int .i64 x.i, .int .i64 x.s, .int .i64 x.c] 36)) hb1
  have hdt : RowAt w.heap.size 36 #[.int .i64 x.y, .int .i64 x.m, .int .i64 x.d, .int .i64 x.h, .int .i64 x.i, .int .i64 x.s, .int .i64 x.c] w1 := (RowAt.new _ _ w).below hb1
  unfold dateV
  obtain ⟨H, hH⟩ : ∃ q, p / 3600000 % 24 = q := ⟨_, rfl⟩
  obtain ⟨I, hI⟩ : ∃ q, p / 60000 % 60 = q := ⟨_, rfl⟩
  obtain ⟨S, hS⟩ : ∃ q, p / 1000 % 60 = q := ⟨_, rfl⟩
  obtain ⟨C, hC⟩ : ∃ q, p % 1000 = q := ⟨_, rfl⟩
  rw [hH, hI, hS, hC]
  have HB := Lib.hid (And.intro hb hdt)
  clear hv hn hcv hb1 hb hdt hH hI hS hC
  go_wp2_with fail
  have hX : Below w1.heap.size w1 ((w1.alloc (.cells #[.int .i64 Y, .int .i64 M, .int .i64 D, .int .i64 H, .int .i64 I, .int .i64 S, .int .i64 C] 36)).alloc (.cells #[.int .i64 0, .int .i64 0, .int .i64 0, .int .i64 0, .int .i64 0, .int .i64 0, .int .i64 0, .int .i64 0, .int .i64 0, .int .i64 0, .int .i64 0, .int .i64 0, .int .i64 0, .int .i64 0, .int .i64 0, .int .i64 0, .int .i64 0, .int .i64 0, .int .i64 0, .int .i64 0, .int .i64 0] 77)) := bl_trans (below_alloc w1 _) (below_alloc _ _)
  have hXL := (RowAt.new 36 #[.int .i64 Y, .int .i64 M, .int .i64 D, .int .i64 H, .int .i64 I, .int .i64 S, .int .i64 C] w1).below (below_alloc _ (.cells #[.int .i64 0, .int .i64 0, .int .i64 0, .int .i64 0, .int .i64 0, .int .i64 0, .int .i64 0, .int .i64 0, .int .i64 0, .int .i64 0, .int .i64 0, .int .i64 0, .int .i64 0, .int .i64 0, .int .i64 0, .int .i64 0, .int .i64 0, .int .i64 0, .int .i64 0, .int .i64 0, .int .i64 0] 77))
  have hXA := RowAt.new 77 #[.int .i64 0, .int .i64 0, .int .i64 0, .int .i64 0, .int .i64 0, .int .i64 0, .int .i64 0, .int .i64 0, .int .i64 0, .int .i64 0, .int .i64 0, .int .i64 0, .int .i64 0, .int .i64 0, .int .i64 0, .int .i64 0, .int .i64 0, .int .i64 0, .int .i64 0, .int .i64 0, .int .i64 0] (w1.alloc (.cells #[.int .i64 Y, .int .i64 M, .int .i64 D, .int .i64 H, .int .i64 I, .int .i64 S, .int .i64 C] 36))
  have hXs : (w1.alloc (.cells #[.int .i64 Y, .int .i64 M, .int .i64 D, .int .i64 H, .int .i64 I, .int .i64 S, .int .i64 C] 36)).heap.size = w1.heap.size + 1 := by simp
  rw [hXs] at hXA
  obtain ⟨X, hXX⟩ : ∃ X, (w1.alloc (.cells #[.int .i64 Y, .int .i64 M, .int .i64 D, .int .i64 H, .int .i64 I, .int .i64 S, .int .i64 C] 36)).alloc (.cells #[.int .i64 0, .int .i64 0, .int .i64 0, .int .i64 0, .int .i64 0, .int .i64 0, .int .i64 0, .int .i64 0, .int .i64 0, .int .i64 0, .int .i64 0, .int .i64 0, .int .i64 0, .int .i64 0, .int .i64 0, .int .i64 0, .int .i64 0, .int .i64 0, .int .i64 0, .int .i64 0, .int .i64 0] 77) = X := ⟨_, rfl⟩
  rw [hXX] at hX hXL hXA ⊢
  have hXD := HB.out.2.below hX
  have hXB := bl_trans HB.out.1 hX
  have hlt1 : w.heap.size < w1.heap.size := HB.out.2.lt
  obtain ⟨A, hA⟩ : ∃ A, w1.heap.size + 1 = A := ⟨_, rfl⟩
  obtain ⟨L, hL⟩ : ∃ L, w1.heap.size = L := ⟨_, rfl⟩
  obtain ⟨E, hE⟩ : ∃ E, w.heap.size = E := ⟨_, rfl⟩
  have hne : E ≠ L ∧ E ≠ A ∧ L ≠ A ∧ E ≤ L ∧ E ≤ A := by omega
  have HW := Lib.hid hE
  rw [hA] at hXA ⊢
  rw [hL] at hXL ⊢
  rw [hE] at hXD hXB ⊢
  have HX := Lib.hid (And.intro hXD (And.intro hXL (And.intro hXA hXB)))
  have HN := Lib.hid hne
  clear hX hXL hXA hXs hXX hXD hXB hlt1 hA hL hE hne HB HY
  go_loopw [21] (fun i wr => ∃ k : Nat, k ≤ 3 ∧ i = .int .i64 k ∧ (∃ y : Int, RowAt E 36 #[.int .i64 y, .int .i64 x.m, .int .i64 x.d, .int .i64 x.h, .int .i64 x.i, .int .i64 x.s, .int .i64 x.c] wr) ∧ RowAt L 36 #[.int .i64 Y, .int .i64 M, .int .i64 D, .int .i64 H, .int .i64 I, .int .i64 S, .int .i64 C] wr ∧ RowAt A 77 (arrK (yrs Y x) k) wr ∧ Below E w wr) (fun i _ => 3 - (intOf i).toNat)
  case atStart => exact ⟨0, by omega, rfl, ⟨x.y, HX.out.1⟩, HX.out.2.1, HX.out.2.2.1, HX.out.2.2.2⟩
  case round =>
    obtain ⟨k, hk, rfl, ⟨y, hrE⟩, hrL, hrA, hrB⟩ := hrel
    by_cases hlt : k < 3
    · have hk3 : k = 0 ∨ k = 1 ∨ k = 2 := by omega
      rcases hk3 with rfl | rfl | rfl
      · clear hlt hk
        have e0 := hrE.cell 0
        have e1 := hrE.cell 1
        have e2 := hrE.cell 2
        have e3 := hrE.cell 3
        have e4 := hrE.cell 4
        have e5 := hrE.cell 5
        have e6 := hrE.cell 6
        have l0 := hrL.cell 0
        have fe := hrE.free 0
        have a0 := hrA.cell 0
        have f0 := hrA.free 0
        have a1 := hrA.cell 1
        have f1 := hrA.free 1
        have a2 := hrA.cell 2
        have f2 := hrA.free 2
        have a3 := hrA.cell 3
        have f3 := hrA.free 3
        have a4 := hrA.cell 4
        have f4 := hrA.free 4
        have a5 := hrA.cell 5
        have f5 := hrA.free 5
        have a6 := hrA.cell 6
        have f6 := hrA.free 6
        simp only [List.getElem?_toArray, List.getElem?_cons_zero, List.getElem?_cons_succ] at e0 e1 e2 e3 e4 e5 e6 l0
        simp only [arrK, z7, date7, List.append_toArray, List.cons_append, List.nil_append, List.getElem?_toArray, List.getElem?_cons_zero, List.getElem?_cons_succ] at a0 a1 a2 a3 a4 a5 a6
        have HR2 := Lib.hid (And.intro hrE (And.intro hrL (And.intro hrA hrB)))
        clear hrE hrL hrA hrB
        have n1 : E ≠ A := HN.out.2.1
        have n2 : A ≠ E := fun q => HN.out.2.1 q.symm
        rw [show ((0 : Nat) : Int) = 0 from rfl]
        go_wp2
        go_roundw
        case rel =>
          exact ⟨1, by omega, rfl, ⟨_, put7_other (HR2.out.1.set 0 (.int .i64 (Y - 1))) n1 0 (Y - 1) x.m x.d x.h x.i x.s x.c⟩, put7_other (HR2.out.2.1.other 0 (.int .i64 (Y - 1)) (fun q => HN.out.1 q.symm)) HN.out.2.2.1 0 (Y - 1) x.m x.d x.h x.i x.s x.c,
            (arr_step0 Y x) ▸ put7_row (HR2.out.2.2.1.other 0 (.int .i64 (Y - 1)) n2) 0 (Y - 1) x.m x.d x.h x.i x.s x.c, put7_below (HR2.out.2.2.2.setCell (p := ⟨E, 0, none⟩) (Nat.le_refl _) (.int .i64 (Y - 1))) HN.out.2.2.2.2 0 (Y - 1) x.m x.d x.h x.i x.s x.c⟩
        case measure => simp [intOf]
      · clear hlt hk
        have e0 := hrE.cell 0
        have e1 := hrE.cell 1
        have e2 := hrE.cell 2
        have e3 := hrE.cell 3
        have e4 := hrE.cell 4
        have e5 := hrE.cell 5
        have e6 := hrE.cell 6
        have l0 := hrL.cell 0
        have fe := hrE.free 0
        have a0 := hrA.cell 7
        have f0 := hrA.free 7
        have a1 := hrA.cell 8
        have f1 := hrA.free 8
        have a2 := hrA.cell 9
        have f2 := hrA.free 9
        have a3 := hrA.cell 10
        have f3 := hrA.free 10
        have a4 := hrA.cell 11
        have f4 := hrA.free 11
        have a5 := hrA.cell 12
        have f5 := hrA.free 12
        have a6 := hrA.cell 13
        have f6 := hrA.free 13
        simp only [List.getElem?_toArray, List.getElem?_cons_zero, List.getElem?_cons_succ] at e0 e1 e2 e3 e4 e5 e6 l0
        simp only [arrK, D7.cs, z7, date7, yrs, List.append_toArray, List.cons_append, List.nil_append, List.getElem?_toArray, List.getElem?_cons_zero, List.getElem?_cons_succ] at a0 a1 a2 a3 a4 a5 a6
        have HR2 := Lib.hid (And.intro hrE (And.intro hrL (And.intro hrA hrB)))
        clear hrE hrL hrA hrB
        have n1 : E ≠ A := HN.out.2.1
        have n2 : A ≠ E := fun q => HN.out.2.1 q.symm
        rw [show ((1 : Nat) : Int) = 1 from rfl]
        go_wp2
        go_roundw
        case rel =>
          exact ⟨2, by omega, rfl, ⟨_, put7_other (HR2.out.1.set 0 (.int .i64 Y)) n1 7 Y x.m x.d x.h x.i x.s x.c⟩, put7_other (HR2.out.2.1.other 0 (.int .i64 Y) (fun q => HN.out.1 q.symm)) HN.out.2.2.1 7 Y x.m x.d x.h x.i x.s x.c,
            (arr_step1 Y x) ▸ put7_row (HR2.out.2.2.1.other 0 (.int .i64 Y) n2) 7 Y x.m x.d x.h x.i x.s x.c, put7_below (HR2.out.2.2.2.setCell (p := ⟨E, 0, none⟩) (Nat.le_refl _) (.int .i64 Y)) HN.out.2.2.2.2 7 Y x.m x.d x.h x.i x.s x.c⟩
        case measure => simp [intOf]
      · clear hlt hk
        have e0 := hrE.cell 0
        have e1 := hrE.cell 1
        have e2 := hrE.cell 2
        have e3 := hrE.cell 3
        have e4 := hrE.cell 4
        have e5 := hrE.cell 5
        have e6 := hrE.cell 6
        have l0 := hrL.cell 0
        have fe := hrE.free 0
        have a0 := hrA.cell 14
        have f0 := hrA.free 14
        have a1 := hrA.cell 15
        have f1 := hrA.free 15
        have a2 := hrA.cell 16
        have f2 := hrA.free 16
        have a3 := hrA.cell 17
        have f3 := hrA.free 17
        have a4 := hrA.cell 18
        have f4 := hrA.free 18
        have a5 := hrA.cell 19
        have f5 := hrA.free 19
        have a6 := hrA.cell 20
        have f6 := hrA.free 20
        simp only [List.getElem?_toArray, List.getElem?_cons_zero, List.getElem?_cons_succ] at e0 e1 e2 e3 e4 e5 e6 l0
        simp only [arrK, D7.cs, z7, date7, yrs, List.append_toArray, List.cons_append, List.nil_append, List.getElem?_toArray, List.getElem?_cons_zero, List.getElem?_cons_succ] at a0 a1 a2 a3 a4 a5 a6
        have HR2 := Lib.hid (And.intro hrE (And.intro hrL (And.intro hrA hrB)))
        clear hrE hrL hrA hrB
        have n1 : E ≠ A := HN.out.2.1
        have n2 : A ≠ E := fun q => HN.out.2.1 q.symm
        rw [show ((2 : Nat) : Int) = 2 from rfl]
        go_wp2
        go_roundw
        case rel =>
          exact ⟨3, by omega, rfl, ⟨_, put7_other (HR2.out.1.set 0 (.int .i64 (Y - 1 + 2))) n1 14 (Y - 1 + 2) x.m x.d x.h x.i x.s x.c⟩, put7_other (HR2.out.2.1.other 0 (.int .i64 (Y - 1 + 2)) (fun q => HN.out.1 q.symm)) HN.out.2.2.1 14 (Y - 1 + 2) x.m x.d x.h x.i x.s x.c,
            (arr_step2 Y x) ▸ put7_row (HR2.out.2.2.1.other 0 (.int .i64 (Y - 1 + 2)) n2) 14 (Y - 1 + 2) x.m x.d x.h x.i x.s x.c, put7_below (HR2.out.2.2.2.setCell (p := ⟨E, 0, none⟩) (Nat.le_refl _) (.int .i64 (Y - 1 + 2))) HN.out.2.2.2.2 14 (Y - 1 + 2) x.m x.d x.h x.i x.s x.c⟩
        case measure => simp [intOf]
    · obtain rfl : k = 3 := by omega
      rw [show arrK (yrs Y x) 3 = arr3 (yrs Y x) from rfl] at hrA
      have hno := fun W hW => nearestOf_any (yrs Y x) ref z HR.out W hW
      have hsz := arr3_size (yrs Y x)
      obtain ⟨F, hF⟩ : ∃ F, arr3 (yrs Y x) = F := ⟨_, rfl⟩
      rw [hF] at hrA hno hsz
      have hFF : wr.heap[A]? = some (.cells F 77 (0, 0)) := hrA
      have HF := Lib.hid (And.intro hFF (And.intro hno hsz))
      clear hrA hFF hno hsz hF hrE hrL hlt hk
      go_wp2_with (with_reducible refine wpList_load_row rfl 77 (.tmp 10) rfl A rfl 77 F (0, 0) _ HF.out.1 Tryd.underlying77 rfl (by rw [HF.out.2.2]; exact sizeArr3) ?_)
      refine (HF.out.2.1 _ (HT.out.below (by rw [← HW.out] at hrB; exact hrB))).mono ?_
      rintro e w2 ⟨rfl, hb2⟩
      go_wp2
      go_ret2
      obtain rfl := HW.out
      exact ⟨rfl, hrB.trans (hb2.mono hrB.size)⟩

set_option maxRecDepth 100000 in
set_option maxHeartbeats 4000000 in
theorem nearest_no (x : D7) (ref z : Int) (hk : ¬ okT ref z) (w : World) :
    Calls Tryd.prog 13 #[.agg #[.int .i64 x.y, .int .i64 x.m, .int .i64 x.d, .int .i64 x.h, .int .i64 x.i, .int .i64 x.s, .int .i64 x.c], .int .i64 ref, .int .i64 z] w fun e w' => e = .returned (.tuple #[.int .i64 0, .int .i64 2]) ∧ Below w.heap.size w w' := by
  have HD := Lib.hid (fun W => dates_no ref z hk W)
  clear hk
  go_enter Tryd.func13, Tryd.ntmps13
  go_wp2_with fail
  refine (HD.out _).mono ?_
  rintro e w1 ⟨rfl, hb1⟩
  have hb := bl_trans (below_alloc w _) hb1
  unfold zeroDate
  go_wp2
  go_ret2
  exact ⟨rfl, bl_trans hb (below_alloc _ _)⟩
theorem nearest_any (x : D7) (ref z : Int) (w : World) (hT : DaysT w) :
    Calls Tryd.prog 13 #[.agg #[.int .i64 x.y, .int .i64 x.m, .int .i64 x.d, .int .i64 x.h, .int .i64 x.i, .int .i64 x.s, .int .i64 x.c], .int .i64 ref, .int .i64 z] w fun e w' => e = .returned (.tuple #[.int .i64 (neB x ref z).1, .int .i64 (neB x ref z).2]) ∧ Below w.heap.size w w' := by
  by_cases hk : okT ref z
  · exact nearest_yes x ref z hk w hT
  · have e : neB x ref z = (0, 2) := by unfold neB; rw [if_neg hk]
    rw [e]; exact nearest_no x ref z hk w
end Go.Proofs.YtofomlbhbbhdjaaDoor
