/- The contract of Do where a change is refused by its method. -/
import Derived.Test.YtfihnmfbgdjkpaaFsP
import Derived.Test.YtfihnmfbgdjkpaaFtB
namespace Go.Proofs.Ytfihnmfbgdjkpaa
open Go.RowKit

variable {names : List NameV} {files : List FileV} {opn : List Int} {nv fv ov : Value} {w w' : World}
set_option maxRecDepth 100000 in
set_option linter.unusedSimpArgs false in
set_option maxHeartbeats 8000000 in
theorem doE_copyMore (E : Int) (hE : ¬ E = 0) (t t2 : ByteArray) (dv : Value) (n : Int) (h : FsAt names files opn nv fv ov w) (hnm : NamesOk 6 t t2) (hdv : ∃ a m c, dv = .slice a m c)
    (hM : ∀ d base W nv' fv', DirAt d base names files opn nv' fv' ov W → base ≤ W.heap.size → Below w.heap.size w W → Calls Try.prog 77 #[.pointer (some ⟨d, 0, none⟩), .agg #[.int .i64 6, .string t, .string t2, dv, .int .i64 n]] W fun e w' => e = .returned (.int .i64 E) ∧ Below W.heap.size W w') :
    Calls Try.prog 15 #[.agg #[nv, fv, ov], .agg #[.int .i64 6, .string t, .string t2, dv, .int .i64 n]] w fun e w' => e = .returned (.tuple #[.agg #[nv, fv, ov], .int .i64 E]) ∧ Below w.heap.size w w' := by
  obtain ⟨da, dm, dc, rfl⟩ := hdv
  obtain ⟨na, nm, nc, rfl⟩ := row_slice h.n
  obtain ⟨fa, fm, fc, rfl⟩ := row_slice h.f
  obtain ⟨oa, om, oc, rfl⟩ := row_slice h.o
  have hz1 : (w.alloc (.cells #[.slice na nm nc, .slice fa fm fc, .slice oa om oc] 31)).heap.size = w.heap.size + 1 := by simp
  have hf : BkAt w.heap.size 31 #[.slice na nm nc, .slice fa fm fc, .slice oa om oc] ((w.alloc (.cells #[.slice na nm nc, .slice fa fm fc, .slice oa om oc] 31)).alloc (.cells #[.int .i64 6, .string t, .string t2, .slice da dm dc, .int .i64 n] 37)) := (BkAt.new _ _ w).below (below_new _ _)
  have hc : BkAt (w.heap.size + 1) 37 #[.int .i64 6, .string t, .string t2, .slice da dm dc, .int .i64 n] ((w.alloc (.cells #[.slice na nm nc, .slice fa fm fc, .slice oa om oc] 31)).alloc (.cells #[.int .i64 6, .string t, .string t2, .slice da dm dc, .int .i64 n] 37)) := hz1 ▸ BkAt.new _ _ _
  have hb := bl_trans' (below_new w (.cells #[.slice na nm nc, .slice fa fm fc, .slice oa om oc] 31)) (below_new _ (.cells #[.int .i64 6, .string t, .string t2, .slice da dm dc, .int .i64 n] 37))
  have hz2 : ((w.alloc (.cells #[.slice na nm nc, .slice fa fm fc, .slice oa om oc] 31)).alloc (.cells #[.int .i64 6, .string t, .string t2, .slice da dm dc, .int .i64 n] 37)).heap.size = w.heap.size + 2 := by simp
  have hr : BkAt (w.heap.size + 2) 31 #[.slice none 0 0, .slice none 0 0, .slice none 0 0] (((w.alloc (.cells #[.slice na nm nc, .slice fa fm fc, .slice oa om oc] 31)).alloc (.cells #[.int .i64 6, .string t, .string t2, .slice da dm dc, .int .i64 n] 37)).alloc (.cells #[.slice none 0 0, .slice none 0 0, .slice none 0 0] 31)) := hz2 ▸ BkAt.new _ _ _
  have hb2 := below_new ((w.alloc (.cells #[.slice na nm nc, .slice fa fm fc, .slice oa om oc] 31)).alloc (.cells #[.int .i64 6, .string t, .string t2, .slice da dm dc, .int .i64 n] 37)) (.cells #[.slice none 0 0, .slice none 0 0, .slice none 0 0] 31)
  obtain ⟨w1, hw1⟩ : ∃ w1, ((w.alloc (.cells #[.slice na nm nc, .slice fa fm fc, .slice oa om oc] 31)).alloc (.cells #[.int .i64 6, .string t, .string t2, .slice da dm dc, .int .i64 n] 37)).alloc (.cells #[.slice none 0 0, .slice none 0 0, .slice none 0 0] 31) = w1 := ⟨_, rfl⟩
  have hf1 := hf.below hb2
  have hc1 := hc.below hb2
  have hb1 := bl_trans' hb hb2
  rw [hw1] at hr hf1 hc1 hb1
  have hhn := fun W => hasNames_yes 6 t t2 (.slice da dm dc) n W hnm
  have hed := fun W (hW : Below w.heap.size w W) => edit_any (h.below hW)
  have HC := Lib.hid (show ∀ W, BkAt (w.heap.size + 1) 37 #[.int .i64 6, .string t, .string t2, .slice da dm dc, .int .i64 n] W → W.cell? ⟨w.heap.size + 1, 0, none⟩ = some (.int .i64 6) ∧ W.cell? ⟨w.heap.size + 1, 1, none⟩ = some (.string t) ∧ W.cell? ⟨w.heap.size + 1, 2, none⟩ = some (.string t2) ∧ W.cell? ⟨w.heap.size + 1, 3, none⟩ = some (.slice da dm dc) ∧ W.cell? ⟨w.heap.size + 1, 4, none⟩ = some (.int .i64 n) from fun W hW => ⟨hW.cell 0, hW.cell 1, hW.cell 2, hW.cell 3, hW.cell 4⟩)
  have HF := Lib.hid (show ∀ W, BkAt w.heap.size 31 #[.slice na nm nc, .slice fa fm fc, .slice oa om oc] W → W.cell? ⟨w.heap.size, 0, none⟩ = some (.slice na nm nc) ∧ W.cell? ⟨w.heap.size, 1, none⟩ = some (.slice fa fm fc) ∧ W.cell? ⟨w.heap.size, 2, none⟩ = some (.slice oa om oc) from fun W hW => ⟨hW.cell 0, hW.cell 1, hW.cell 2⟩)
  have H := Lib.hid (And.intro hf1 (And.intro hc1 (And.intro hr hb1)))
  have HH := Lib.hid (And.intro hhn (And.intro hed hM))
  have HW := Lib.hid hw1
  clear hf hc hb hr hb2 hf1 hc1 hb1 hhn hed hM hw1 h hz1 hz2 hnm
  go_enter Try.func15, Try.ntmps15
  go_upto_region 1 with (fail)
  rw [HW.out]
  obtain ⟨c0, c1, c2, c3, c4⟩ := HC.out w1 H.out.2.1
  go_wp2_with fail
  refine (HH.out.1 _).mono ?_
  rintro e w2 ⟨rfl, hk2⟩
  clear c0 c1 c2 c3 c4
  have hx2 := H.out.1.below hk2
  obtain ⟨f0, f1, f2⟩ := HF.out w2 hx2
  have B2 := Lib.hid (bl_trans' H.out.2.2.2 hk2)
  have C2 := Lib.hid (H.out.2.1.below hk2)
  have R2 := Lib.hid (H.out.2.2.1.below hk2)
  have F2 := Lib.hid hx2
  clear hk2 hx2
  go_wp2_with fail
  refine (HH.out.2.1 _ B2.out).mono ?_
  rintro e w3 ⟨d, nv3, fv3, rfl, hd3, hge3, hk3⟩
  clear f0 f1 f2
  have C3 := Lib.hid (C2.out.below hk3)
  have R3 := Lib.hid (R2.out.below hk3)
  have F3 := Lib.hid (F2.out.below hk3)
  have B3 := Lib.hid (bl_trans' B2.out hk3)
  have D3 := Lib.hid (And.intro hd3 (And.intro hge3 (And.intro hk3.size (And.intro C2.out.lt R2.out.lt))))
  clear hd3 hge3 hk3
  have hidx : ∀ W, (Instr.index 80 (.agg #[Value.nilFunc, .func (Fn.func 72) #[] #[], .func (Fn.func 73) #[] #[], .func (Fn.func 74) #[] #[], .func (Fn.func 75) #[] #[], .func (Fn.func 76) #[] #[], .func (Fn.func 77) #[] #[], .func (Fn.func 78) #[] #[], .func (Fn.func 79) #[] #[]]) (.int .i64 6)).run Try.prog W = .ok (.func (Fn.func 77) #[] #[]) W := fun _ => by kernel_rfl
  go_upto_region 6 with (fail)
  go_region_held3 (fun W => W.cell? ⟨w.heap.size + 1, 0, none⟩ = some (.int .i64 6) ∧ W.cell? ⟨w.heap.size + 1, 1, none⟩ = some (.string t) ∧ W.cell? ⟨w.heap.size + 1, 2, none⟩ = some (.string t2) ∧ W.cell? ⟨w.heap.size + 1, 3, none⟩ = some (.slice da dm dc) ∧ W.cell? ⟨w.heap.size + 1, 4, none⟩ = some (.int .i64 n)) (first | exact HC.out _ (show BkAt _ _ _ w3.drew from C3.out) | exact HC.out _ hc5 | exact HC.out _ hc4)
    (first
      | (go_at_call 40; refine (changes_any _).mono ?_; rintro e w4 ⟨rfl, hk4⟩; have hc4 := (show BkAt _ _ _ w3.drew from C3.out).below hk4; have hb4 := bl_trans' (Below.refl w3.heap.size w3).drew hk4)
      | ((first | go_at_call 77 | go_at_fn 77); go_loud (refine (HH.out.2.2 d w2.heap.size _ nv3 fv3 (D3.out.1.below hb4) (Nat.le_trans D3.out.2.2.1 hb4.size) (bl_trans' B3.out hb4)).mono ?_; rintro e w5 ⟨rfl, hk5⟩; have hc5 := hc4.below hk5)))
  all_goals
    have R5 := Lib.hid (((show BkAt _ _ _ w3.drew from R3.out).below hk4).below hk5)
    have F5 := Lib.hid (((show BkAt _ _ _ w3.drew from F3.out).below hk4).below hk5)
    have hbb := bl_trans' (bl_trans' B3.out hb4) hk5
    have B5 := Lib.hid (((hbb.setCell (p := ⟨w.heap.size + 1 + 1, 0, none⟩) (by show w.heap.size ≤ w.heap.size + 1 + 1; omega) (.slice na nm nc)).setCell (p := ⟨w.heap.size + 1 + 1, 1, none⟩) (by show w.heap.size ≤ w.heap.size + 1 + 1; omega) (.slice fa fm fc)).setCell (p := ⟨w.heap.size + 1 + 1, 2, none⟩) (by show w.heap.size ≤ w.heap.size + 1 + 1; omega) (.slice oa om oc))
    obtain ⟨f0, f1, f2⟩ := HF.out _ F5.out
    obtain ⟨r0, r1, r2⟩ : w5.cell? ⟨w.heap.size + 1 + 1, 0, none⟩ = some (.slice none 0 0) ∧ w5.cell? ⟨w.heap.size + 1 + 1, 1, none⟩ = some (.slice none 0 0) ∧ w5.cell? ⟨w.heap.size + 1 + 1, 2, none⟩ = some (.slice none 0 0) := ⟨R5.out.cell 0, R5.out.cell 1, R5.out.cell 2⟩
    obtain ⟨q0, q1, q2⟩ : w5.frozen? ⟨w.heap.size + 1 + 1, 0, none⟩ = false ∧ w5.frozen? ⟨w.heap.size + 1 + 1, 1, none⟩ = false ∧ w5.frozen? ⟨w.heap.size + 1 + 1, 2, none⟩ = false := ⟨R5.out.free 0, R5.out.free 1, R5.out.free 2⟩
    have hE2 : decide (E = 0) = false := decide_eq_false hE
    clear hk4 hc4 hb4 hc5 hk5 hbb
    go_wp2
    exact bodyPost_ret (v := .tuple #[.agg #[.slice na nm nc, .slice fa fm fc, .slice oa om oc], .int .i64 E]) (by simp [results, Try.results15, go_sem, r0, r1, r2, q0, q1, q2]) rfl ⟨rfl, B5.out⟩
end Go.Proofs.Ytfihnmfbgdjkpaa
