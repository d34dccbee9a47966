/- The contract of Do where a change succeeds, and sweep does what it does. -/
import Derived.Test.YtbpboghjgbgjfaaFsP
import Derived.Test.YtbpboghjgbgjfaaFtB
namespace Go.Proofs.Ytbpboghjgbgjfaa
open Go.RowKit

variable {names : List NameV} {files : List FileV} {opn : List Int} {nv fv ov : Value} {w w' : World}
def SwOut (d base : Nat) (names2 : List NameV) (opn : List Int) (ov : Value) (R2 : List FileV → World → Prop) (nv fv : Value) (w : World) (e : Ending) (w' : World) : Prop :=
  e = .returned (.tuple #[]) ∧ ∃ files2 fv2, DirOut d base names2 files2 opn ov nv fv w nv fv2 w' ∧ R2 files2 w'
theorem do_end2 {d base b : Nat} {names2 : List NameV} {files2 files3 : List FileV} {nv3 fv3 nv5 fv5 fv6 : Value} {cs : Array Value} {w4 w5 w6 : World} {R2 : List FileV → World → Prop} (hB : Below w.heap.size w w4) (ha : DirAt d base names files opn nv3 fv3 ov w4) (hd : base ≤ d) (hbw : w.heap.size ≤ base)
    (ho : DirOut d base names2 files2 opn ov nv3 fv3 w4 nv5 fv5 w5) (ho6 : DirOut d base names2 files3 opn ov nv5 fv5 w5 nv5 fv6 w6) (hr6 : BkAt b 33 cs w6) (hbb : w.heap.size ≤ b)
    (hR : ∀ fs W W', R2 fs W → (∀ v l, DtR W v l → DtR W' v l) → R2 fs W') (hr5 : R2 files3 w6) :
    DoOut names2 opn ov R2 w (.returned (.tuple #[.agg #[nv5, fv6, ov], .int .i64 0])) (((w6.setCell ⟨b, 0, none⟩ nv5).setCell ⟨b, 1, none⟩ fv6).setCell ⟨b, 2, none⟩ ov) := by
  have hcb : ChP (fun i => i = b) w6 (((w6.setCell ⟨b, 0, none⟩ nv5).setCell ⟨b, 1, none⟩ fv6).setCell ⟨b, 2, none⟩ ov) := (((ChP.refl (fun i => i = b) _).set b 0 _ rfl).set b 1 _ rfl).set b 2 _ rfl
  have hge := ha.ge hd
  have hoo := ho.trans ho6
  have h6 := hoo.a
  have c1 := hoo.c.toBelow (B := w.heap.size) hB.size (fun i e => Nat.le_trans hbw (hge i e))
  have c3 := hcb.toBelow (B := w.heap.size) (Nat.le_trans hB.size hoo.c.size) (fun i e => by subst e; omega)
  refine ⟨files3, nv5, fv6, rfl, ⟨row_base (row_ch h6.n hcb (fun g hg => row_ne h6.n hr6 (by decide) hg)) (Nat.zero_le _), row_base (row_ch h6.f hcb (fun g hg => row_ne h6.f hr6 (by decide) hg)) (Nat.zero_le _), row_ch h6.o hcb (fun g hg => row_ne h6.o hr6 (by decide) hg), h6.nl, h6.fl, h6.ol, h6.os, h6.sl⟩, ?_, (hB.trans c1).trans c3⟩
  exact hR files3 w6 _ hr5 fun v l hv => row_ch hv hcb (fun g hg => row_ne hv hr6 (by decide) hg)
set_option maxRecDepth 100000 in
set_option linter.unusedSimpArgs false in
set_option maxHeartbeats 8000000 in
theorem doS_append (t t2 : ByteArray) (dv : Value) (n : Int) (names2 : List NameV) (R R2 : List FileV → World → Prop) (h : FsAt names files opn nv fv ov w) (hnm : NamesOk 2 t t2) (hdv : ∃ a m c, dv = .slice a m c)
    (hR : ∀ fs W W', R2 fs W → (∀ v l, DtR W v l → DtR W' v l) → R2 fs W')
    (hU : ∀ d base W nv' fv' fs, DirAt d base names2 fs opn nv' fv' ov W → R fs W → Calls Try.prog 25 #[.pointer (some ⟨d, 0, none⟩)] W (SwOut d base names2 opn ov R2 nv' fv' W))
    (hM : ∀ d base W nv' fv', DirAt d base names files opn nv' fv' ov W → base ≤ W.heap.size → Below w.heap.size w W → Calls Try.prog 37 #[.pointer (some ⟨d, 0, none⟩), .agg #[.int .i64 2, .string t, .string t2, dv, .int .i64 n]] W (MetOut base names2 opn ov R d nv' fv' W)) :
    Calls Try.prog 15 #[.agg #[nv, fv, ov], .agg #[.int .i64 2, .string t, .string t2, dv, .int .i64 n]] w (DoOut names2 opn ov R2 w) := by
  obtain ⟨da, dm, dc, rfl⟩ := hdv
  obtain ⟨na, nm, nc, rfl⟩ := row_slice h.n
  obtain ⟨fa, fm, fc, rfl⟩ := row_slice h.f
  obtain ⟨oa, om, oc, rfl⟩ := row_slice h.o
  have hz1 : (w.alloc (.cells #[.slice na nm nc, .slice fa fm fc, .slice oa om oc] 33)).heap.size = w.heap.size + 1 := by simp
  have hf : BkAt w.heap.size 33 #[.slice na nm nc, .slice fa fm fc, .slice oa om oc] ((w.alloc (.cells #[.slice na nm nc, .slice fa fm fc, .slice oa om oc] 33)).alloc (.cells #[.int .i64 2, .string t, .string t2, .slice da dm dc, .int .i64 n] 39)) := (BkAt.new _ _ w).below (below_new _ _)
  have hc : BkAt (w.heap.size + 1) 39 #[.int .i64 2, .string t, .string t2, .slice da dm dc, .int .i64 n] ((w.alloc (.cells #[.slice na nm nc, .slice fa fm fc, .slice oa om oc] 33)).alloc (.cells #[.int .i64 2, .string t, .string t2, .slice da dm dc, .int .i64 n] 39)) := hz1 ▸ BkAt.new _ _ _
  have hb := bl_trans' (below_new w (.cells #[.slice na nm nc, .slice fa fm fc, .slice oa om oc] 33)) (below_new _ (.cells #[.int .i64 2, .string t, .string t2, .slice da dm dc, .int .i64 n] 39))
  have hz2 : ((w.alloc (.cells #[.slice na nm nc, .slice fa fm fc, .slice oa om oc] 33)).alloc (.cells #[.int .i64 2, .string t, .string t2, .slice da dm dc, .int .i64 n] 39)).heap.size = w.heap.size + 2 := by simp
  have hr : BkAt (w.heap.size + 2) 33 #[.slice none 0 0, .slice none 0 0, .slice none 0 0] (((w.alloc (.cells #[.slice na nm nc, .slice fa fm fc, .slice oa om oc] 33)).alloc (.cells #[.int .i64 2, .string t, .string t2, .slice da dm dc, .int .i64 n] 39)).alloc (.cells #[.slice none 0 0, .slice none 0 0, .slice none 0 0] 33)) := hz2 ▸ BkAt.new _ _ _
  have hb2 := below_new ((w.alloc (.cells #[.slice na nm nc, .slice fa fm fc, .slice oa om oc] 33)).alloc (.cells #[.int .i64 2, .string t, .string t2, .slice da dm dc, .int .i64 n] 39)) (.cells #[.slice none 0 0, .slice none 0 0, .slice none 0 0] 33)
  obtain ⟨w1, hw1⟩ : ∃ w1, ((w.alloc (.cells #[.slice na nm nc, .slice fa fm fc, .slice oa om oc] 33)).alloc (.cells #[.int .i64 2, .string t, .string t2, .slice da dm dc, .int .i64 n] 39)).alloc (.cells #[.slice none 0 0, .slice none 0 0, .slice none 0 0] 33) = w1 := ⟨_, rfl⟩
  have hf1 := hf.below hb2
  have hc1 := hc.below hb2
  have hb1 := bl_trans' hb hb2
  rw [hw1] at hr hf1 hc1 hb1
  have hhn := fun W => hasNames_yes 2 t t2 (.slice da dm dc) n W hnm
  have hed := fun W (hW : Below w.heap.size w W) => edit_any (h.below hW)
  have HC := Lib.hid (show ∀ W, BkAt (w.heap.size + 1) 39 #[.int .i64 2, .string t, .string t2, .slice da dm dc, .int .i64 n] W → W.cell? ⟨w.heap.size + 1, 0, none⟩ = some (.int .i64 2) ∧ W.cell? ⟨w.heap.size + 1, 1, none⟩ = some (.string t) ∧ W.cell? ⟨w.heap.size + 1, 2, none⟩ = some (.string t2) ∧ W.cell? ⟨w.heap.size + 1, 3, none⟩ = some (.slice da dm dc) ∧ W.cell? ⟨w.heap.size + 1, 4, none⟩ = some (.int .i64 n) from fun W hW => ⟨hW.cell 0, hW.cell 1, hW.cell 2, hW.cell 3, hW.cell 4⟩)
  have HF := Lib.hid (show ∀ W, BkAt w.heap.size 33 #[.slice na nm nc, .slice fa fm fc, .slice oa om oc] W → W.cell? ⟨w.heap.size, 0, none⟩ = some (.slice na nm nc) ∧ W.cell? ⟨w.heap.size, 1, none⟩ = some (.slice fa fm fc) ∧ W.cell? ⟨w.heap.size, 2, none⟩ = some (.slice oa om oc) from fun W hW => ⟨hW.cell 0, hW.cell 1, hW.cell 2⟩)
  have H := Lib.hid (And.intro hf1 (And.intro hc1 (And.intro hr hb1)))
  have HH := Lib.hid (And.intro hhn (And.intro hed (And.intro hM (And.intro hR hU))))
  have HW := Lib.hid hw1
  clear hf hc hb hr hb2 hf1 hc1 hb1 hhn hed hM hR hU hw1 h hz1 hz2 hnm
  go_enter Try.func15, Try.ntmps15
  go_upto_region 1 with (fail)
  rw [HW.out]
  obtain ⟨c0, c1, c2, c3, c4⟩ := HC.out w1 H.out.2.1
  go_wp2_with fail
  refine (HH.out.1 _).mono ?_
  rintro e w2 ⟨rfl, hk2⟩
  clear c0 c1 c2 c3 c4
  have hx2 := H.out.1.below hk2
  obtain ⟨f0, f1, f2⟩ := HF.out w2 hx2
  have B2 := Lib.hid (bl_trans' H.out.2.2.2 hk2)
  have C2 := Lib.hid (H.out.2.1.below hk2)
  have R2 := Lib.hid (H.out.2.2.1.below hk2)
  clear hk2 hx2
  go_wp2_with fail
  refine (HH.out.2.1 _ B2.out).mono ?_
  rintro e w3 ⟨d, nv3, fv3, rfl, hd3, hge3, hk3⟩
  clear f0 f1 f2
  have C3 := Lib.hid (C2.out.below hk3)
  have R3 := Lib.hid (R2.out.below hk3)
  have B3 := Lib.hid (bl_trans' B2.out hk3)
  have D3 := Lib.hid (And.intro hd3 (And.intro hge3 (And.intro hk3.size (And.intro C2.out.lt R2.out.lt))))
  clear hd3 hge3 hk3
  have hidx : ∀ W, (Instr.index 69 (.agg #[Value.nilFunc, .func (Fn.func 36) #[] #[], .func (Fn.func 37) #[] #[], .func (Fn.func 38) #[] #[], .func (Fn.func 39) #[] #[], .func (Fn.func 40) #[] #[], .func (Fn.func 41) #[] #[], .func (Fn.func 42) #[] #[], .func (Fn.func 43) #[] #[]]) (.int .i64 2)).run Try.prog W = .ok (.func (Fn.func 37) #[] #[]) W := fun _ => by kernel_rfl
  go_upto_region 6 with (fail)
  go_region_held3 (fun W => W.cell? ⟨w.heap.size + 1, 0, none⟩ = some (.int .i64 2) ∧ W.cell? ⟨w.heap.size + 1, 1, none⟩ = some (.string t) ∧ W.cell? ⟨w.heap.size + 1, 2, none⟩ = some (.string t2) ∧ W.cell? ⟨w.heap.size + 1, 3, none⟩ = some (.slice da dm dc) ∧ W.cell? ⟨w.heap.size + 1, 4, none⟩ = some (.int .i64 n)) (first | exact HC.out _ (show BkAt _ _ _ w3.drew from C3.out) | exact HC.out _ hc5 | exact HC.out _ hc4)
    (first
      | (go_at_call 24; refine (changes_any _).mono ?_; rintro e w4 ⟨rfl, hk4⟩; have hc4 := (show BkAt _ _ _ w3.drew from C3.out).below hk4; have hb4 := bl_trans' (Below.refl w3.heap.size w3).drew hk4)
      | ((first | go_at_call 37 | go_at_fn 37); go_loud (refine (HH.out.2.2.1 d w2.heap.size _ nv3 fv3 (D3.out.1.below hb4) (Nat.le_trans D3.out.2.2.1 hb4.size) (bl_trans' B3.out hb4)).mono ?_; rintro e w5 ⟨rfl, files2, nv5, fv5, ho5, hr5⟩; have hc5 := hc4.ch ho5.c (fun e => by have := (D3.out.1.below hb4).ge D3.out.2.1 _ e; have := D3.out.2.2.2.1; omega))))
  all_goals
    obtain ⟨nva, nvm, nvc, rfl⟩ := row_slice ho5.a.n
    obtain ⟨fva, fvm, fvc, rfl⟩ := row_slice ho5.a.f
    have R5 := Lib.hid (((show BkAt _ _ _ w3.drew from R3.out).below hk4).ch ho5.c (fun e => by have := (D3.out.1.below hb4).ge D3.out.2.1 _ e; have := D3.out.2.2.2.2; omega))
    have E5 := Lib.hid (And.intro (bl_trans' B3.out hb4) (And.intro (D3.out.1.below hb4) (And.intro ho5 hr5)))
    have HS := Lib.hid (HH.out.2.2.2.2 _ _ _ _ _ _ ho5.a hr5)
    clear hk4 hc4 hb4 hc5 ho5 hr5
    go_wp2_with fail
    refine (HS.out).mono ?_
    rintro e w6 ⟨rfl, files3, fv6, ho6, hr6R⟩
    obtain ⟨fva2, fvm2, fvc2, rfl⟩ := row_slice ho6.a.f
    have R6 := Lib.hid (R5.out.ch ho6.c (fun e => by have := E5.out.2.2.1.a.ge D3.out.2.1 _ e; have := D3.out.2.2.2.2; omega))
    have HE := Lib.hid (do_end2 (w := w) E5.out.1 E5.out.2.1 D3.out.2.1 B2.out.size E5.out.2.2.1 ho6 R6.out (by omega) HH.out.2.2.2.1 hr6R)
    obtain ⟨s0, s1, s2, -, -, -⟩ := ho6.a.cs
    obtain ⟨r0, r1, r2⟩ : w6.cell? ⟨w.heap.size + 1 + 1, 0, none⟩ = some (.slice none 0 0) ∧ w6.cell? ⟨w.heap.size + 1 + 1, 1, none⟩ = some (.slice none 0 0) ∧ w6.cell? ⟨w.heap.size + 1 + 1, 2, none⟩ = some (.slice none 0 0) := ⟨R6.out.cell 0, R6.out.cell 1, R6.out.cell 2⟩
    obtain ⟨q0, q1, q2⟩ : w6.frozen? ⟨w.heap.size + 1 + 1, 0, none⟩ = false ∧ w6.frozen? ⟨w.heap.size + 1 + 1, 1, none⟩ = false ∧ w6.frozen? ⟨w.heap.size + 1 + 1, 2, none⟩ = false := ⟨R6.out.free 0, R6.out.free 1, R6.out.free 2⟩
    have hne : d ≠ w.heap.size + 1 + 1 := by have := D3.out.2.1; have := D3.out.2.2.2.2; omega
    clear ho6 hr6R
    go_wp2
    exact bodyPost_ret (v := .tuple #[.agg #[.slice nva nvm nvc, .slice fva2 fvm2 fvc2, .slice oa om oc], .int .i64 0]) (by simp [results, Try.results15, go_sem, r0, r1, r2, q0, q1, q2]) rfl HE.out
set_option maxRecDepth 100000 in
set_option linter.unusedSimpArgs false in
set_option maxHeartbeats 8000000 in
theorem doS_rename (t t2 : ByteArray) (dv : Value) (n : Int) (names2 : List NameV) (R R2 : List FileV → World → Prop) (h : FsAt names files opn nv fv ov w) (hnm : NamesOk 4 t t2) (hdv : ∃ a m c, dv = .slice a m c)
    (hR : ∀ fs W W', R2 fs W → (∀ v l, DtR W v l → DtR W' v l) → R2 fs W')
    (hU : ∀ d base W nv' fv' fs, DirAt d base names2 fs opn nv' fv' ov W → R fs W → Calls Try.prog 25 #[.pointer (some ⟨d, 0, none⟩)] W (SwOut d base names2 opn ov R2 nv' fv' W))
    (hM : ∀ d base W nv' fv', DirAt d base names files opn nv' fv' ov W → base ≤ W.heap.size → Below w.heap.size w W → Calls Try.prog 39 #[.pointer (some ⟨d, 0, none⟩), .agg #[.int .i64 4, .string t, .string t2, dv, .int .i64 n]] W (MetOut base names2 opn ov R d nv' fv' W)) :
    Calls Try.prog 15 #[.agg #[nv, fv, ov], .agg #[.int .i64 4, .string t, .string t2, dv, .int .i64 n]] w (DoOut names2 opn ov R2 w) := by
  obtain ⟨da, dm, dc, rfl⟩ := hdv
  obtain ⟨na, nm, nc, rfl⟩ := row_slice h.n
  obtain ⟨fa, fm, fc, rfl⟩ := row_slice h.f
  obtain ⟨oa, om, oc, rfl⟩ := row_slice h.o
  have hz1 : (w.alloc (.cells #[.slice na nm nc, .slice fa fm fc, .slice oa om oc] 33)).heap.size = w.heap.size + 1 := by simp
  have hf : BkAt w.heap.size 33 #[.slice na nm nc, .slice fa fm fc, .slice oa om oc] ((w.alloc (.cells #[.slice na nm nc, .slice fa fm fc, .slice oa om oc] 33)).alloc (.cells #[.int .i64 4, .string t, .string t2, .slice da dm dc, .int .i64 n] 39)) := (BkAt.new _ _ w).below (below_new _ _)
  have hc : BkAt (w.heap.size + 1) 39 #[.int .i64 4, .string t, .string t2, .slice da dm dc, .int .i64 n] ((w.alloc (.cells #[.slice na nm nc, .slice fa fm fc, .slice oa om oc] 33)).alloc (.cells #[.int .i64 4, .string t, .string t2, .slice da dm dc, .int .i64 n] 39)) := hz1 ▸ BkAt.new _ _ _
  have hb := bl_trans' (below_new w (.cells #[.slice na nm nc, .slice fa fm fc, .slice oa om oc] 33)) (below_new _ (.cells #[.int .i64 4, .string t, .string t2, .slice da dm dc, .int .i64 n] 39))
  have hz2 : ((w.alloc (.cells #[.slice na nm nc, .slice fa fm fc, .slice oa om oc] 33)).alloc (.cells #[.int .i64 4, .string t, .string t2, .slice da dm dc, .int .i64 n] 39)).heap.size = w.heap.size + 2 := by simp
  have hr : BkAt (w.heap.size + 2) 33 #[.slice none 0 0, .slice none 0 0, .slice none 0 0] (((w.alloc (.cells #[.slice na nm nc, .slice fa fm fc, .slice oa om oc] 33)).alloc (.cells #[.int .i64 4, .string t, .string t2, .slice da dm dc, .int .i64 n] 39)).alloc (.cells #[.slice none 0 0, .slice none 0 0, .slice none 0 0] 33)) := hz2 ▸ BkAt.new _ _ _
  have hb2 := below_new ((w.alloc (.cells #[.slice na nm nc, .slice fa fm fc, .slice oa om oc] 33)).alloc (.cells #[.int .i64 4, .string t, .string t2, .slice da dm dc, .int .i64 n] 39)) (.cells #[.slice none 0 0, .slice none 0 0, .slice none 0 0] 33)
  obtain ⟨w1, hw1⟩ : ∃ w1, ((w.alloc (.cells #[.slice na nm nc, .slice fa fm fc, .slice oa om oc] 33)).alloc (.cells #[.int .i64 4, .string t, .string t2, .slice da dm dc, .int .i64 n] 39)).alloc (.cells #[.slice none 0 0, .slice none 0 0, .slice none 0 0] 33) = w1 := ⟨_, rfl⟩
  have hf1 := hf.below hb2
  have hc1 := hc.below hb2
  have hb1 := bl_trans' hb hb2
  rw [hw1] at hr hf1 hc1 hb1
  have hhn := fun W => hasNames_yes 4 t t2 (.slice da dm dc) n W hnm
  have hed := fun W (hW : Below w.heap.size w W) => edit_any (h.below hW)
  have HC := Lib.hid (show ∀ W, BkAt (w.heap.size + 1) 39 #[.int .i64 4, .string t, .string t2, .slice da dm dc, .int .i64 n] W → W.cell? ⟨w.heap.size + 1, 0, none⟩ = some (.int .i64 4) ∧ W.cell? ⟨w.heap.size + 1, 1, none⟩ = some (.string t) ∧ W.cell? ⟨w.heap.size + 1, 2, none⟩ = some (.string t2) ∧ W.cell? ⟨w.heap.size + 1, 3, none⟩ = some (.slice da dm dc) ∧ W.cell? ⟨w.heap.size + 1, 4, none⟩ = some (.int .i64 n) from fun W hW => ⟨hW.cell 0, hW.cell 1, hW.cell 2, hW.cell 3, hW.cell 4⟩)
  have HF := Lib.hid (show ∀ W, BkAt w.heap.size 33 #[.slice na nm nc, .slice fa fm fc, .slice oa om oc] W → W.cell? ⟨w.heap.size, 0, none⟩ = some (.slice na nm nc) ∧ W.cell? ⟨w.heap.size, 1, none⟩ = some (.slice fa fm fc) ∧ W.cell? ⟨w.heap.size, 2, none⟩ = some (.slice oa om oc) from fun W hW => ⟨hW.cell 0, hW.cell 1, hW.cell 2⟩)
  have H := Lib.hid (And.intro hf1 (And.intro hc1 (And.intro hr hb1)))
  have HH := Lib.hid (And.intro hhn (And.intro hed (And.intro hM (And.intro hR hU))))
  have HW := Lib.hid hw1
  clear hf hc hb hr hb2 hf1 hc1 hb1 hhn hed hM hR hU hw1 h hz1 hz2 hnm
  go_enter Try.func15, Try.ntmps15
  go_upto_region 1 with (fail)
  rw [HW.out]
  obtain ⟨c0, c1, c2, c3, c4⟩ := HC.out w1 H.out.2.1
  go_wp2_with fail
  refine (HH.out.1 _).mono ?_
  rintro e w2 ⟨rfl, hk2⟩
  clear c0 c1 c2 c3 c4
  have hx2 := H.out.1.below hk2
  obtain ⟨f0, f1, f2⟩ := HF.out w2 hx2
  have B2 := Lib.hid (bl_trans' H.out.2.2.2 hk2)
  have C2 := Lib.hid (H.out.2.1.below hk2)
  have R2 := Lib.hid (H.out.2.2.1.below hk2)
  clear hk2 hx2
  go_wp2_with fail
  refine (HH.out.2.1 _ B2.out).mono ?_
  rintro e w3 ⟨d, nv3, fv3, rfl, hd3, hge3, hk3⟩
  clear f0 f1 f2
  have C3 := Lib.hid (C2.out.below hk3)
  have R3 := Lib.hid (R2.out.below hk3)
  have B3 := Lib.hid (bl_trans' B2.out hk3)
  have D3 := Lib.hid (And.intro hd3 (And.intro hge3 (And.intro hk3.size (And.intro C2.out.lt R2.out.lt))))
  clear hd3 hge3 hk3
  have hidx : ∀ W, (Instr.index 69 (.agg #[Value.nilFunc, .func (Fn.func 36) #[] #[], .func (Fn.func 37) #[] #[], .func (Fn.func 38) #[] #[], .func (Fn.func 39) #[] #[], .func (Fn.func 40) #[] #[], .func (Fn.func 41) #[] #[], .func (Fn.func 42) #[] #[], .func (Fn.func 43) #[] #[]]) (.int .i64 4)).run Try.prog W = .ok (.func (Fn.func 39) #[] #[]) W := fun _ => by kernel_rfl
  go_upto_region 6 with (fail)
  go_region_held3 (fun W => W.cell? ⟨w.heap.size + 1, 0, none⟩ = some (.int .i64 4) ∧ W.cell? ⟨w.heap.size + 1, 1, none⟩ = some (.string t) ∧ W.cell? ⟨w.heap.size + 1, 2, none⟩ = some (.string t2) ∧ W.cell? ⟨w.heap.size + 1, 3, none⟩ = some (.slice da dm dc) ∧ W.cell? ⟨w.heap.size + 1, 4, none⟩ = some (.int .i64 n)) (first | exact HC.out _ (show BkAt _ _ _ w3.drew from C3.out) | exact HC.out _ hc5 | exact HC.out _ hc4)
    (first
      | (go_at_call 24; refine (changes_any _).mono ?_; rintro e w4 ⟨rfl, hk4⟩; have hc4 := (show BkAt _ _ _ w3.drew from C3.out).below hk4; have hb4 := bl_trans' (Below.refl w3.heap.size w3).drew hk4)
      | ((first | go_at_call 39 | go_at_fn 39); go_loud (refine (HH.out.2.2.1 d w2.heap.size _ nv3 fv3 (D3.out.1.below hb4) (Nat.le_trans D3.out.2.2.1 hb4.size) (bl_trans' B3.out hb4)).mono ?_; rintro e w5 ⟨rfl, files2, nv5, fv5, ho5, hr5⟩; have hc5 := hc4.ch ho5.c (fun e => by have := (D3.out.1.below hb4).ge D3.out.2.1 _ e; have := D3.out.2.2.2.1; omega))))
  all_goals
    obtain ⟨nva, nvm, nvc, rfl⟩ := row_slice ho5.a.n
    obtain ⟨fva, fvm, fvc, rfl⟩ := row_slice ho5.a.f
    have R5 := Lib.hid (((show BkAt _ _ _ w3.drew from R3.out).below hk4).ch ho5.c (fun e => by have := (D3.out.1.below hb4).ge D3.out.2.1 _ e; have := D3.out.2.2.2.2; omega))
    have E5 := Lib.hid (And.intro (bl_trans' B3.out hb4) (And.intro (D3.out.1.below hb4) (And.intro ho5 hr5)))
    have HS := Lib.hid (HH.out.2.2.2.2 _ _ _ _ _ _ ho5.a hr5)
    clear hk4 hc4 hb4 hc5 ho5 hr5
    go_wp2_with fail
    refine (HS.out).mono ?_
    rintro e w6 ⟨rfl, files3, fv6, ho6, hr6R⟩
    obtain ⟨fva2, fvm2, fvc2, rfl⟩ := row_slice ho6.a.f
    have R6 := Lib.hid (R5.out.ch ho6.c (fun e => by have := E5.out.2.2.1.a.ge D3.out.2.1 _ e; have := D3.out.2.2.2.2; omega))
    have HE := Lib.hid (do_end2 (w := w) E5.out.1 E5.out.2.1 D3.out.2.1 B2.out.size E5.out.2.2.1 ho6 R6.out (by omega) HH.out.2.2.2.1 hr6R)
    obtain ⟨s0, s1, s2, -, -, -⟩ := ho6.a.cs
    obtain ⟨r0, r1, r2⟩ : w6.cell? ⟨w.heap.size + 1 + 1, 0, none⟩ = some (.slice none 0 0) ∧ w6.cell? ⟨w.heap.size + 1 + 1, 1, none⟩ = some (.slice none 0 0) ∧ w6.cell? ⟨w.heap.size + 1 + 1, 2, none⟩ = some (.slice none 0 0) := ⟨R6.out.cell 0, R6.out.cell 1, R6.out.cell 2⟩
    obtain ⟨q0, q1, q2⟩ : w6.frozen? ⟨w.heap.size + 1 + 1, 0, none⟩ = false ∧ w6.frozen? ⟨w.heap.size + 1 + 1, 1, none⟩ = false ∧ w6.frozen? ⟨w.heap.size + 1 + 1, 2, none⟩ = false := ⟨R6.out.free 0, R6.out.free 1, R6.out.free 2⟩
    have hne : d ≠ w.heap.size + 1 + 1 := by have := D3.out.2.1; have := D3.out.2.2.2.2; omega
    clear ho6 hr6R
    go_wp2
    exact bodyPost_ret (v := .tuple #[.agg #[.slice nva nvm nvc, .slice fva2 fvm2 fvc2, .slice oa om oc], .int .i64 0]) (by simp [results, Try.results15, go_sem, r0, r1, r2, q0, q1, q2]) rfl HE.out
set_option maxRecDepth 100000 in
set_option linter.unusedSimpArgs false in
set_option maxHeartbeats 8000000 in
theorem doS_remove (t t2 : ByteArray) (dv : Value) (n : Int) (names2 : List NameV) (R R2 : List FileV → World → Prop) (h : FsAt names files opn nv fv ov w) (hnm : NamesOk 7 t t2) (hdv : ∃ a m c, dv = .slice a m c)
    (hR : ∀ fs W W', R2 fs W → (∀ v l, DtR W v l → DtR W' v l) → R2 fs W')
    (hU : ∀ d base W nv' fv' fs, DirAt d base names2 fs opn nv' fv' ov W → R fs W → Calls Try.prog 25 #[.pointer (some ⟨d, 0, none⟩)] W (SwOut d base names2 opn ov R2 nv' fv' W))
    (hM : ∀ d base W nv' fv', DirAt d base names files opn nv' fv' ov W → base ≤ W.heap.size → Below w.heap.size w W → Calls Try.prog 42 #[.pointer (some ⟨d, 0, none⟩), .agg #[.int .i64 7, .string t, .string t2, dv, .int .i64 n]] W (MetOut base names2 opn ov R d nv' fv' W)) :
    Calls Try.prog 15 #[.agg #[nv, fv, ov], .agg #[.int .i64 7, .string t, .string t2, dv, .int .i64 n]] w (DoOut names2 opn ov R2 w) := by
  obtain ⟨da, dm, dc, rfl⟩ := hdv
  obtain ⟨na, nm, nc, rfl⟩ := row_slice h.n
  obtain ⟨fa, fm, fc, rfl⟩ := row_slice h.f
  obtain ⟨oa, om, oc, rfl⟩ := row_slice h.o
  have hz1 : (w.alloc (.cells #[.slice na nm nc, .slice fa fm fc, .slice oa om oc] 33)).heap.size = w.heap.size + 1 := by simp
  have hf : BkAt w.heap.size 33 #[.slice na nm nc, .slice fa fm fc, .slice oa om oc] ((w.alloc (.cells #[.slice na nm nc, .slice fa fm fc, .slice oa om oc] 33)).alloc (.cells #[.int .i64 7, .string t, .string t2, .slice da dm dc, .int .i64 n] 39)) := (BkAt.new _ _ w).below (below_new _ _)
  have hc : BkAt (w.heap.size + 1) 39 #[.int .i64 7, .string t, .string t2, .slice da dm dc, .int .i64 n] ((w.alloc (.cells #[.slice na nm nc, .slice fa fm fc, .slice oa om oc] 33)).alloc (.cells #[.int .i64 7, .string t, .string t2, .slice da dm dc, .int .i64 n] 39)) := hz1 ▸ BkAt.new _ _ _
  have hb := bl_trans' (below_new w (.cells #[.slice na nm nc, .slice fa fm fc, .slice oa om oc] 33)) (below_new _ (.cells #[.int .i64 7, .string t, .string t2, .slice da dm dc, .int .i64 n] 39))
  have hz2 : ((w.alloc (.cells #[.slice na nm nc, .slice fa fm fc, .slice oa om oc] 33)).alloc (.cells #[.int .i64 7, .string t, .string t2, .slice da dm dc, .int .i64 n] 39)).heap.size = w.heap.size + 2 := by simp
  have hr : BkAt (w.heap.size + 2) 33 #[.slice none 0 0, .slice none 0 0, .slice none 0 0] (((w.alloc (.cells #[.slice na nm nc, .slice fa fm fc, .slice oa om oc] 33)).alloc (.cells #[.int .i64 7, .string t, .string t2, .slice da dm dc, .int .i64 n] 39)).alloc (.cells #[.slice none 0 0, .slice none 0 0, .slice none 0 0] 33)) := hz2 ▸ BkAt.new _ _ _
  have hb2 := below_new ((w.alloc (.cells #[.slice na nm nc, .slice fa fm fc, .slice oa om oc] 33)).alloc (.cells #[.int .i64 7, .string t, .string t2, .slice da dm dc, .int .i64 n] 39)) (.cells #[.slice none 0 0, .slice none 0 0, .slice none 0 0] 33)
  obtain ⟨w1, hw1⟩ : ∃ w1, ((w.alloc (.cells #[.slice na nm nc, .slice fa fm fc, .slice oa om oc] 33)).alloc (.cells #[.int .i64 7, .string t, .string t2, .slice da dm dc, .int .i64 n] 39)).alloc (.cells #[.slice none 0 0, .slice none 0 0, .slice none 0 0] 33) = w1 := ⟨_, rfl⟩
  have hf1 := hf.below hb2
  have hc1 := hc.below hb2
  have hb1 := bl_trans' hb hb2
  rw [hw1] at hr hf1 hc1 hb1
  have hhn := fun W => hasNames_yes 7 t t2 (.slice da dm dc) n W hnm
  have hed := fun W (hW : Below w.heap.size w W) => edit_any (h.below hW)
  have HC := Lib.hid (show ∀ W, BkAt (w.heap.size + 1) 39 #[.int .i64 7, .string t, .string t2, .slice da dm dc, .int .i64 n] W → W.cell? ⟨w.heap.size + 1, 0, none⟩ = some (.int .i64 7) ∧ W.cell? ⟨w.heap.size + 1, 1, none⟩ = some (.string t) ∧ W.cell? ⟨w.heap.size + 1, 2, none⟩ = some (.string t2) ∧ W.cell? ⟨w.heap.size + 1, 3, none⟩ = some (.slice da dm dc) ∧ W.cell? ⟨w.heap.size + 1, 4, none⟩ = some (.int .i64 n) from fun W hW => ⟨hW.cell 0, hW.cell 1, hW.cell 2, hW.cell 3, hW.cell 4⟩)
  have HF := Lib.hid (show ∀ W, BkAt w.heap.size 33 #[.slice na nm nc, .slice fa fm fc, .slice oa om oc] W → W.cell? ⟨w.heap.size, 0, none⟩ = some (.slice na nm nc) ∧ W.cell? ⟨w.heap.size, 1, none⟩ = some (.slice fa fm fc) ∧ W.cell? ⟨w.heap.size, 2, none⟩ = some (.slice oa om oc) from fun W hW => ⟨hW.cell 0, hW.cell 1, hW.cell 2⟩)
  have H := Lib.hid (And.intro hf1 (And.intro hc1 (And.intro hr hb1)))
  have HH := Lib.hid (And.intro hhn (And.intro hed (And.intro hM (And.intro hR hU))))
  have HW := Lib.hid hw1
  clear hf hc hb hr hb2 hf1 hc1 hb1 hhn hed hM hR hU hw1 h hz1 hz2 hnm
  go_enter Try.func15, Try.ntmps15
  go_upto_region 1 with (fail)
  rw [HW.out]
  obtain ⟨c0, c1, c2, c3, c4⟩ := HC.out w1 H.out.2.1
  go_wp2_with fail
  refine (HH.out.1 _).mono ?_
  rintro e w2 ⟨rfl, hk2⟩
  clear c0 c1 c2 c3 c4
  have hx2 := H.out.1.below hk2
  obtain ⟨f0, f1, f2⟩ := HF.out w2 hx2
  have B2 := Lib.hid (bl_trans' H.out.2.2.2 hk2)
  have C2 := Lib.hid (H.out.2.1.below hk2)
  have R2 := Lib.hid (H.out.2.2.1.below hk2)
  clear hk2 hx2
  go_wp2_with fail
  refine (HH.out.2.1 _ B2.out).mono ?_
  rintro e w3 ⟨d, nv3, fv3, rfl, hd3, hge3, hk3⟩
  clear f0 f1 f2
  have C3 := Lib.hid (C2.out.below hk3)
  have R3 := Lib.hid (R2.out.below hk3)
  have B3 := Lib.hid (bl_trans' B2.out hk3)
  have D3 := Lib.hid (And.intro hd3 (And.intro hge3 (And.intro hk3.size (And.intro C2.out.lt R2.out.lt))))
  clear hd3 hge3 hk3
  have hidx : ∀ W, (Instr.index 69 (.agg #[Value.nilFunc, .func (Fn.func 36) #[] #[], .func (Fn.func 37) #[] #[], .func (Fn.func 38) #[] #[], .func (Fn.func 39) #[] #[], .func (Fn.func 40) #[] #[], .func (Fn.func 41) #[] #[], .func (Fn.func 42) #[] #[], .func (Fn.func 43) #[] #[]]) (.int .i64 7)).run Try.prog W = .ok (.func (Fn.func 42) #[] #[]) W := fun _ => by kernel_rfl
  go_upto_region 6 with (fail)
  go_region_held3 (fun W => W.cell? ⟨w.heap.size + 1, 0, none⟩ = some (.int .i64 7) ∧ W.cell? ⟨w.heap.size + 1, 1, none⟩ = some (.string t) ∧ W.cell? ⟨w.heap.size + 1, 2, none⟩ = some (.string t2) ∧ W.cell? ⟨w.heap.size + 1, 3, none⟩ = some (.slice da dm dc) ∧ W.cell? ⟨w.heap.size + 1, 4, none⟩ = some (.int .i64 n)) (first | exact HC.out _ (show BkAt _ _ _ w3.drew from C3.out) | exact HC.out _ hc5 | exact HC.out _ hc4)
    (first
      | (go_at_call 24; refine (changes_any _).mono ?_; rintro e w4 ⟨rfl, hk4⟩; have hc4 := (show BkAt _ _ _ w3.drew from C3.out).below hk4; have hb4 := bl_trans' (Below.refl w3.heap.size w3).drew hk4)
      | ((first | go_at_call 42 | go_at_fn 42); go_loud (refine (HH.out.2.2.1 d w2.heap.size _ nv3 fv3 (D3.out.1.below hb4) (Nat.le_trans D3.out.2.2.1 hb4.size) (bl_trans' B3.out hb4)).mono ?_; rintro e w5 ⟨rfl, files2, nv5, fv5, ho5, hr5⟩; have hc5 := hc4.ch ho5.c (fun e => by have := (D3.out.1.below hb4).ge D3.out.2.1 _ e; have := D3.out.2.2.2.1; omega))))
  all_goals
    obtain ⟨nva, nvm, nvc, rfl⟩ := row_slice ho5.a.n
    obtain ⟨fva, fvm, fvc, rfl⟩ := row_slice ho5.a.f
    have R5 := Lib.hid (((show BkAt _ _ _ w3.drew from R3.out).below hk4).ch ho5.c (fun e => by have := (D3.out.1.below hb4).ge D3.out.2.1 _ e; have := D3.out.2.2.2.2; omega))
    have E5 := Lib.hid (And.intro (bl_trans' B3.out hb4) (And.intro (D3.out.1.below hb4) (And.intro ho5 hr5)))
    have HS := Lib.hid (HH.out.2.2.2.2 _ _ _ _ _ _ ho5.a hr5)
    clear hk4 hc4 hb4 hc5 ho5 hr5
    go_wp2_with fail
    refine (HS.out).mono ?_
    rintro e w6 ⟨rfl, files3, fv6, ho6, hr6R⟩
    obtain ⟨fva2, fvm2, fvc2, rfl⟩ := row_slice ho6.a.f
    have R6 := Lib.hid (R5.out.ch ho6.c (fun e => by have := E5.out.2.2.1.a.ge D3.out.2.1 _ e; have := D3.out.2.2.2.2; omega))
    have HE := Lib.hid (do_end2 (w := w) E5.out.1 E5.out.2.1 D3.out.2.1 B2.out.size E5.out.2.2.1 ho6 R6.out (by omega) HH.out.2.2.2.1 hr6R)
    obtain ⟨s0, s1, s2, -, -, -⟩ := ho6.a.cs
    obtain ⟨r0, r1, r2⟩ : w6.cell? ⟨w.heap.size + 1 + 1, 0, none⟩ = some (.slice none 0 0) ∧ w6.cell? ⟨w.heap.size + 1 + 1, 1, none⟩ = some (.slice none 0 0) ∧ w6.cell? ⟨w.heap.size + 1 + 1, 2, none⟩ = some (.slice none 0 0) := ⟨R6.out.cell 0, R6.out.cell 1, R6.out.cell 2⟩
    obtain ⟨q0, q1, q2⟩ : w6.frozen? ⟨w.heap.size + 1 + 1, 0, none⟩ = false ∧ w6.frozen? ⟨w.heap.size + 1 + 1, 1, none⟩ = false ∧ w6.frozen? ⟨w.heap.size + 1 + 1, 2, none⟩ = false := ⟨R6.out.free 0, R6.out.free 1, R6.out.free 2⟩
    have hne : d ≠ w.heap.size + 1 + 1 := by have := D3.out.2.1; have := D3.out.2.2.2.2; omega
    clear ho6 hr6R
    go_wp2
    exact bodyPost_ret (v := .tuple #[.agg #[.slice nva nvm nvc, .slice fva2 fvm2 fvc2, .slice oa om oc], .int .i64 0]) (by simp [results, Try.results15, go_sem, r0, r1, r2, q0, q1, q2]) rfl HE.out
set_option maxRecDepth 100000 in
set_option linter.unusedSimpArgs false in
set_option maxHeartbeats 8000000 in
theorem doS_replace (t t2 : ByteArray) (dv : Value) (n : Int) (names2 : List NameV) (R R2 : List FileV → World → Prop) (h : FsAt names files opn nv fv ov w) (hnm : NamesOk 8 t t2) (hdv : ∃ a m c, dv = .slice a m c)
    (hR : ∀ fs W W', R2 fs W → (∀ v l, DtR W v l → DtR W' v l) → R2 fs W')
    (hU : ∀ d base W nv' fv' fs, DirAt d base names2 fs opn nv' fv' ov W → R fs W → Calls Try.prog 25 #[.pointer (some ⟨d, 0, none⟩)] W (SwOut d base names2 opn ov R2 nv' fv' W))
    (hM : ∀ d base W nv' fv', DirAt d base names files opn nv' fv' ov W → base ≤ W.heap.size → Below w.heap.size w W → Calls Try.prog 43 #[.pointer (some ⟨d, 0, none⟩), .agg #[.int .i64 8, .string t, .string t2, dv, .int .i64 n]] W (MetOut base names2 opn ov R d nv' fv' W)) :
    Calls Try.prog 15 #[.agg #[nv, fv, ov], .agg #[.int .i64 8, .string t, .string t2, dv, .int .i64 n]] w (DoOut names2 opn ov R2 w) := by
  obtain ⟨da, dm, dc, rfl⟩ := hdv
  obtain ⟨na, nm, nc, rfl⟩ := row_slice h.n
  obtain ⟨fa, fm, fc, rfl⟩ := row_slice h.f
  obtain ⟨oa, om, oc, rfl⟩ := row_slice h.o
  have hz1 : (w.alloc (.cells #[.slice na nm nc, .slice fa fm fc, .slice oa om oc] 33)).heap.size = w.heap.size + 1 := by simp
  have hf : BkAt w.heap.size 33 #[.slice na nm nc, .slice fa fm fc, .slice oa om oc] ((w.alloc (.cells #[.slice na nm nc, .slice fa fm fc, .slice oa om oc] 33)).alloc (.cells #[.int .i64 8, .string t, .string t2, .slice da dm dc, .int .i64 n] 39)) := (BkAt.new _ _ w).below (below_new _ _)
  have hc : BkAt (w.heap.size + 1) 39 #[.int .i64 8, .string t, .string t2, .slice da dm dc, .int .i64 n] ((w.alloc (.cells #[.slice na nm nc, .slice fa fm fc, .slice oa om oc] 33)).alloc (.cells #[.int .i64 8, .string t, .string t2, .slice da dm dc, .int .i64 n] 39)) := hz1 ▸ BkAt.new _ _ _
  have hb := bl_trans' (below_new w (.cells #[.slice na nm nc, .slice fa fm fc, .slice oa om oc] 33)) (below_new _ (.cells #[.int .i64 8, .string t, .string t2, .slice da dm dc, .int .i64 n] 39))
  have hz2 : ((w.alloc (.cells #[.slice na nm nc, .slice fa fm fc, .slice oa om oc] 33)).alloc (.cells #[.int .i64 8, .string t, .string t2, .slice da dm dc, .int .i64 n] 39)).heap.size = w.heap.size + 2 := by simp
  have hr : BkAt (w.heap.size + 2) 33 #[.slice none 0 0, .slice none 0 0, .slice none 0 0] (((w.alloc (.cells #[.slice na nm nc, .slice fa fm fc, .slice oa om oc] 33)).alloc (.cells #[.int .i64 8, .string t, .string t2, .slice da dm dc, .int .i64 n] 39)).alloc (.cells #[.slice none 0 0, .slice none 0 0, .slice none 0 0] 33)) := hz2 ▸ BkAt.new _ _ _
  have hb2 := below_new ((w.alloc (.cells #[.slice na nm nc, .slice fa fm fc, .slice oa om oc] 33)).alloc (.cells #[.int .i64 8, .string t, .string t2, .slice da dm dc, .int .i64 n] 39)) (.cells #[.slice none 0 0, .slice none 0 0, .slice none 0 0] 33)
  obtain ⟨w1, hw1⟩ : ∃ w1, ((w.alloc (.cells #[.slice na nm nc, .slice fa fm fc, .slice oa om oc] 33)).alloc (.cells #[.int .i64 8, .string t, .string t2, .slice da dm dc, .int .i64 n] 39)).alloc (.cells #[.slice none 0 0, .slice none 0 0, .slice none 0 0] 33) = w1 := ⟨_, rfl⟩
  have hf1 := hf.below hb2
  have hc1 := hc.below hb2
  have hb1 := bl_trans' hb hb2
  rw [hw1] at hr hf1 hc1 hb1
  have hhn := fun W => hasNames_yes 8 t t2 (.slice da dm dc) n W hnm
  have hed := fun W (hW : Below w.heap.size w W) => edit_any (h.below hW)
  have HC := Lib.hid (show ∀ W, BkAt (w.heap.size + 1) 39 #[.int .i64 8, .string t, .string t2, .slice da dm dc, .int .i64 n] W → W.cell? ⟨w.heap.size + 1, 0, none⟩ = some (.int .i64 8) ∧ W.cell? ⟨w.heap.size + 1, 1, none⟩ = some (.string t) ∧ W.cell? ⟨w.heap.size + 1, 2, none⟩ = some (.string t2) ∧ W.cell? ⟨w.heap.size + 1, 3, none⟩ = some (.slice da dm dc) ∧ W.cell? ⟨w.heap.size + 1, 4, none⟩ = some (.int .i64 n) from fun W hW => ⟨hW.cell 0, hW.cell 1, hW.cell 2, hW.cell 3, hW.cell 4⟩)
  have HF := Lib.hid (show ∀ W, BkAt w.heap.size 33 #[.slice na nm nc, .slice fa fm fc, .slice oa om oc] W → W.cell? ⟨w.heap.size, 0, none⟩ = some (.slice na nm nc) ∧ W.cell? ⟨w.heap.size, 1, none⟩ = some (.slice fa fm fc) ∧ W.cell? ⟨w.heap.size, 2, none⟩ = some (.slice oa om oc) from fun W hW => ⟨hW.cell 0, hW.cell 1, hW.cell 2⟩)
  have H := Lib.hid (And.intro hf1 (And.intro hc1 (And.intro hr hb1)))
  have HH := Lib.hid (And.intro hhn (And.intro hed (And.intro hM (And.intro hR hU))))
  have HW := Lib.hid hw1
  clear hf hc hb hr hb2 hf1 hc1 hb1 hhn hed hM hR hU hw1 h hz1 hz2 hnm
  go_enter Try.func15, Try.ntmps15
  go_upto_region 1 with (fail)
  rw [HW.out]
  obtain ⟨c0, c1, c2, c3, c4⟩ := HC.out w1 H.out.2.1
  go_wp2_with fail
  refine (HH.out.1 _).mono ?_
  rintro e w2 ⟨rfl, hk2⟩
  clear c0 c1 c2 c3 c4
  have hx2 := H.out.1.below hk2
  obtain ⟨f0, f1, f2⟩ := HF.out w2 hx2
  have B2 := Lib.hid (bl_trans' H.out.2.2.2 hk2)
  have C2 := Lib.hid (H.out.2.1.below hk2)
  have R2 := Lib.hid (H.out.2.2.1.below hk2)
  clear hk2 hx2
  go_wp2_with fail
  refine (HH.out.2.1 _ B2.out).mono ?_
  rintro e w3 ⟨d, nv3, fv3, rfl, hd3, hge3, hk3⟩
  clear f0 f1 f2
  have C3 := Lib.hid (C2.out.below hk3)
  have R3 := Lib.hid (R2.out.below hk3)
  have B3 := Lib.hid (bl_trans' B2.out hk3)
  have D3 := Lib.hid (And.intro hd3 (And.intro hge3 (And.intro hk3.size (And.intro C2.out.lt R2.out.lt))))
  clear hd3 hge3 hk3
  have hidx : ∀ W, (Instr.index 69 (.agg #[Value.nilFunc, .func (Fn.func 36) #[] #[], .func (Fn.func 37) #[] #[], .func (Fn.func 38) #[] #[], .func (Fn.func 39) #[] #[], .func (Fn.func 40) #[] #[], .func (Fn.func 41) #[] #[], .func (Fn.func 42) #[] #[], .func (Fn.func 43) #[] #[]]) (.int .i64 8)).run Try.prog W = .ok (.func (Fn.func 43) #[] #[]) W := fun _ => by kernel_rfl
  go_upto_region 6 with (fail)
  go_region_held3 (fun W => W.cell? ⟨w.heap.size + 1, 0, none⟩ = some (.int .i64 8) ∧ W.cell? ⟨w.heap.size + 1, 1, none⟩ = some (.string t) ∧ W.cell? ⟨w.heap.size + 1, 2, none⟩ = some (.string t2) ∧ W.cell? ⟨w.heap.size + 1, 3, none⟩ = some (.slice da dm dc) ∧ W.cell? ⟨w.heap.size + 1, 4, none⟩ = some (.int .i64 n)) (first | exact HC.out _ (show BkAt _ _ _ w3.drew from C3.out) | exact HC.out _ hc5 | exact HC.out _ hc4)
    (first
      | (go_at_call 24; refine (changes_any _).mono ?_; rintro e w4 ⟨rfl, hk4⟩; have hc4 := (show BkAt _ _ _ w3.drew from C3.out).below hk4; have hb4 := bl_trans' (Below.refl w3.heap.size w3).drew hk4)
      | ((first | go_at_call 43 | go_at_fn 43); go_loud (refine (HH.out.2.2.1 d w2.heap.size _ nv3 fv3 (D3.out.1.below hb4) (Nat.le_trans D3.out.2.2.1 hb4.size) (bl_trans' B3.out hb4)).mono ?_; rintro e w5 ⟨rfl, files2, nv5, fv5, ho5, hr5⟩; have hc5 := hc4.ch ho5.c (fun e => by have := (D3.out.1.below hb4).ge D3.out.2.1 _ e; have := D3.out.2.2.2.1; omega))))
  all_goals
    obtain ⟨nva, nvm, nvc, rfl⟩ := row_slice ho5.a.n
    obtain ⟨fva, fvm, fvc, rfl⟩ := row_slice ho5.a.f
    have R5 := Lib.hid (((show BkAt _ _ _ w3.drew from R3.out).below hk4).ch ho5.c (fun e => by have := (D3.out.1.below hb4).ge D3.out.2.1 _ e; have := D3.out.2.2.2.2; omega))
    have E5 := Lib.hid (And.intro (bl_trans' B3.out hb4) (And.intro (D3.out.1.below hb4) (And.intro ho5 hr5)))
    have HS := Lib.hid (HH.out.2.2.2.2 _ _ _ _ _ _ ho5.a hr5)
    clear hk4 hc4 hb4 hc5 ho5 hr5
    go_wp2_with fail
    refine (HS.out).mono ?_
    rintro e w6 ⟨rfl, files3, fv6, ho6, hr6R⟩
    obtain ⟨fva2, fvm2, fvc2, rfl⟩ := row_slice ho6.a.f
    have R6 := Lib.hid (R5.out.ch ho6.c (fun e => by have := E5.out.2.2.1.a.ge D3.out.2.1 _ e; have := D3.out.2.2.2.2; omega))
    have HE := Lib.hid (do_end2 (w := w) E5.out.1 E5.out.2.1 D3.out.2.1 B2.out.size E5.out.2.2.1 ho6 R6.out (by omega) HH.out.2.2.2.1 hr6R)
    obtain ⟨s0, s1, s2, -, -, -⟩ := ho6.a.cs
    obtain ⟨r0, r1, r2⟩ : w6.cell? ⟨w.heap.size + 1 + 1, 0, none⟩ = some (.slice none 0 0) ∧ w6.cell? ⟨w.heap.size + 1 + 1, 1, none⟩ = some (.slice none 0 0) ∧ w6.cell? ⟨w.heap.size + 1 + 1, 2, none⟩ = some (.slice none 0 0) := ⟨R6.out.cell 0, R6.out.cell 1, R6.out.cell 2⟩
    obtain ⟨q0, q1, q2⟩ : w6.frozen? ⟨w.heap.size + 1 + 1, 0, none⟩ = false ∧ w6.frozen? ⟨w.heap.size + 1 + 1, 1, none⟩ = false ∧ w6.frozen? ⟨w.heap.size + 1 + 1, 2, none⟩ = false := ⟨R6.out.free 0, R6.out.free 1, R6.out.free 2⟩
    have hne : d ≠ w.heap.size + 1 + 1 := by have := D3.out.2.1; have := D3.out.2.2.2.2; omega
    clear ho6 hr6R
    go_wp2
    exact bodyPost_ret (v := .tuple #[.agg #[.slice nva nvm nvc, .slice fva2 fvm2 fvc2, .slice oa om oc], .int .i64 0]) (by simp [results, Try.results15, go_sem, r0, r1, r2, q0, q1, q2]) rfl HE.out
end Go.Proofs.Ytbpboghjgbgjfaa
