/- FilesystemCopies: the region that makes the changes and calls Run: the operations before Run. -/
import Derived.Test.YtfihnmfbgdjkpaaFvB
namespace Go.Proofs.Ytfihnmfbgdjkpaa
open Go.RowKit

theorem wp_run {P : Program} {o : Oper} {a : Act} {w w' : World} {K : Act → World → Prop} {Q : Exit → Act → World → Prop} {v : Value} (h : (execOp a.eval o).run P w = .ok (.value v) w') (hK : K (a.put o.dst v) w') : o.wp P a w K Q := by
  unfold Oper.wp; rw [h]; exact hK
theorem wp_skip' {P : Program} {o : Oper} {a : Act} {w w' : World} {K : Act → World → Prop} {Q : Exit → Act → World → Prop} (h : (execOp a.eval o).run P w = .ok .skip w') (hK : K (a.put o.dst undef) w') : o.wp P a w K Q := by
  unfold Oper.wp; rw [h]; exact hK
theorem range_of {b o : Nat} {T : TypeId} {cs : Array Value} {w : World} (h : BkAt b T cs w) (l : List Value) (hl : ∀ i, i < l.length → cs[o + i]? = l[i]?) : w.rangeAt b o l := fun i v hv => by
  rw [h.cell, hl i (List.getElem?_eq_some_iff.1 hv).1]; exact hv
def zChange : Value := .agg #[.int .i64 0, .string ⟨#[]⟩, .string ⟨#[]⟩, nilS, .int .i64 0]
theorem infoZ : (Try.prog.info? 37).map (fun i => (i.zero, i.size)) = some (some zChange, 5) := by kernel_rfl
theorem infoU : (Try.prog.info? 5).map (fun i => (i.zero, i.size)) = some (some (.int .u8 0), 1) := by kernel_rfl
theorem of_key {a : Act} {Q : Exit → Act → World → Prop} {B0 : Nat} {dV : Value} {q : Int} {m j : Nat} {o : Oper} {x : Nat → Value} {w : World} {K : Act → World → Prop} (hK : ∀ v w', RM B0 w w' → phi1 B0 dV q m j v w' → K ((FC a x).put o.dst v) w')
    (h : ∃ v w', (execOp (FC a x).eval o).run Try.prog w = .ok (.value v) w' ∧ RM B0 w w' ∧ phi1 B0 dV q m j v w') : o.wp Try.prog (FC a x) w K Q := by
  obtain ⟨v, w', h1, h2, h3⟩ := h
  exact wp_run h1 (hK v w' h2 h3)
theorem fill3_0 (dg dn dc : Nat) (g : Option Addr) (n c : Nat) : Instr.fill (fun i => some (i * 5, 5)) (Array.map (fun x => zChange.cells[x % zChange.cells.size]!) (Array.range (3 * 5))) [(0, agC 1 bsA bsE (.slice (some ⟨dg, 0, none⟩) dn dc)), (1, agC 5 bsA bsB nilS), (2, (third (.slice g n c) 0).C.ag)] = some (row3 (.slice (some ⟨dg, 0, none⟩) dn dc) (third (.slice g n c) 0).C) := by kernel_rfl
theorem fill3_1 (dg dn dc : Nat) (g : Option Addr) (n c : Nat) : Instr.fill (fun i => some (i * 5, 5)) (Array.map (fun x => zChange.cells[x % zChange.cells.size]!) (Array.range (3 * 5))) [(0, agC 1 bsA bsE (.slice (some ⟨dg, 0, none⟩) dn dc)), (1, agC 5 bsA bsB nilS), (2, (third (.slice g n c) 1).C.ag)] = some (row3 (.slice (some ⟨dg, 0, none⟩) dn dc) (third (.slice g n c) 1).C) := by kernel_rfl
theorem fill3_2 (dg dn dc : Nat) (g : Option Addr) (n c : Nat) : Instr.fill (fun i => some (i * 5, 5)) (Array.map (fun x => zChange.cells[x % zChange.cells.size]!) (Array.range (3 * 5))) [(0, agC 1 bsA bsE (.slice (some ⟨dg, 0, none⟩) dn dc)), (1, agC 5 bsA bsB nilS), (2, (third (.slice g n c) 2).C.ag)] = some (row3 (.slice (some ⟨dg, 0, none⟩) dn dc) (third (.slice g n c) 2).C) := by kernel_rfl
theorem fill3_3 (dg dn dc : Nat) (g : Option Addr) (n c : Nat) : Instr.fill (fun i => some (i * 5, 5)) (Array.map (fun x => zChange.cells[x % zChange.cells.size]!) (Array.range (3 * 5))) [(0, agC 1 bsA bsE (.slice (some ⟨dg, 0, none⟩) dn dc)), (1, agC 5 bsA bsB nilS), (2, (third (.slice g n c) 3).C.ag)] = some (row3 (.slice (some ⟨dg, 0, none⟩) dn dc) (third (.slice g n c) 3).C) := by kernel_rfl
def StepJ (a : Act) (Q : Exit → Act → World → Prop) (B0 : Nat) (dV : Value) (q : Int) (m j : Nat) : Prop := ∀ o x w, opsC[j]? = some o → B0 ≤ w.heap.size → (∀ e ∈ o.after, Region.binds .any e = true → phi1 B0 dV q m e.on (x e.on) w) →
  ∀ K : Act → World → Prop, (∀ v w', RM B0 w w' → phi1 B0 dV q m j v w' → K ((FC a x).put o.dst v) w') → o.wp Try.prog (FC a x) w K Q
set_option maxRecDepth 100000
set_option maxHeartbeats 400000
section
variable {Q : Exit → Act → World → Prop} {B0 : Nat} {dV : Value} {q : Int} {m dg dn dc : Nat} {a : Act}
theorem s0 : StepJ a Q B0 dV q m 0 := by
  intro o x w ho hB hd K hK
  have h : (opsC[0]?).map (fun o => (o.dst, o.op, o.after, o.guard)) = some (some 28, .call ⟨.value (.func 13), #[], #[]⟩, #[], none) := by kernel_rfl
  rw [ho] at h
  obtain ⟨dst, op, ty, p, af, gd⟩ := o
  simp only [Option.map_some, Option.some.injEq, Prod.mk.injEq] at h
  have q1 := h.1
  have q2 := h.2.1
  have q3 := h.2.2.1
  have q4 := h.2.2.2
  subst q1 q2 q3 q4
  unfold Oper.wp execOp
  go_simp
  refine (fsNew_any _).mono ?_
  rintro e w' ⟨rfl, hb⟩
  exact hK _ _ (RM.of_below hb hB) rfl
theorem s1 (h7 : a.eval (.tmp 7) = dV) : StepJ a Q B0 dV q m 1 := by
  intro o x w ho hB hd K hK
  refine of_key hK ?_
  have h : (opsC[1]?).map (fun o => (o.dst, o.op, o.after, o.guard)) = some (some 29, .move (.tmp 7), #[], none) := by kernel_rfl
  rw [ho] at h
  obtain ⟨dst, op, ty, p, af, gd⟩ := o
  simp only [Option.map_some, Option.some.injEq, Prod.mk.injEq] at h
  have q1 := h.1
  have q2 := h.2.1
  have q3 := h.2.2.1
  have q4 := h.2.2.2
  subst q1 q2 q3 q4
  exact ⟨_, _, ex_move _ _ _ _ ((FC_other x 7 (by decide)).trans h7), (RM.refl _ _), rfl⟩
theorem s2 (hs : a.tmps.size = 171) (hdV : dV = .slice (some ⟨dg, 0, none⟩) dn dc) : StepJ a Q B0 dV q m 2 := by
  intro o x w ho hB hd K hK
  refine of_key hK ?_
  have h : (opsC[2]?).map (fun o => (o.dst, o.op, o.after, o.guard)) = some (some 30, .build 37 #[(0, .const (.int .i64 1)), (1, .const (.string ⟨#[97]⟩)), (3, .tmp 29)], #[⟨1, .data⟩], none) := by kernel_rfl
  rw [ho] at h
  obtain ⟨dst, op, ty, p, af, gd⟩ := o
  simp only [Option.map_some, Option.some.injEq, Prod.mk.injEq] at h
  have q1 := h.1
  have q2 := h.2.1
  have q3 := h.2.2.1
  have q4 := h.2.2.2
  subst q1 q2 q3 q4
  have e1 := (FC_eval hs x 1 29 rfl (by decide)).trans (hd ⟨1, .data⟩ (by simp) rfl)
  refine ⟨_, _, ex_build _ _ _ _ #[.int .i64 1, .string bsA, .string bsE, dV, .int .i64 0] ?_, (RM.refl _ _), rfl⟩
  simp only [List.map_toArray, List.map_cons, List.map_nil, e1, FC_const]
  rw [hdV]
  kernel_rfl
theorem s3 : StepJ a Q B0 dV q m 3 := by
  intro o x w ho hB hd K hK
  refine of_key hK ?_
  have h : (opsC[3]?).map (fun o => (o.dst, o.op, o.after, o.guard)) = some (some 31, .build 37 #[(0, .const (.int .i64 5)), (1, .const (.string ⟨#[97]⟩)), (2, .const (.string ⟨#[98]⟩))], #[], none) := by kernel_rfl
  rw [ho] at h
  obtain ⟨dst, op, ty, p, af, gd⟩ := o
  simp only [Option.map_some, Option.some.injEq, Prod.mk.injEq] at h
  have q1 := h.1
  have q2 := h.2.1
  have q3 := h.2.2.1
  have q4 := h.2.2.2
  subst q1 q2 q3 q4
  refine ⟨_, _, ex_build _ _ _ _ #[.int .i64 5, .string bsA, .string bsB, nilS, .int .i64 0] ?_, (RM.refl _ _), rfl⟩
  simp only [List.map_toArray, List.map_cons, List.map_nil, FC_const]
  kernel_rfl
theorem s4 : StepJ a Q B0 dV q m 4 := by
  intro o x w ho hB hd K hK
  refine of_key hK ?_
  have h : (opsC[4]?).map (fun o => (o.dst, o.op, o.after, o.guard)) = some (some 32, .build 37 #[(0, .const (.int .i64 3)), (1, .const (.string ⟨#[97]⟩))], #[], none) := by kernel_rfl
  rw [ho] at h
  obtain ⟨dst, op, ty, p, af, gd⟩ := o
  simp only [Option.map_some, Option.some.injEq, Prod.mk.injEq] at h
  have q1 := h.1
  have q2 := h.2.1
  have q3 := h.2.2.1
  have q4 := h.2.2.2
  subst q1 q2 q3 q4
  refine ⟨_, _, ex_build _ _ _ _ #[.int .i64 3, .string bsA, .string bsE, nilS, .int .i64 0] ?_, (RM.refl _ _), rfl⟩
  simp only [List.map_toArray, List.map_cons, List.map_nil, FC_const]
  kernel_rfl
theorem s8 : StepJ a Q B0 dV q m 8 := by
  intro o x w ho hB hd K hK
  refine of_key hK ?_
  have h : (opsC[8]?).map (fun o => (o.dst, o.op, o.after, o.guard)) = some (some 36, .build 37 #[(0, .const (.int .i64 7)), (1, .const (.string ⟨#[97]⟩))], #[], none) := by kernel_rfl
  rw [ho] at h
  obtain ⟨dst, op, ty, p, af, gd⟩ := o
  simp only [Option.map_some, Option.some.injEq, Prod.mk.injEq] at h
  have q1 := h.1
  have q2 := h.2.1
  have q3 := h.2.2.1
  have q4 := h.2.2.2
  subst q1 q2 q3 q4
  refine ⟨_, _, ex_build _ _ _ _ #[.int .i64 7, .string bsA, .string bsE, nilS, .int .i64 0] ?_, (RM.refl _ _), rfl⟩
  simp only [List.map_toArray, List.map_cons, List.map_nil, FC_const]
  kernel_rfl
theorem s5 : StepJ a Q B0 dV q m 5 := by
  intro o x w ho hB hd K hK
  refine of_key hK ?_
  have h : (opsC[5]?).map (fun o => (o.dst, o.op, o.after, o.guard)) = some (some 33, .buildSlice 22 5 #[(0, .const (.int .u8 109)), (1, .const (.int .u8 111)), (2, .const (.int .u8 114)), (3, .const (.int .u8 101)), (4, .const (.int .u8 10))], #[], none) := by kernel_rfl
  rw [ho] at h
  obtain ⟨dst, op, ty, p, af, gd⟩ := o
  simp only [Option.map_some, Option.some.injEq, Prod.mk.injEq] at h
  have q1 := h.1
  have q2 := h.2.1
  have q3 := h.2.2.1
  have q4 := h.2.2.2
  subst q1 q2 q3 q4
  refine ⟨_, _, ex_buildS _ _ _ 5 _ _ moreA 1 (.int .u8 0) Try.underlying22 infoU (by decide) (by decide) ?_, (RM.of_below (below_new _ _) hB), ⟨_, _, hB, rfl, heap_alloc_new _ _⟩⟩
  simp only [List.map_toArray, List.map_cons, List.map_nil, FC_const]
  kernel_rfl
theorem s9 : StepJ a Q B0 dV q m 9 := by
  intro o x w ho hB hd K hK
  refine of_key hK ?_
  have h : (opsC[9]?).map (fun o => (o.dst, o.op, o.after, o.guard)) = some (some 37, .buildSlice 22 4 #[(0, .const (.int .u8 110)), (1, .const (.int .u8 101)), (2, .const (.int .u8 119)), (3, .const (.int .u8 10))], #[], none) := by kernel_rfl
  rw [ho] at h
  obtain ⟨dst, op, ty, p, af, gd⟩ := o
  simp only [Option.map_some, Option.some.injEq, Prod.mk.injEq] at h
  have q1 := h.1
  have q2 := h.2.1
  have q3 := h.2.2.1
  have q4 := h.2.2.2
  subst q1 q2 q3 q4
  refine ⟨_, _, ex_buildS _ _ _ 5 _ _ newA 1 (.int .u8 0) Try.underlying22 infoU (by decide) (by decide) ?_, (RM.of_below (below_new _ _) hB), ⟨_, _, hB, rfl, heap_alloc_new _ _⟩⟩
  simp only [List.map_toArray, List.map_cons, List.map_nil, FC_const]
  kernel_rfl
theorem s6 (hs : a.tmps.size = 171) : StepJ a Q B0 dV q m 6 := by
  intro o x w ho hB hd K hK
  refine of_key hK ?_
  have h : (opsC[6]?).map (fun o => (o.dst, o.op, o.after, o.guard)) = some (some 34, .convert 22 22 (.tmp 33), #[⟨5, .data⟩], none) := by kernel_rfl
  rw [ho] at h
  obtain ⟨dst, op, ty, p, af, gd⟩ := o
  simp only [Option.map_some, Option.some.injEq, Prod.mk.injEq] at h
  have q1 := h.1
  have q2 := h.2.1
  have q3 := h.2.2.1
  have q4 := h.2.2.2
  subst q1 q2 q3 q4
  obtain ⟨g, fz, h1, h3, h4⟩ := hd ⟨5, .data⟩ (by simp) rfl
  have e1 := (FC_eval hs x 5 33 rfl (by decide)).trans h3
  obtain ⟨hr, fz', h5⟩ := RM.freeze (n := (moreA).size) h4 h1
  exact ⟨_, _, ex_conv _ _ _ g _ _ fz e1 h4, hr, ⟨g, fz', h1, rfl, h5⟩⟩
theorem s10 (hs : a.tmps.size = 171) : StepJ a Q B0 dV q m 10 := by
  intro o x w ho hB hd K hK
  refine of_key hK ?_
  have h : (opsC[10]?).map (fun o => (o.dst, o.op, o.after, o.guard)) = some (some 38, .convert 22 22 (.tmp 37), #[⟨9, .data⟩], none) := by kernel_rfl
  rw [ho] at h
  obtain ⟨dst, op, ty, p, af, gd⟩ := o
  simp only [Option.map_some, Option.some.injEq, Prod.mk.injEq] at h
  have q1 := h.1
  have q2 := h.2.1
  have q3 := h.2.2.1
  have q4 := h.2.2.2
  subst q1 q2 q3 q4
  obtain ⟨g, fz, h1, h3, h4⟩ := hd ⟨9, .data⟩ (by simp) rfl
  have e1 := (FC_eval hs x 9 37 rfl (by decide)).trans h3
  obtain ⟨hr, fz', h5⟩ := RM.freeze (n := (newA).size) h4 h1
  exact ⟨_, _, ex_conv _ _ _ g _ _ fz e1 h4, hr, ⟨g, fz', h1, rfl, h5⟩⟩
theorem s7 (hs : a.tmps.size = 171) : StepJ a Q B0 dV q m 7 := by
  intro o x w ho hB hd K hK
  refine of_key hK ?_
  have h : (opsC[7]?).map (fun o => (o.dst, o.op, o.after, o.guard)) = some (some 35, .build 37 #[(0, .const (.int .i64 2)), (1, .const (.string ⟨#[97]⟩)), (3, .tmp 34)], #[⟨6, .data⟩], none) := by kernel_rfl
  rw [ho] at h
  obtain ⟨dst, op, ty, p, af, gd⟩ := o
  simp only [Option.map_some, Option.some.injEq, Prod.mk.injEq] at h
  have q1 := h.1
  have q2 := h.2.1
  have q3 := h.2.2.1
  have q4 := h.2.2.2
  subst q1 q2 q3 q4
  have d1 := hd ⟨6, .data⟩ (by simp) rfl
  have d2 := d1
  obtain ⟨g, fz, h1, h3, h4⟩ := d2
  have h3 : x 6 = _ := h3
  have e1 := FC_eval hs x 6 34 rfl (by decide)
  rw [h3] at e1
  refine ⟨_, _, ex_build _ _ _ _ #[.int .i64 2, .string bsA, .string bsE, x 6, .int .i64 0] ?_, (RM.refl _ _), ⟨_, d1, rfl⟩⟩
  simp only [List.map_toArray, List.map_cons, List.map_nil, e1, FC_const]
  rw [h3]
  kernel_rfl
theorem s11 (hs : a.tmps.size = 171) : StepJ a Q B0 dV q m 11 := by
  intro o x w ho hB hd K hK
  refine of_key hK ?_
  have h : (opsC[11]?).map (fun o => (o.dst, o.op, o.after, o.guard)) = some (some 39, .build 37 #[(0, .const (.int .i64 8)), (1, .const (.string ⟨#[97]⟩)), (3, .tmp 38)], #[⟨10, .data⟩], none) := by kernel_rfl
  rw [ho] at h
  obtain ⟨dst, op, ty, p, af, gd⟩ := o
  simp only [Option.map_some, Option.some.injEq, Prod.mk.injEq] at h
  have q1 := h.1
  have q2 := h.2.1
  have q3 := h.2.2.1
  have q4 := h.2.2.2
  subst q1 q2 q3 q4
  have d1 := hd ⟨10, .data⟩ (by simp) rfl
  have d2 := d1
  obtain ⟨g, fz, h1, h3, h4⟩ := d2
  have h3 : x 10 = _ := h3
  have e1 := FC_eval hs x 10 38 rfl (by decide)
  rw [h3] at e1
  refine ⟨_, _, ex_build _ _ _ _ #[.int .i64 8, .string bsA, .string bsE, x 10, .int .i64 0] ?_, (RM.refl _ _), ⟨_, d1, rfl⟩⟩
  simp only [List.map_toArray, List.map_cons, List.map_nil, e1, FC_const]
  rw [h3]
  kernel_rfl
theorem s12 (hs : a.tmps.size = 171) : StepJ a Q B0 dV q m 12 := by
  intro o x w ho hB hd K hK
  refine of_key hK ?_
  have h : (opsC[12]?).map (fun o => (o.dst, o.op, o.after, o.guard)) = some (some 40, .buildSlice 38 4 #[(0, .tmp 32), (1, .tmp 35), (2, .tmp 36), (3, .tmp 39)], #[⟨4, .data⟩, ⟨7, .data⟩, ⟨8, .data⟩, ⟨11, .data⟩], none) := by kernel_rfl
  rw [ho] at h
  obtain ⟨dst, op, ty, p, af, gd⟩ := o
  simp only [Option.map_some, Option.some.injEq, Prod.mk.injEq] at h
  have q1 := h.1
  have q2 := h.2.1
  have q3 := h.2.2.1
  have q4 := h.2.2.2
  subst q1 q2 q3 q4
  have e4 := (FC_eval hs x 4 32 rfl (by decide)).trans (hd ⟨4, .data⟩ (by simp) rfl)
  have e8 := (FC_eval hs x 8 36 rfl (by decide)).trans (hd ⟨8, .data⟩ (by simp) rfl)
  obtain ⟨u1, d7, f7⟩ := hd ⟨7, .data⟩ (by simp) rfl
  obtain ⟨u2, d11, f11⟩ := hd ⟨11, .data⟩ (by simp) rfl
  have e7 := (FC_eval hs x 7 35 rfl (by decide)).trans f7
  have e11 := (FC_eval hs x 11 39 rfl (by decide)).trans f11
  have hr := RM.of_below (below_new w (.cells (row4 u1 u2) 37)) hB
  refine ⟨_, _, ex_buildS _ _ _ 37 _ _ (row4 u1 u2) 5 zChange Try.underlying38 infoZ (by decide) (by decide) ?_, hr, ⟨_, _, _, d7.keep hr, d11.keep hr, rfl, heap_alloc_new _ _⟩⟩
  simp only [List.map_toArray, List.map_cons, List.map_nil, e4, e7, e8, e11]
  obtain ⟨g, fz, h1, rfl, h4⟩ := d7
  obtain ⟨g', fz', h1', rfl, h4'⟩ := d11
  kernel_rfl
theorem s13 (h2 : a.eval (.tmp 2) = .int .u8 q) : StepJ a Q B0 dV q m 13 := by
  intro o x w ho hB hd K hK
  refine of_key hK ?_
  have h : (opsC[13]?).map (fun o => (o.dst, o.op, o.after, o.guard)) = some (some 41, .move (.tmp 2), #[], none) := by kernel_rfl
  rw [ho] at h
  obtain ⟨dst, op, ty, p, af, gd⟩ := o
  simp only [Option.map_some, Option.some.injEq, Prod.mk.injEq] at h
  have q1 := h.1
  have q2 := h.2.1
  have q3 := h.2.2.1
  have q4 := h.2.2.2
  subst q1 q2 q3 q4
  exact ⟨_, _, ex_move _ _ _ _ ((FC_other x 2 (by decide)).trans h2), (RM.refl _ _), rfl⟩
theorem s14 (hs : a.tmps.size = 171) (hm : q.tmod 4 = (m : Int)) : StepJ a Q B0 dV q m 14 := by
  intro o x w ho hB hd K hK
  refine of_key hK ?_
  have h : (opsC[14]?).map (fun o => (o.dst, o.op, o.after, o.guard)) = some (some 42, .binOp .rem 5 (.tmp 41) (.const (.int .u8 4)) 5, #[⟨13, .data⟩], none) := by kernel_rfl
  rw [ho] at h
  obtain ⟨dst, op, ty, p, af, gd⟩ := o
  simp only [Option.map_some, Option.some.injEq, Prod.mk.injEq] at h
  have q1 := h.1
  have q2 := h.2.1
  have q3 := h.2.2.1
  have q4 := h.2.2.2
  subst q1 q2 q3 q4
  have e1 := (FC_eval hs x 13 41 rfl (by decide)).trans (hd ⟨13, .data⟩ (by simp) rfl)
  refine ⟨_, _, ex_rem _ _ _ q e1 rfl, (RM.refl _ _), ?_⟩
  rw [hm]; rfl
theorem s15 (hs : a.tmps.size = 171) (hm4 : m < 4) : StepJ a Q B0 dV q m 15 := by
  intro o x w ho hB hd K hK
  refine of_key hK ?_
  have h : (opsC[15]?).map (fun o => (o.dst, o.op, o.after, o.guard)) = some (some 43, .indexAddr 38 (.tmp 40) (.tmp 42), #[⟨12, .data⟩, ⟨14, .data⟩], none) := by kernel_rfl
  rw [ho] at h
  obtain ⟨dst, op, ty, p, af, gd⟩ := o
  simp only [Option.map_some, Option.some.injEq, Prod.mk.injEq] at h
  have q1 := h.1
  have q2 := h.2.1
  have q3 := h.2.2.1
  have q4 := h.2.2.2
  subst q1 q2 q3 q4
  obtain ⟨g, u1, u2, d1, d2, f1, f2⟩ := hd ⟨12, .data⟩ (by simp) rfl
  have e1 := (FC_eval hs x 12 40 rfl (by decide)).trans f1
  have e2 := (FC_eval hs x 14 42 rfl (by decide)).trans (hd ⟨14, .data⟩ (by simp) rfl)
  exact ⟨_, _, ex_index _ _ _ _ g 4 m hm4 e1 e2, (RM.refl _ _), ⟨g, u1, u2, d1, d2, rfl, f2⟩⟩
theorem s16 (hs : a.tmps.size = 171) (hm4 : m < 4) : StepJ a Q B0 dV q m 16 := by
  intro o x w ho hB hd K hK
  refine of_key hK ?_
  have h : (opsC[16]?).map (fun o => (o.dst, o.op, o.after, o.guard)) = some (some 44, .load 37 (.tmp 43), #[⟨15, .data⟩], none) := by kernel_rfl
  rw [ho] at h
  obtain ⟨dst, op, ty, p, af, gd⟩ := o
  simp only [Option.map_some, Option.some.injEq, Prod.mk.injEq] at h
  have q1 := h.1
  have q2 := h.2.1
  have q3 := h.2.2.1
  have q4 := h.2.2.2
  subst q1 q2 q3 q4
  obtain ⟨g, u1, u2, d1, d2, f1, f2⟩ := hd ⟨15, .data⟩ (by simp) rfl
  have e1 := (FC_eval hs x 15 43 rfl (by decide)).trans f1
  have hq : m = 0 ∨ m = 1 ∨ m = 2 ∨ m = 3 := by omega
  rcases hq with rfl | rfl | rfl | rfl
  · refine ⟨_, _, ex_load _ _ _ g _ [.int .i64 3, .string bsA, .string bsE, nilS, .int .i64 0] e1 rfl (range_of f2 _ (fun i hi => ?_)), (RM.refl _ _), ⟨u1, moreL, lit_more d1, by decide, rfl⟩⟩
    match i, hi with
    | 0, _ | 1, _ | 2, _ | 3, _ | 4, _ => rfl
  · refine ⟨_, _, ex_load _ _ _ g _ [.int .i64 2, .string bsA, .string bsE, u1, .int .i64 0] e1 rfl (range_of f2 _ (fun i hi => ?_)), (RM.refl _ _), ⟨u1, moreL, lit_more d1, by decide, rfl⟩⟩
    match i, hi with
    | 0, _ | 1, _ | 2, _ | 3, _ | 4, _ => rfl
  · refine ⟨_, _, ex_load _ _ _ g _ [.int .i64 7, .string bsA, .string bsE, nilS, .int .i64 0] e1 rfl (range_of f2 _ (fun i hi => ?_)), (RM.refl _ _), ⟨u1, moreL, lit_more d1, by decide, rfl⟩⟩
    match i, hi with
    | 0, _ | 1, _ | 2, _ | 3, _ | 4, _ => rfl
  · refine ⟨_, _, ex_load _ _ _ g _ [.int .i64 8, .string bsA, .string bsE, u2, .int .i64 0] e1 rfl (range_of f2 _ (fun i hi => ?_)), (RM.refl _ _), ⟨u2, newL, lit_new d2, by decide, rfl⟩⟩
    match i, hi with
    | 0, _ | 1, _ | 2, _ | 3, _ | 4, _ => rfl
theorem s17 (hs : a.tmps.size = 171) (hm4 : m < 4) (hdV : dV = .slice (some ⟨dg, 0, none⟩) dn dc) : StepJ a Q B0 dV q m 17 := by
  intro o x w ho hB hd K hK
  refine of_key hK ?_
  have h : (opsC[17]?).map (fun o => (o.dst, o.op, o.after, o.guard)) = some (some 45, .buildSlice 38 3 #[(0, .tmp 30), (1, .tmp 31), (2, .tmp 44)], #[⟨2, .data⟩, ⟨3, .data⟩, ⟨16, .data⟩], none) := by kernel_rfl
  rw [ho] at h
  obtain ⟨dst, op, ty, p, af, gd⟩ := o
  simp only [Option.map_some, Option.some.injEq, Prod.mk.injEq] at h
  have q1 := h.1
  have q2 := h.2.1
  have q3 := h.2.2.1
  have q4 := h.2.2.2
  subst q1 q2 q3 q4
  have e2 := (FC_eval hs x 2 30 rfl (by decide)).trans (hd ⟨2, .data⟩ (by simp) rfl)
  have e3 := (FC_eval hs x 3 31 rfl (by decide)).trans (hd ⟨3, .data⟩ (by simp) rfl)
  obtain ⟨u, lx, d1, d2, f1⟩ := hd ⟨16, .data⟩ (by simp) rfl
  have e16 := (FC_eval hs x 16 44 rfl (by decide)).trans f1
  have hr := RM.of_below (below_new w (.cells (row3 dV (third u m).C) 37)) hB
  refine ⟨_, _, ex_buildS _ _ _ 37 _ _ (row3 dV (third u m).C) 5 zChange Try.underlying38 infoZ (by decide) (by decide) ?_, hr, ⟨_, u, lx, d1.keepM hr, d2, rfl, heap_alloc_new _ _⟩⟩
  simp only [List.map_toArray, List.map_cons, List.map_nil, e2, e3, e16]
  obtain ⟨g, n, c, rfl⟩ := d1.slice
  subst hdV
  have hq : m = 0 ∨ m = 1 ∨ m = 2 ∨ m = 3 := by omega
  rcases hq with rfl | rfl | rfl | rfl
  · exact fill3_0 _ _ _ _ _ _
  · exact fill3_1 _ _ _ _ _ _
  · exact fill3_2 _ _ _ _ _ _
  · exact fill3_3 _ _ _ _ _ _
theorem s19 : StepJ a Q B0 dV q m 19 := by
  intro o x w ho hB hd K hK
  have h : (opsC[19]?).map (fun o => (o.dst, o.op, o.after, o.guard)) = some (some 27, .move (.tmp 46), #[⟨18, .data⟩], none) := by kernel_rfl
  rw [ho] at h
  obtain ⟨dst, op, ty, p, af, gd⟩ := o
  simp only [Option.map_some, Option.some.injEq, Prod.mk.injEq] at h
  have q1 := h.1
  have q2 := h.2.1
  have q3 := h.2.2.1
  have q4 := h.2.2.2
  subst q1 q2 q3 q4
  exact (hd ⟨18, .data⟩ (by simp) rfl).elim
theorem s22 : StepJ a Q B0 dV q m 22 := by
  intro o x w ho hB hd K hK
  refine of_key hK ?_
  have h : (opsC[22]?).map (fun o => (o.dst, o.op, o.after, o.guard)) = some (some 8, .alloc 31, #[], none) := by kernel_rfl
  rw [ho] at h
  obtain ⟨dst, op, ty, p, af, gd⟩ := o
  simp only [Option.map_some, Option.some.injEq, Prod.mk.injEq] at h
  have q1 := h.1
  have q2 := h.2.1
  have q3 := h.2.2.1
  have q4 := h.2.2.2
  subst q1 q2 q3 q4
  exact ⟨_, _, ex_alloc _ _, (RM.of_below (below_new _ _) hB), ⟨_, hB, rfl, heap_alloc_new _ _⟩⟩
theorem s20 : StepJ a Q B0 dV q m 20 := by
  intro o x w ho hB hd K hK
  have hm : (opsC[20]?.map fun o => o.after.toList.any fun e => e.on == 19 && Region.binds .any e) = some true := by kernel_rfl
  rw [ho] at hm
  have hm2 : (o.after.toList.any fun e => e.on == 19 && Region.binds .any e) = true := by simpa using hm
  obtain ⟨e, h1, h2⟩ := List.any_eq_true.1 hm2
  obtain ⟨h3, h4⟩ := Bool.and_eq_true_iff.1 h2
  have h5 := hd e (by simpa using h1) h4
  rw [show e.on = 19 by simpa using h3] at h5
  exact h5.elim
theorem s21 : StepJ a Q B0 dV q m 21 := by
  intro o x w ho hB hd K hK
  have hm : (opsC[21]?.map fun o => o.after.toList.any fun e => e.on == 19 && Region.binds .any e) = some true := by kernel_rfl
  rw [ho] at hm
  have hm2 : (o.after.toList.any fun e => e.on == 19 && Region.binds .any e) = true := by simpa using hm
  obtain ⟨e, h1, h2⟩ := List.any_eq_true.1 hm2
  obtain ⟨h3, h4⟩ := Bool.and_eq_true_iff.1 h2
  have h5 := hd e (by simpa using h1) h4
  rw [show e.on = 19 by simpa using h3] at h5
  exact h5.elim
theorem s23 : StepJ a Q B0 dV q m 23 := by
  intro o x w ho hB hd K hK
  have hm : (opsC[23]?.map fun o => o.after.toList.any fun e => e.on == 20 && Region.binds .any e) = some true := by kernel_rfl
  rw [ho] at hm
  have hm2 : (o.after.toList.any fun e => e.on == 20 && Region.binds .any e) = true := by simpa using hm
  obtain ⟨e, h1, h2⟩ := List.any_eq_true.1 hm2
  obtain ⟨h3, h4⟩ := Bool.and_eq_true_iff.1 h2
  have h5 := hd e (by simpa using h1) h4
  rw [show e.on = 20 by simpa using h3] at h5
  exact h5.elim
theorem s24 : StepJ a Q B0 dV q m 24 := by
  intro o x w ho hB hd K hK
  have hm : (opsC[24]?.map fun o => o.after.toList.any fun e => e.on == 21 && Region.binds .any e) = some true := by kernel_rfl
  rw [ho] at hm
  have hm2 : (o.after.toList.any fun e => e.on == 21 && Region.binds .any e) = true := by simpa using hm
  obtain ⟨e, h1, h2⟩ := List.any_eq_true.1 hm2
  obtain ⟨h3, h4⟩ := Bool.and_eq_true_iff.1 h2
  have h5 := hd e (by simpa using h1) h4
  rw [show e.on = 21 by simpa using h3] at h5
  exact h5.elim
end
theorem step1 {Q : Exit → Act → World → Prop} {B0 : Nat} {dV : Value} {q : Int} {m dg dn dc : Nat} (a : Act) (hs : a.tmps.size = 171) (h7 : a.eval (.tmp 7) = dV) (h2 : a.eval (.tmp 2) = .int .u8 q) (hdV : dV = .slice (some ⟨dg, 0, none⟩) dn dc) (hm : q.tmod 4 = (m : Int)) (hm4 : m < 4) :
    ∀ j, ¬ j = 18 → StepJ a Q B0 dV q m j
  | 0, _ => s0 | 1, _ => s1 h7 | 2, _ => s2 hs hdV | 3, _ => s3 | 4, _ => s4 | 5, _ => s5 | 6, _ => s6 hs | 7, _ => s7 hs | 8, _ => s8 | 9, _ => s9 | 10, _ => s10 hs | 11, _ => s11 hs | 12, _ => s12 hs
  | 13, _ => s13 h2 | 14, _ => s14 hs hm | 15, _ => s15 hs hm4 | 16, _ => s16 hs hm4 | 17, _ => s17 hs hm4 hdV | 18, h => absurd rfl h | 19, _ => s19 | 20, _ => s20 | 21, _ => s21 | 22, _ => s22 | 23, _ => s23 | 24, _ => s24
  | j + 25, _ => fun o x w ho => by
    have := (Array.getElem?_eq_some_iff.1 ho).1
    rw [opsC_size] at this
    omega
end Go.Proofs.Ytfihnmfbgdjkpaa
