/- compare of package fingerprint: three comparisons in open order. -/
import Derived.Test.YtbpboghjgbgjfaaFwA
import Derived.Test.YtbpboghjgbgjfaaFuDz
import Derived.Sort.Grow
namespace Go.Proofs.Ytbpboghjgbgjfaa
open Go.RowKit
open Go.Sort (grow grow_grow grow_empty alloc_eq_grow)

/-- Draws and new blocks alone. -/
def Gw (a b : World) : Prop := ∃ q os, b = grow (a.drewN q) os
theorem Gw.refl (a : World) : Gw a a := ⟨0, #[], by simp [World.drewN]⟩
theorem Gw.trans {a b c : World} (h : Gw a b) (k : Gw b c) : Gw a c := by
  obtain ⟨q, os, rfl⟩ := h
  obtain ⟨q', os', rfl⟩ := k
  refine ⟨q + q', os ++ os', ?_⟩
  rw [← grow_grow]
  simp [grow, World.drewN, Nat.add_assoc]
theorem Gw.alloc (a : World) (o : Obj) : Gw a (a.alloc o) := ⟨0, #[o], by rw [alloc_eq_grow]; simp [World.drewN]⟩
theorem Gw.drew (a : World) : Gw a a.drew := ⟨1, #[], by simp [World.drewN]⟩
theorem Gw.below {a b : World} (h : Gw a b) : Below a.heap.size a b := by
  obtain ⟨q, os, rfl⟩ := h
  refine ⟨rfl, rfl, rfl, by simp [grow, World.drewN], fun k hk => ?_⟩
  simp [grow, World.drewN, Array.getElem?_append, hk]
noncomputable def opsK : Array Oper := match Try.f19.body with | some (.seq _ (.seq (.region _ ops _) _)) => ops | _ => #[]
theorem opsK_size : opsK.size = 18 := by kernel_rfl
def dsK : List (Option Tmp) := [some 5, some 6, some 7, some 8, some 9, some 10, some 11, some 12, some 13, some 14, some 15, some 16, some 17, some 18, some 19, some 20, some 21, some 4]
theorem dst_ofK : ∀ (j : Nat) (o : Oper), opsK[j]? = some o → dsK[j]? = some o.dst := fun j o h => by
  have h2 : dsK = opsK.toList.map (·.dst) := by kernel_rfl
  rw [h2, List.getElem?_map, Array.getElem?_toList, h]; rfl
theorem guard_ofK : ∀ (j : Nat) (o : Oper), opsK[j]? = some o → o.guard = none := fun j o h => by
  have h2 : (opsK.toList.all fun o => o.guard.isNone) = true := by kernel_rfl
  have h3 := List.all_eq_true.1 h2 o (by rw [Array.mem_toList_iff]; exact Array.mem_of_getElem? h)
  simpa using h3
theorem top_ofK : ∀ (j : Nat) (o : Oper), opsK[j]? = some o → ∀ e ∈ o.after, Region.binds .any e = true → e.on < j := fun j o h e he _ => by
  have h2 : (opsK.toList.zipIdx.all fun p => p.1.after.toList.all fun e => e.on < p.2 || !Region.binds .any e) = true := by kernel_rfl
  have h3 := List.all_eq_true.1 h2 (o, j) (List.mem_zipIdx_iff_getElem?.2 (by rw [Array.getElem?_toList]; exact h))
  have h4 := List.all_eq_true.1 h3 e (by simpa using he)
  simp_all
theorem apartK : Apart dsK := by
  unfold Apart dsK
  have h : ([some 5, some 6, some 7, some 8, some 9, some 10, some 11, some 12, some 13, some 14, some 15, some 16, some 17, some 18, some 19, some 20, some 21, some 4] : List (Option Nat)).Pairwise (fun a b => a = none ∨ a ≠ b) := by decide
  exact h.imp fun hab t ht e => by rcases hab with q | q <;> simp_all
def FK (a : Act) (x : Nat → Value) : Act := chainA x dsK 0 a
theorem FK_put (a : Act) (x : Nat → Value) (j : Nat) (o : Oper) (v : Value) (h : opsK[j]? = some o) : (FK a x).put o.dst v = FK a (updX x j v) := by
  have := chain_put x v dsK 0 a j o.dst apartK (dst_ofK j o h)
  rwa [Nat.zero_add] at this
theorem FK_eval {a : Act} (hs : a.tmps.size = 22) (x : Nat → Value) (j t : Nat) (h : dsK[j]? = some (some t)) (ht : t < 22) : (FK a x).eval (.tmp t) = x j := by
  have := chain_eval x t dsK 0 a j apartK h (by rw [hs]; exact ht)
  rwa [Nat.zero_add] at this
theorem FK_other {a : Act} (x : Nat → Value) (t : Nat) (h : ∀ e ∈ dsK, e ≠ some t) : (FK a x).eval (.tmp t) = a.eval (.tmp t) := chain_other x t dsK 0 a h
def chkK (k e : Nat) : Prop := (opsK[k]?.map fun o => o.after.toList.any fun d => d.on == e && Region.binds .any d) = some true
theorem chk_depK {k e : Nat} {o : Oper} (h : chkK k e) (ho : opsK[k]? = some o) : ∃ d ∈ o.after, Region.binds .any d = true ∧ d.on = e := by
  unfold chkK at h
  rw [ho] at h
  have hm2 : (o.after.toList.any fun d => d.on == e && Region.binds .any d) = true := by simpa using h
  obtain ⟨d, h1, h2⟩ := List.any_eq_true.1 hm2
  obtain ⟨h3, h4⟩ := Bool.and_eq_true_iff.1 h2
  exact ⟨d, by simpa using h1, h4, by simpa using h3⟩
section
variable (ρ : Operand → Value) (w : World)
variable {d : Option Tmp} {ty : TypeId} {p : String} {af : Array Edge} {gd : Option (Nat × Bool)}
theorem ex_field (x : Operand) (b f : Nat) (hf : f < 3) (h : ρ x = .pointer (some ⟨b, 0, none⟩)) : (execOp ρ ⟨d, .fieldAddr 45 x f, ty, p, af, gd⟩).run Try.prog w = .ok (.value (.pointer (some ⟨b, f, none⟩))) w := by
  unfold execOp
  have h3 : f = 0 ∨ f = 1 ∨ f = 2 := (by omega)
  rcases h3 with rfl | rfl | rfl
  · simp only [h]; go_simp
  · simp only [h]; go_simp
  · simp only [h]; go_simp
theorem ex_loadI (x : Operand) (b o : Nat) (v : Int) (h : ρ x = .pointer (some ⟨b, o, none⟩)) (hc : w.cell? ⟨b, o, none⟩ = some (.int .i64 v)) : (execOp ρ ⟨d, .load 3 x, ty, p, af, gd⟩).run Try.prog w = .ok (.value (.int .i64 v)) w := by
  unfold execOp
  simp only [h]; go_simp
end
section
variable {Q : Exit → Act → World → Prop} {a : Act} {bA bB : Nat} {f1 i1 s1 f2 i2 s2 : Int}
abbrev cI : Int → Int → Int := Lib.compareInt
def resK (f1 i1 s1 f2 i2 s2 : Int) : Int := orI (cI f1 f2) (cI s2 s1) (cI i1 i2)
def phiK (bA bB : Nat) (f1 i1 s1 f2 i2 s2 : Int) : Nat → Value → World → Prop
  | 0, v, _ => v = .pointer (some ⟨bA, 0, none⟩)
  | 1, v, _ => v = .int .i64 f1
  | 2, v, _ => v = .pointer (some ⟨bB, 0, none⟩)
  | 3, v, _ => v = .int .i64 f2
  | 4, v, _ => v = .int .i64 (cI f1 f2)
  | 5, v, _ => v = .pointer (some ⟨bB, 2, none⟩)
  | 6, v, _ => v = .int .i64 s2
  | 7, v, _ => v = .pointer (some ⟨bA, 2, none⟩)
  | 8, v, _ => v = .int .i64 s1
  | 9, v, _ => v = .int .i64 (cI s2 s1)
  | 10, v, _ => v = .pointer (some ⟨bA, 1, none⟩)
  | 11, v, _ => v = .int .i64 i1
  | 12, v, _ => v = .pointer (some ⟨bB, 1, none⟩)
  | 13, v, _ => v = .int .i64 i2
  | 14, v, _ => v = .int .i64 (cI i1 i2)
  | 15, v, w => ∃ g, v = .slice (some ⟨g, 0, none⟩) 3 3 ∧ BkAt g 3 #[.int .i64 (cI f1 f2), .int .i64 (cI s2 s1), .int .i64 (cI i1 i2)] w
  | _, v, _ => v = .int .i64 (resK f1 i1 s1 f2 i2 s2)
theorem phiK_keep (j : Nat) (v : Value) (w w' : World) (k0 : Gw w w') (h : phiK bA bB f1 i1 s1 f2 i2 s2 j v w) : phiK bA bB f1 i1 s1 f2 i2 s2 j v w' := by
  have k := k0.below
  by_cases hj : j = 15
  · subst hj
    obtain ⟨g, h1, h2⟩ := h
    exact ⟨g, h1, h2.below k⟩
  · revert h
    unfold phiK
    split <;> first | exact id | exact absurd rfl hj
def SeenA (f i s : Int) : Array Value := #[.int .i64 f, .int .i64 i, .int .i64 s]
def StepK (a : Act) (Q : Exit → Act → World → Prop) (bA bB : Nat) (f1 i1 s1 f2 i2 s2 : Int) (j : Nat) : Prop := ∀ o x w, opsK[j]? = some o → BkAt bA 45 (SeenA f1 i1 s1) w → BkAt bB 45 (SeenA f2 i2 s2) w → (∀ e ∈ o.after, Region.binds .any e = true → phiK bA bB f1 i1 s1 f2 i2 s2 e.on (x e.on) w) →
  ∀ K : Act → World → Prop, (∀ v w', Gw w w' → phiK bA bB f1 i1 s1 f2 i2 s2 j v w' → K ((FK a x).put o.dst v) w') → o.wp Try.prog (FK a x) w K Q
theorem wpK_of {o : Oper} {b : Act} {w : World} {K : Act → World → Prop} {φ : Value → World → Prop} (hK : ∀ v w', Gw w w' → φ v w' → K (b.put o.dst v) w')
    (h : ∃ v w', (execOp b.eval o).run Try.prog w = .ok (.value v) w' ∧ Gw w w' ∧ φ v w') : o.wp Try.prog b w K Q := by
  obtain ⟨v, w', h1, h2, h3⟩ := h
  exact wp_run h1 (hK v w' h2 h3)
theorem infoI2 : (Try.prog.info? 3).map (fun i => (i.zero, i.size)) = some (some (.int .i64 0), 1) := by kernel_rfl
theorem k0 (ht : a.eval (.tmp 2) = .pointer (some ⟨bA, 0, none⟩)) : StepK a Q bA bB f1 i1 s1 f2 i2 s2 0 := by
  intro o x w ho hA hB hd K hK
  refine wpK_of hK ?_
  have h : (opsK[0]?).map (fun o => (o.dst, o.op)) = some (some 5, .fieldAddr 45 (.tmp 2) 0) := by kernel_rfl
  rw [ho] at h
  obtain ⟨dst, op, ty, p, af, gd⟩ := o
  simp only [Option.map_some, Option.some.injEq, Prod.mk.injEq] at h
  have q1 := h.1
  have q2 := h.2
  subst q1 q2
  exact ⟨_, _, ex_field _ _ _ bA 0 (by decide) ((FK_other x 2 (by decide)).trans ht), Gw.refl _, rfl⟩
theorem k1 (hs : a.tmps.size = 22) : StepK a Q bA bB f1 i1 s1 f2 i2 s2 1 := by
  intro o x w ho hA hB hd K hK
  refine wpK_of hK ?_
  obtain ⟨d0, m0, b0, on0⟩ := chk_depK (show chkK 1 0 by unfold chkK; kernel_rfl) ho
  have g0 := hd d0 m0 b0
  rw [on0] at g0
  have h : (opsK[1]?).map (fun o => (o.dst, o.op)) = some (some 6, .load 3 (.tmp 5)) := by kernel_rfl
  rw [ho] at h
  obtain ⟨dst, op, ty, p, af, gd⟩ := o
  simp only [Option.map_some, Option.some.injEq, Prod.mk.injEq] at h
  have q1 := h.1
  have q2 := h.2
  subst q1 q2
  exact ⟨_, _, ex_loadI _ _ _ bA 0 _ ((FK_eval hs x 0 5 rfl (by decide)).trans g0) (hA.cell 0), Gw.refl _, rfl⟩
theorem k2 (ht : a.eval (.tmp 3) = .pointer (some ⟨bB, 0, none⟩)) : StepK a Q bA bB f1 i1 s1 f2 i2 s2 2 := by
  intro o x w ho hA hB hd K hK
  refine wpK_of hK ?_
  have h : (opsK[2]?).map (fun o => (o.dst, o.op)) = some (some 7, .fieldAddr 45 (.tmp 3) 0) := by kernel_rfl
  rw [ho] at h
  obtain ⟨dst, op, ty, p, af, gd⟩ := o
  simp only [Option.map_some, Option.some.injEq, Prod.mk.injEq] at h
  have q1 := h.1
  have q2 := h.2
  subst q1 q2
  exact ⟨_, _, ex_field _ _ _ bB 0 (by decide) ((FK_other x 3 (by decide)).trans ht), Gw.refl _, rfl⟩
theorem k3 (hs : a.tmps.size = 22) : StepK a Q bA bB f1 i1 s1 f2 i2 s2 3 := by
  intro o x w ho hA hB hd K hK
  refine wpK_of hK ?_
  obtain ⟨d2, m2, b2, on2⟩ := chk_depK (show chkK 3 2 by unfold chkK; kernel_rfl) ho
  have g2 := hd d2 m2 b2
  rw [on2] at g2
  have h : (opsK[3]?).map (fun o => (o.dst, o.op)) = some (some 8, .load 3 (.tmp 7)) := by kernel_rfl
  rw [ho] at h
  obtain ⟨dst, op, ty, p, af, gd⟩ := o
  simp only [Option.map_some, Option.some.injEq, Prod.mk.injEq] at h
  have q1 := h.1
  have q2 := h.2
  subst q1 q2
  exact ⟨_, _, ex_loadI _ _ _ bB 0 _ ((FK_eval hs x 2 7 rfl (by decide)).trans g2) (hB.cell 0), Gw.refl _, rfl⟩
theorem k5 (ht : a.eval (.tmp 3) = .pointer (some ⟨bB, 0, none⟩)) : StepK a Q bA bB f1 i1 s1 f2 i2 s2 5 := by
  intro o x w ho hA hB hd K hK
  refine wpK_of hK ?_
  have h : (opsK[5]?).map (fun o => (o.dst, o.op)) = some (some 10, .fieldAddr 45 (.tmp 3) 2) := by kernel_rfl
  rw [ho] at h
  obtain ⟨dst, op, ty, p, af, gd⟩ := o
  simp only [Option.map_some, Option.some.injEq, Prod.mk.injEq] at h
  have q1 := h.1
  have q2 := h.2
  subst q1 q2
  exact ⟨_, _, ex_field _ _ _ bB 2 (by decide) ((FK_other x 3 (by decide)).trans ht), Gw.refl _, rfl⟩
theorem k6 (hs : a.tmps.size = 22) : StepK a Q bA bB f1 i1 s1 f2 i2 s2 6 := by
  intro o x w ho hA hB hd K hK
  refine wpK_of hK ?_
  obtain ⟨d5, m5, b5, on5⟩ := chk_depK (show chkK 6 5 by unfold chkK; kernel_rfl) ho
  have g5 := hd d5 m5 b5
  rw [on5] at g5
  have h : (opsK[6]?).map (fun o => (o.dst, o.op)) = some (some 11, .load 3 (.tmp 10)) := by kernel_rfl
  rw [ho] at h
  obtain ⟨dst, op, ty, p, af, gd⟩ := o
  simp only [Option.map_some, Option.some.injEq, Prod.mk.injEq] at h
  have q1 := h.1
  have q2 := h.2
  subst q1 q2
  exact ⟨_, _, ex_loadI _ _ _ bB 2 _ ((FK_eval hs x 5 10 rfl (by decide)).trans g5) (hB.cell 2), Gw.refl _, rfl⟩
theorem k7 (ht : a.eval (.tmp 2) = .pointer (some ⟨bA, 0, none⟩)) : StepK a Q bA bB f1 i1 s1 f2 i2 s2 7 := by
  intro o x w ho hA hB hd K hK
  refine wpK_of hK ?_
  have h : (opsK[7]?).map (fun o => (o.dst, o.op)) = some (some 12, .fieldAddr 45 (.tmp 2) 2) := by kernel_rfl
  rw [ho] at h
  obtain ⟨dst, op, ty, p, af, gd⟩ := o
  simp only [Option.map_some, Option.some.injEq, Prod.mk.injEq] at h
  have q1 := h.1
  have q2 := h.2
  subst q1 q2
  exact ⟨_, _, ex_field _ _ _ bA 2 (by decide) ((FK_other x 2 (by decide)).trans ht), Gw.refl _, rfl⟩
theorem k8 (hs : a.tmps.size = 22) : StepK a Q bA bB f1 i1 s1 f2 i2 s2 8 := by
  intro o x w ho hA hB hd K hK
  refine wpK_of hK ?_
  obtain ⟨d7, m7, b7, on7⟩ := chk_depK (show chkK 8 7 by unfold chkK; kernel_rfl) ho
  have g7 := hd d7 m7 b7
  rw [on7] at g7
  have h : (opsK[8]?).map (fun o => (o.dst, o.op)) = some (some 13, .load 3 (.tmp 12)) := by kernel_rfl
  rw [ho] at h
  obtain ⟨dst, op, ty, p, af, gd⟩ := o
  simp only [Option.map_some, Option.some.injEq, Prod.mk.injEq] at h
  have q1 := h.1
  have q2 := h.2
  subst q1 q2
  exact ⟨_, _, ex_loadI _ _ _ bA 2 _ ((FK_eval hs x 7 12 rfl (by decide)).trans g7) (hA.cell 2), Gw.refl _, rfl⟩
theorem k10 (ht : a.eval (.tmp 2) = .pointer (some ⟨bA, 0, none⟩)) : StepK a Q bA bB f1 i1 s1 f2 i2 s2 10 := by
  intro o x w ho hA hB hd K hK
  refine wpK_of hK ?_
  have h : (opsK[10]?).map (fun o => (o.dst, o.op)) = some (some 15, .fieldAddr 45 (.tmp 2) 1) := by kernel_rfl
  rw [ho] at h
  obtain ⟨dst, op, ty, p, af, gd⟩ := o
  simp only [Option.map_some, Option.some.injEq, Prod.mk.injEq] at h
  have q1 := h.1
  have q2 := h.2
  subst q1 q2
  exact ⟨_, _, ex_field _ _ _ bA 1 (by decide) ((FK_other x 2 (by decide)).trans ht), Gw.refl _, rfl⟩
theorem k11 (hs : a.tmps.size = 22) : StepK a Q bA bB f1 i1 s1 f2 i2 s2 11 := by
  intro o x w ho hA hB hd K hK
  refine wpK_of hK ?_
  obtain ⟨d10, m10, b10, on10⟩ := chk_depK (show chkK 11 10 by unfold chkK; kernel_rfl) ho
  have g10 := hd d10 m10 b10
  rw [on10] at g10
  have h : (opsK[11]?).map (fun o => (o.dst, o.op)) = some (some 16, .load 3 (.tmp 15)) := by kernel_rfl
  rw [ho] at h
  obtain ⟨dst, op, ty, p, af, gd⟩ := o
  simp only [Option.map_some, Option.some.injEq, Prod.mk.injEq] at h
  have q1 := h.1
  have q2 := h.2
  subst q1 q2
  exact ⟨_, _, ex_loadI _ _ _ bA 1 _ ((FK_eval hs x 10 15 rfl (by decide)).trans g10) (hA.cell 1), Gw.refl _, rfl⟩
theorem k12 (ht : a.eval (.tmp 3) = .pointer (some ⟨bB, 0, none⟩)) : StepK a Q bA bB f1 i1 s1 f2 i2 s2 12 := by
  intro o x w ho hA hB hd K hK
  refine wpK_of hK ?_
  have h : (opsK[12]?).map (fun o => (o.dst, o.op)) = some (some 17, .fieldAddr 45 (.tmp 3) 1) := by kernel_rfl
  rw [ho] at h
  obtain ⟨dst, op, ty, p, af, gd⟩ := o
  simp only [Option.map_some, Option.some.injEq, Prod.mk.injEq] at h
  have q1 := h.1
  have q2 := h.2
  subst q1 q2
  exact ⟨_, _, ex_field _ _ _ bB 1 (by decide) ((FK_other x 3 (by decide)).trans ht), Gw.refl _, rfl⟩
theorem k13 (hs : a.tmps.size = 22) : StepK a Q bA bB f1 i1 s1 f2 i2 s2 13 := by
  intro o x w ho hA hB hd K hK
  refine wpK_of hK ?_
  obtain ⟨d12, m12, b12, on12⟩ := chk_depK (show chkK 13 12 by unfold chkK; kernel_rfl) ho
  have g12 := hd d12 m12 b12
  rw [on12] at g12
  have h : (opsK[13]?).map (fun o => (o.dst, o.op)) = some (some 18, .load 3 (.tmp 17)) := by kernel_rfl
  rw [ho] at h
  obtain ⟨dst, op, ty, p, af, gd⟩ := o
  simp only [Option.map_some, Option.some.injEq, Prod.mk.injEq] at h
  have q1 := h.1
  have q2 := h.2
  subst q1 q2
  exact ⟨_, _, ex_loadI _ _ _ bB 1 _ ((FK_eval hs x 12 17 rfl (by decide)).trans g12) (hB.cell 1), Gw.refl _, rfl⟩
theorem k4 (hs : a.tmps.size = 22) : StepK a Q bA bB f1 i1 s1 f2 i2 s2 4 := by
  intro o x w ho hA hB hd K hK
  have key : (FK a x).eval (.tmp 6) = .int .i64 f1 ∧ (FK a x).eval (.tmp 8) = .int .i64 f2 := by
    obtain ⟨d1, m1, b1, on1⟩ := chk_depK (show chkK 4 1 by unfold chkK; kernel_rfl) ho
    have g1 := hd d1 m1 b1
    rw [on1] at g1
    obtain ⟨d3, m3, b3, on3⟩ := chk_depK (show chkK 4 3 by unfold chkK; kernel_rfl) ho
    have g3 := hd d3 m3 b3
    rw [on3] at g3
    exact ⟨(FK_eval hs x 1 6 rfl (by decide)).trans g1, (FK_eval hs x 3 8 rfl (by decide)).trans g3⟩
  have hq : o.op = Op.call ⟨.value (.func 32), #[.tmp 6, .tmp 8], #[3, 3]⟩ := by
    have h : (opsK[4]?).map (fun o => o.op) = some (Op.call ⟨.value (.func 32), #[.tmp 6, .tmp 8], #[3, 3]⟩) := by kernel_rfl
    rw [ho] at h
    exact Option.some.inj h
  have e1 := key.1
  have e2 := key.2
  have HK := Lib.hid hK
  clear hK key hd ho hA hB
  generalize hρ : (FK a x).eval = ρ at e1 e2
  have hf : ρ (.func 32) = .func (.func 32) #[] #[] := by rw [← hρ]; rfl
  unfold Oper.wp execOp
  rw [hρ]
  simp only [hq]
  go_simp
  refine (Try.cmp_Compare_int _ _ w).mono ?_
  rintro e w' ⟨rfl, rfl⟩
  exact HK.out _ _ (Gw.refl _) rfl
theorem k9 (hs : a.tmps.size = 22) : StepK a Q bA bB f1 i1 s1 f2 i2 s2 9 := by
  intro o x w ho hA hB hd K hK
  have key : (FK a x).eval (.tmp 11) = .int .i64 s2 ∧ (FK a x).eval (.tmp 13) = .int .i64 s1 := by
    obtain ⟨d6, m6, b6, on6⟩ := chk_depK (show chkK 9 6 by unfold chkK; kernel_rfl) ho
    have g6 := hd d6 m6 b6
    rw [on6] at g6
    obtain ⟨d8, m8, b8, on8⟩ := chk_depK (show chkK 9 8 by unfold chkK; kernel_rfl) ho
    have g8 := hd d8 m8 b8
    rw [on8] at g8
    exact ⟨(FK_eval hs x 6 11 rfl (by decide)).trans g6, (FK_eval hs x 8 13 rfl (by decide)).trans g8⟩
  have hq : o.op = Op.call ⟨.value (.func 32), #[.tmp 11, .tmp 13], #[3, 3]⟩ := by
    have h : (opsK[9]?).map (fun o => o.op) = some (Op.call ⟨.value (.func 32), #[.tmp 11, .tmp 13], #[3, 3]⟩) := by kernel_rfl
    rw [ho] at h
    exact Option.some.inj h
  have e1 := key.1
  have e2 := key.2
  have HK := Lib.hid hK
  clear hK key hd ho hA hB
  generalize hρ : (FK a x).eval = ρ at e1 e2
  have hf : ρ (.func 32) = .func (.func 32) #[] #[] := by rw [← hρ]; rfl
  unfold Oper.wp execOp
  rw [hρ]
  simp only [hq]
  go_simp
  refine (Try.cmp_Compare_int _ _ w).mono ?_
  rintro e w' ⟨rfl, rfl⟩
  exact HK.out _ _ (Gw.refl _) rfl
theorem k14 (hs : a.tmps.size = 22) : StepK a Q bA bB f1 i1 s1 f2 i2 s2 14 := by
  intro o x w ho hA hB hd K hK
  have key : (FK a x).eval (.tmp 16) = .int .i64 i1 ∧ (FK a x).eval (.tmp 18) = .int .i64 i2 := by
    obtain ⟨d11, m11, b11, on11⟩ := chk_depK (show chkK 14 11 by unfold chkK; kernel_rfl) ho
    have g11 := hd d11 m11 b11
    rw [on11] at g11
    obtain ⟨d13, m13, b13, on13⟩ := chk_depK (show chkK 14 13 by unfold chkK; kernel_rfl) ho
    have g13 := hd d13 m13 b13
    rw [on13] at g13
    exact ⟨(FK_eval hs x 11 16 rfl (by decide)).trans g11, (FK_eval hs x 13 18 rfl (by decide)).trans g13⟩
  have hq : o.op = Op.call ⟨.value (.func 32), #[.tmp 16, .tmp 18], #[3, 3]⟩ := by
    have h : (opsK[14]?).map (fun o => o.op) = some (Op.call ⟨.value (.func 32), #[.tmp 16, .tmp 18], #[3, 3]⟩) := by kernel_rfl
    rw [ho] at h
    exact Option.some.inj h
  have e1 := key.1
  have e2 := key.2
  have HK := Lib.hid hK
  clear hK key hd ho hA hB
  generalize hρ : (FK a x).eval = ρ at e1 e2
  have hf : ρ (.func 32) = .func (.func 32) #[] #[] := by rw [← hρ]; rfl
  unfold Oper.wp execOp
  rw [hρ]
  simp only [hq]
  go_simp
  refine (Try.cmp_Compare_int _ _ w).mono ?_
  rintro e w' ⟨rfl, rfl⟩
  exact HK.out _ _ (Gw.refl _) rfl
theorem k15 (hs : a.tmps.size = 22) : StepK a Q bA bB f1 i1 s1 f2 i2 s2 15 := by
  intro o x w ho hA hB hd K hK
  refine wpK_of hK ?_
  obtain ⟨d4, m4, b4, on4⟩ := chk_depK (show chkK 15 4 by unfold chkK; kernel_rfl) ho
  have g4 := hd d4 m4 b4
  rw [on4] at g4
  obtain ⟨d9, m9, b9, on9⟩ := chk_depK (show chkK 15 9 by unfold chkK; kernel_rfl) ho
  have g9 := hd d9 m9 b9
  rw [on9] at g9
  obtain ⟨d14, m14, b14, on14⟩ := chk_depK (show chkK 15 14 by unfold chkK; kernel_rfl) ho
  have g14 := hd d14 m14 b14
  rw [on14] at g14
  have h : (opsK[15]?).map (fun o => (o.dst, o.op)) = some (some 20, .buildSlice 31 3 #[(0, .tmp 9), (1, .tmp 14), (2, .tmp 19)]) := by kernel_rfl
  rw [ho] at h
  obtain ⟨dst, op, ty, p, af, gd⟩ := o
  simp only [Option.map_some, Option.some.injEq, Prod.mk.injEq] at h
  have q1 := h.1
  have q2 := h.2
  subst q1 q2
  have e1 := (FK_eval hs x 4 9 rfl (by decide)).trans g4
  have e2 := (FK_eval hs x 9 14 rfl (by decide)).trans g9
  have e3 := (FK_eval hs x 14 19 rfl (by decide)).trans g14
  refine ⟨_, _, ex_buildS _ _ _ 3 _ _ #[.int .i64 (cI f1 f2), .int .i64 (cI s2 s1), .int .i64 (cI i1 i2)] 1 (.int .i64 0) Try.underlying31 infoI2 (by decide) (by decide) ?_, Gw.alloc _ _, ⟨_, rfl, heap_alloc_new _ _⟩⟩
  simp only [List.map_toArray, List.map_cons, List.map_nil, e1, e2, e3]
  kernel_rfl
theorem k16 (hs : a.tmps.size = 22) : StepK a Q bA bB f1 i1 s1 f2 i2 s2 16 := by
  intro o x w ho hA hB hd K hK
  have key : ∃ g, (FK a x).eval (.tmp 20) = .slice (some ⟨g, 0, none⟩) 3 3 ∧ BkAt g 3 #[.int .i64 (cI f1 f2), .int .i64 (cI s2 s1), .int .i64 (cI i1 i2)] w := by
    obtain ⟨d15, m15, b15, on15⟩ := chk_depK (show chkK 16 15 by unfold chkK; kernel_rfl) ho
    have g15 := hd d15 m15 b15
    rw [on15] at g15
    obtain ⟨g, h1, h2⟩ := g15
    exact ⟨g, (FK_eval hs x 15 20 rfl (by decide)).trans h1, h2⟩
  obtain ⟨g, e1, hb⟩ := key
  have hq : o.op = Op.call ⟨.value (.func 31), #[.tmp 20], #[31]⟩ := by
    have h : (opsK[16]?).map (fun o => o.op) = some (Op.call ⟨.value (.func 31), #[.tmp 20], #[31]⟩) := by kernel_rfl
    rw [ho] at h
    exact Option.some.inj h
  have HK := Lib.hid hK
  have HB := Lib.hid hb
  clear hK hd ho hA hB hb
  generalize hρ : (FK a x).eval = ρ at e1
  have hf : ρ (.func 31) = .func (.func 31) #[] #[] := by rw [← hρ]; rfl
  unfold Oper.wp execOp
  rw [hρ]
  simp only [hq]
  go_simp
  refine (or_any g _ _ _ w HB.out).mono ?_
  rintro e w' ⟨rfl, rfl⟩
  exact HK.out _ _ (Gw.refl _) rfl
theorem k17 (hs : a.tmps.size = 22) : StepK a Q bA bB f1 i1 s1 f2 i2 s2 17 := by
  intro o x w ho hA hB hd K hK
  refine wpK_of hK ?_
  obtain ⟨d16, m16, b16, on16⟩ := chk_depK (show chkK 17 16 by unfold chkK; kernel_rfl) ho
  have g16 := hd d16 m16 b16
  rw [on16] at g16
  have h : (opsK[17]?).map (fun o => (o.dst, o.op)) = some (some 4, .assign (.tmp 21)) := by kernel_rfl
  rw [ho] at h
  obtain ⟨dst, op, ty, p, af, gd⟩ := o
  simp only [Option.map_some, Option.some.injEq, Prod.mk.injEq] at h
  have q1 := h.1
  have q2 := h.2
  subst q1 q2
  exact ⟨_, _, ex_assign _ _ _ _ ((FK_eval hs x 16 21 rfl (by decide)).trans g16), Gw.refl _, rfl⟩
theorem rep0K (k : Nat) : (Array.replicate 18 false).getD k false = false := by
  rw [Array.getD_eq_getD_getElem?, Array.getElem?_replicate]
  split <;> rfl
def xK (a : Act) (j : Nat) : Value := match dsK[j]? with
  | some (some t) => a.tmps.getD t undef
  | _ => undef
theorem FK_x (hs : a.tmps.size = 22) : FK a (xK a) = a := chain_self (xK a) dsK 0 a (fun j t hj => by
  have h1 : (dsK.all fun e => e.all (· < 22)) = true := by decide
  have h2 := List.all_eq_true.1 h1 (some t) (List.mem_of_getElem? hj)
  refine ⟨by rw [hs]; simpa using h2, ?_⟩
  unfold xK
  rw [Nat.zero_add, hj])
theorem regK {id : Nat} {ops : Array Oper} (hops : ops = opsK) (hs : a.tmps.size = 22) (h2 : a.eval (.tmp 2) = .pointer (some ⟨bA, 0, none⟩)) (h3 : a.eval (.tmp 3) = .pointer (some ⟨bB, 0, none⟩)) (w : World) (hA : BkAt bA 45 (SeenA f1 i1 s1) w) (hB : BkAt bB 45 (SeenA f2 i2 s2) w)
    (hQ : ∀ x w1, x 17 = .int .i64 (resK f1 i1 s1 f2 i2 s2) → Gw w w1 → Q .normal (FK a x) w1) : (Code.region id ops true).wp Try.prog Q a w := by
  subst hops
  refine wp_region_any (by kernel_rfl) ?_
  rw [opsK_size]
  have hst := wpAny_stage (P := Try.prog) (md := .any) (Q := Q) (FK a) (phiK bA bB f1 i1 s1 f2 i2 s2) Gw w.drew (fun _ => False) (fun _ => False) 18 opsK_size guard_ofK top_ofK (fun a b c h k => h.trans k) (fun j v w w' k h => phiK_keep j v w w' k h) (fun x j o v ho => FK_put a x j o v ho)
    (fun j o x w' ho _ _ hR hd K hK => by
      have hA' : BkAt bA 45 (SeenA f1 i1 s1) w' := BkAt.below (w := w.drew) hA hR.below
      have hB' : BkAt bB 45 (SeenA f2 i2 s2) w' := BkAt.below (w := w.drew) hB hR.below
      have hlt : j < 18 := by
        have := (Array.getElem?_eq_some_iff.1 ho).1
        rwa [opsK_size] at this
      exact (show StepK a Q bA bB f1 i1 s1 f2 i2 s2 j from match j, hlt with
        | 0, _ => k0 h2 | 1, _ => k1 hs | 2, _ => k2 h3 | 3, _ => k3 hs | 4, _ => k4 hs | 5, _ => k5 h3 | 6, _ => k6 hs | 7, _ => k7 h2 | 8, _ => k8 hs | 9, _ => k9 hs | 10, _ => k10 h2 | 11, _ => k11 hs | 12, _ => k12 h3 | 13, _ => k13 hs | 14, _ => k14 hs | 15, _ => k15 hs | 16, _ => k16 hs | 17, _ => k17 hs
        | j + 18, h => absurd h (by omega)) o x w' ho hA' hB' hd K hK)
    (fun j o fuel L x w' _ hj => hj.elim)
    (fun x w1 hR hφ => hQ x w1 (hφ 17 (by decide)) ((Gw.drew w).trans hR))
    18 (Array.replicate 18 false) (xK a) w.drew (by simp) (fun k o ho hL => by rw [rep0K] at hL; cases hL) (fun k hk => hk.elim) (Gw.refl _) (fun k hk hL => by rw [rep0K] at hL; cases hL) (by decide)
  rwa [FK_x hs] at hst
end
set_option maxHeartbeats 2000000 in
theorem compare_any (f1 i1 s1 f2 i2 s2 : Int) (w : World) : Calls Try.prog 19 #[.agg (SeenA f1 i1 s1), .agg (SeenA f2 i2 s2)] w fun e w' => e = .returned (.int .i64 (resK f1 i1 s1 f2 i2 s2)) ∧ Gw w w' := by
  unfold SeenA
  have hb1 := below_new w (.cells (SeenA f1 i1 s1) 45)
  have hk1 := BkAt.new 45 (SeenA f1 i1 s1) w
  have hb2 := below_new (w.alloc (.cells (SeenA f1 i1 s1) 45)) (.cells (SeenA f2 i2 s2) 45)
  have hk2 := BkAt.new 45 (SeenA f2 i2 s2) (w.alloc (.cells (SeenA f1 i1 s1) 45))
  have hz : (w.alloc (.cells (SeenA f1 i1 s1) 45)).heap.size = w.heap.size + 1 := by simp
  rw [hz] at hk2
  have H := Lib.hid (And.intro (hk1.below hb2) (And.intro hk2 ((Gw.alloc w (.cells (SeenA f1 i1 s1) 45)).trans (Gw.alloc _ (.cells (SeenA f2 i2 s2) 45)))))
  clear hb1 hk1 hb2 hk2 hz
  unfold SeenA at H
  go_enter Try.func19, Try.ntmps19
  go_upto_region 1 with (fail)
  refine regK (bA := w.heap.size) (bB := w.heap.size + 1) (f1 := f1) (i1 := i1) (s1 := s1) (f2 := f2) (i2 := i2) (s2 := s2) (by kernel_rfl) rfl rfl rfl _ H.out.1 H.out.2.1 (fun x w1 e17 hb => ?_)
  have HZ := Lib.hid (H.out.2.2.trans hb)
  clear hb
  simp only [FK, chainA, dsK, Act.put, e17]
  go_simp
  go_wp2
  go_ret
  exact ⟨rfl, HZ.out⟩
end Go.Proofs.Ytbpboghjgbgjfaa
