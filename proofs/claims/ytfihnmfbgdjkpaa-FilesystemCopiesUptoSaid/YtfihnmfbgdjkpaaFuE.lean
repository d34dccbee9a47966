/- FilesystemCopies: the region that makes the changes and calls Run: Run, and what follows. -/
import Derived.Test.YtfihnmfbgdjkpaaFuD
import Derived.Test.YtfihnmfbgdjkpaaRnA
namespace Go.Proofs.Ytfihnmfbgdjkpaa
open Go.RowKit

def chk (k e : Nat) : Prop := (opsC[k]?.map fun o => o.after.toList.any fun d => d.on == e && Region.binds .any d) = some true
theorem chk_dep {k e : Nat} {o : Oper} (h : chk k e) (ho : opsC[k]? = some o) : ∃ d ∈ o.after, Region.binds .any d = true ∧ d.on = e := by
  unfold chk at h
  rw [ho] at h
  have hm2 : (o.after.toList.any fun d => d.on == e && Region.binds .any d) = true := by simpa using h
  obtain ⟨d, h1, h2⟩ := List.any_eq_true.1 hm2
  obtain ⟨h3, h4⟩ := Bool.and_eq_true_iff.1 h2
  exact ⟨d, by simpa using h1, h4, by simpa using h3⟩
theorem ops_some {k : Nat} (h : k < 25) : ∃ o, opsC[k]? = some o := ⟨_, Array.getElem?_eq_getElem (by rw [opsC_size]; exact h)⟩
theorem cl_of {L : Array Bool} (hcl : ClosedL .any opsC L) {k e : Nat} (hk : k < 25) (hL : L.getD k false = true) (h : chk k e) : L.getD e false = true := by
  obtain ⟨o, ho⟩ := ops_some hk
  obtain ⟨d, h1, h2, rfl⟩ := chk_dep h ho
  exact hcl k o ho hL d h1 h2
theorem lt_of {j : Nat} {o : Oper} (ho : opsC[j]? = some o) : j < 25 := by
  have := (Array.getElem?_eq_some_iff.1 ho).1
  rwa [opsC_size] at this
theorem wp_of {a : Act} {Q : Exit → Act → World → Prop} {o : Oper} {w : World} {K : Act → World → Prop} {R : World → World → Prop} {φ : Value → World → Prop} (hK : ∀ v w', R w w' → φ v w' → K (a.put o.dst v) w')
    (h : ∃ v w', (execOp a.eval o).run Try.prog w = .ok (.value v) w' ∧ R w w' ∧ φ v w') : o.wp Try.prog a w K Q := by
  obtain ⟨v, w', h1, h2, h3⟩ := h
  exact wp_run h1 (hK v w' h2 h3)
section
variable {Q : Exit → Act → World → Prop} {a : Act}
def phi3 (T E P : Value) : Nat → Value → Prop
  | 19, v => v = T
  | 21, v => v = E
  | 22, v => v = P
  | 24, v => v = E
  | _, _ => True
def B3 (k : Nat) : Prop := k < 25 ∧ k ≠ 21 ∧ k ≠ 24
variable {nv fv ov E P : Value}
theorem t21 (hs : a.tmps.size = 171) : ∀ o x w, opsC[21]? = some o → (∀ e ∈ o.after, Region.binds .any e = true → (fun j v _ => phi3 (.tuple #[.agg #[nv, fv, ov], E]) E P j v) e.on (x e.on) w) → ∀ K : Act → World → Prop, (∀ v w', (fun (a b : World) => a = b) w w' → (fun j v _ => phi3 (.tuple #[.agg #[nv, fv, ov], E]) E P j v) 21 v w' → K ((FC a x).put o.dst v) w') → o.wp Try.prog (FC a x) w K Q := by
  intro o x w ho hd K hK
  refine wp_of hK ?_
  obtain ⟨d19, m19, b19, on19⟩ := chk_dep (show chk 21 19 by unfold chk; kernel_rfl) ho
  have f19 := hd d19 m19 b19
  rw [on19] at f19
  have h : (opsC[21]?).map (fun o => (o.dst, o.op)) = some (some 48, .extract (.tmp 27) 1) := by kernel_rfl
  rw [ho] at h
  obtain ⟨dst, op, ty, p, af, gd⟩ := o
  simp only [Option.map_some, Option.some.injEq, Prod.mk.injEq] at h
  have q1 := h.1
  have q2 := h.2
  subst q1 q2
  exact ⟨_, _, ex_extract _ _ _ _ 1 _ ((FC_eval hs x 19 27 rfl (by decide)).trans f19) rfl, rfl, rfl⟩
theorem t24 (hs : a.tmps.size = 171) : ∀ o x w, opsC[24]? = some o → (∀ e ∈ o.after, Region.binds .any e = true → (fun j v _ => phi3 (.tuple #[.agg #[nv, fv, ov], E]) E P j v) e.on (x e.on) w) → ∀ K : Act → World → Prop, (∀ v w', (fun (a b : World) => a = b) w w' → (fun j v _ => phi3 (.tuple #[.agg #[nv, fv, ov], E]) E P j v) 24 v w' → K ((FC a x).put o.dst v) w') → o.wp Try.prog (FC a x) w K Q := by
  intro o x w ho hd K hK
  refine wp_of hK ?_
  obtain ⟨d21, m21, b21, on21⟩ := chk_dep (show chk 24 21 by unfold chk; kernel_rfl) ho
  have f21 := hd d21 m21 b21
  rw [on21] at f21
  have h : (opsC[24]?).map (fun o => (o.dst, o.op)) = some (some 9, .assign (.tmp 48)) := by kernel_rfl
  rw [ho] at h
  obtain ⟨dst, op, ty, p, af, gd⟩ := o
  simp only [Option.map_some, Option.some.injEq, Prod.mk.injEq] at h
  have q1 := h.1
  have q2 := h.2
  subst q1 q2
  exact ⟨_, _, ex_assign _ _ _ _ ((FC_eval hs x 21 48 rfl (by decide)).trans f21), rfl, rfl⟩
theorem phi3_triv {j : Nat} (v : Value) (h : j ≠ 19 ∧ j ≠ 21 ∧ j ≠ 22 ∧ j ≠ 24) (T E P : Value) : phi3 T E P j v := by
  obtain ⟨h1, h2, h3, h4⟩ := h
  unfold phi3
  split <;> first | trivial | (exact absurd rfl h1) | (exact absurd rfl h2) | (exact absurd rfl h3) | (exact absurd rfl h4)
theorem stage3 (hs : a.tmps.size = 171) (w0 : World) (hQ : ∀ x, x 22 = P → x 24 = E → Q .normal (FC a x) w0) (fuel : Nat) (L : Array Bool) (x : Nat → Value) (hsz : L.size = 25) (hcl : ClosedL .any opsC L) (hB : ∀ k, B3 k → L.getD k false = true)
    (hφ : ∀ k, k < 25 → L.getD k false = true → phi3 (.tuple #[.agg #[nv, fv, ov], E]) E P k (x k)) (hc : cntF 25 L ≤ fuel) : wpAny Try.prog .any opsC Q fuel L (FC a x) w0 := by
  refine wpAny_stage (FC a) (fun j v _ => phi3 (.tuple #[.agg #[nv, fv, ov], E]) E P j v) (fun a b => a = b) w0 B3 (fun _ => False) 25 opsC_size guard_of top_of (fun a b c h k => h.trans k) (fun j v w w' _ h => h) (fun x j o v ho => FC_put a x j o v ho)
    (fun j o x w ho hnB _ hR hd K hK => ?_) (fun j o fuel L x w ho hj => hj.elim) (fun x w hR hφ => ?_) fuel L x w0 hsz hcl hB rfl hφ hc
  · have hlt := lt_of ho
    by_cases h1 : j = 21
    · subst h1; exact t21 hs o x w ho hd K hK
    · by_cases h2 : j = 24
      · subst h2; exact t24 hs o x w ho hd K hK
      · exact absurd ⟨hlt, h1, h2⟩ hnB
  · subst hR
    exact hQ x (hφ 22 (by decide)) (hφ 24 (by decide))
def phi2 (B0 : Nat) (T A E : Value) : Nat → Value → World → Prop
  | 18, v, _ => v = T
  | 19, v, _ => v = T
  | 20, v, _ => v = A
  | 21, v, _ => v = E
  | 22, v, w => ∃ g, B0 ≤ g ∧ v = .pointer (some ⟨g, 0, none⟩) ∧ BkAt g 31 #[nilS, nilS, nilS] w
  | 23, _, _ => False
  | 24, _, _ => False
  | _, _, _ => True
theorem phi2_keep (B0 : Nat) (T A E : Value) (j : Nat) (v : Value) (w w' : World) (k : Below w.heap.size w w') (h : phi2 B0 T A E j v w) : phi2 B0 T A E j v w' := by
  by_cases hj : j = 22
  · subst hj
    obtain ⟨g, h1, h2, h3⟩ := h
    exact ⟨g, h1, h2, h3.below k⟩
  · revert h
    unfold phi2
    split <;> first | exact id | exact absurd rfl hj
theorem phi2_triv {j : Nat} (hj : j < 18) (B0 : Nat) (T A E v : Value) (w : World) : phi2 B0 T A E j v w := by
  unfold phi2
  split <;> first | trivial | omega
variable {B0 : Nat}
theorem u19 (hs : a.tmps.size = 171) : ∀ o x w, opsC[19]? = some o → (∀ e ∈ o.after, Region.binds .any e = true → (phi2 B0 (.tuple #[.agg #[nv, fv, ov], E]) (.agg #[nv, fv, ov]) E) e.on (x e.on) w) → ∀ K : Act → World → Prop, (∀ v w', (fun (a b : World) => Below a.heap.size a b) w w' → (phi2 B0 (.tuple #[.agg #[nv, fv, ov], E]) (.agg #[nv, fv, ov]) E) 19 v w' → K ((FC a x).put o.dst v) w') → o.wp Try.prog (FC a x) w K Q := by
  intro o x w ho hd K hK
  refine wp_of hK ?_
  obtain ⟨d18, m18, b18, on18⟩ := chk_dep (show chk 19 18 by unfold chk; kernel_rfl) ho
  have f18 := hd d18 m18 b18
  rw [on18] at f18
  have h : (opsC[19]?).map (fun o => (o.dst, o.op)) = some (some 27, .move (.tmp 46)) := by kernel_rfl
  rw [ho] at h
  obtain ⟨dst, op, ty, p, af, gd⟩ := o
  simp only [Option.map_some, Option.some.injEq, Prod.mk.injEq] at h
  have q1 := h.1
  have q2 := h.2
  subst q1 q2
  exact ⟨_, _, ex_move _ _ _ _ ((FC_eval hs x 18 46 rfl (by decide)).trans f18), Below.refl _ _, rfl⟩
theorem u20 (hs : a.tmps.size = 171) : ∀ o x w, opsC[20]? = some o → (∀ e ∈ o.after, Region.binds .any e = true → (phi2 B0 (.tuple #[.agg #[nv, fv, ov], E]) (.agg #[nv, fv, ov]) E) e.on (x e.on) w) → ∀ K : Act → World → Prop, (∀ v w', (fun (a b : World) => Below a.heap.size a b) w w' → (phi2 B0 (.tuple #[.agg #[nv, fv, ov], E]) (.agg #[nv, fv, ov]) E) 20 v w' → K ((FC a x).put o.dst v) w') → o.wp Try.prog (FC a x) w K Q := by
  intro o x w ho hd K hK
  refine wp_of hK ?_
  obtain ⟨d19, m19, b19, on19⟩ := chk_dep (show chk 20 19 by unfold chk; kernel_rfl) ho
  have f19 := hd d19 m19 b19
  rw [on19] at f19
  have h : (opsC[20]?).map (fun o => (o.dst, o.op)) = some (some 47, .extract (.tmp 27) 0) := by kernel_rfl
  rw [ho] at h
  obtain ⟨dst, op, ty, p, af, gd⟩ := o
  simp only [Option.map_some, Option.some.injEq, Prod.mk.injEq] at h
  have q1 := h.1
  have q2 := h.2
  subst q1 q2
  exact ⟨_, _, ex_extract _ _ _ _ 0 _ ((FC_eval hs x 19 27 rfl (by decide)).trans f19) rfl, Below.refl _ _, rfl⟩
theorem u21 (hs : a.tmps.size = 171) : ∀ o x w, opsC[21]? = some o → (∀ e ∈ o.after, Region.binds .any e = true → (phi2 B0 (.tuple #[.agg #[nv, fv, ov], E]) (.agg #[nv, fv, ov]) E) e.on (x e.on) w) → ∀ K : Act → World → Prop, (∀ v w', (fun (a b : World) => Below a.heap.size a b) w w' → (phi2 B0 (.tuple #[.agg #[nv, fv, ov], E]) (.agg #[nv, fv, ov]) E) 21 v w' → K ((FC a x).put o.dst v) w') → o.wp Try.prog (FC a x) w K Q := by
  intro o x w ho hd K hK
  refine wp_of hK ?_
  obtain ⟨d19, m19, b19, on19⟩ := chk_dep (show chk 21 19 by unfold chk; kernel_rfl) ho
  have f19 := hd d19 m19 b19
  rw [on19] at f19
  have h : (opsC[21]?).map (fun o => (o.dst, o.op)) = some (some 48, .extract (.tmp 27) 1) := by kernel_rfl
  rw [ho] at h
  obtain ⟨dst, op, ty, p, af, gd⟩ := o
  simp only [Option.map_some, Option.some.injEq, Prod.mk.injEq] at h
  have q1 := h.1
  have q2 := h.2
  subst q1 q2
  exact ⟨_, _, ex_extract _ _ _ _ 1 _ ((FC_eval hs x 19 27 rfl (by decide)).trans f19) rfl, Below.refl _ _, rfl⟩
theorem u22 (w0 : World) (hB : B0 ≤ w0.heap.size) : ∀ o x w, opsC[22]? = some o → Below w0.heap.size w0 w → (∀ e ∈ o.after, Region.binds .any e = true → (phi2 B0 (.tuple #[.agg #[nv, fv, ov], E]) (.agg #[nv, fv, ov]) E) e.on (x e.on) w) → ∀ K : Act → World → Prop, (∀ v w', (fun (a b : World) => Below a.heap.size a b) w w' → (phi2 B0 (.tuple #[.agg #[nv, fv, ov], E]) (.agg #[nv, fv, ov]) E) 22 v w' → K ((FC a x).put o.dst v) w') → o.wp Try.prog (FC a x) w K Q := by
  intro o x w ho hR hd K hK
  refine wp_of hK ?_
  have h : (opsC[22]?).map (fun o => (o.dst, o.op)) = some (some 8, .alloc 31) := by kernel_rfl
  rw [ho] at h
  obtain ⟨dst, op, ty, p, af, gd⟩ := o
  simp only [Option.map_some, Option.some.injEq, Prod.mk.injEq] at h
  have q1 := h.1
  have q2 := h.2
  subst q1 q2
  exact ⟨_, _, ex_alloc _ _, below_new _ _, ⟨_, Nat.le_trans hB hR.size, rfl, heap_alloc_new _ _⟩⟩
theorem stage2 (hs : a.tmps.size = 171) (w0 : World) (hB0 : B0 ≤ w0.heap.size) (na fa oa : Option Addr) (nm nc fm fc om oc : Nat) (hnv : nv = .slice na nm nc) (hfv : fv = .slice fa fm fc) (hov : ov = .slice oa om oc)
    (hQ : ∀ x g w1, x 22 = .pointer (some ⟨g, 0, none⟩) → x 24 = E → B0 ≤ g → Below w0.heap.size w0 w1 → BkAt g 31 #[nilS, nilS, nilS] w1 → Q .normal (FC a x) (w1.setCells g 0 [nv, fv, ov])) (fuel : Nat) (L : Array Bool) (x : Nat → Value) (hsz : L.size = 25) (hcl : ClosedL .any opsC L) (hB : ∀ k, k ≤ 18 → L.getD k false = true)
    (hφ : ∀ k, k < 25 → L.getD k false = true → phi2 B0 (.tuple #[.agg #[nv, fv, ov], E]) (.agg #[nv, fv, ov]) E k (x k) w0) (hc : cntF 25 L ≤ fuel) : wpAny Try.prog .any opsC Q fuel L (FC a x) w0 := by
  refine wpAny_stage (FC a) (phi2 B0 (.tuple #[.agg #[nv, fv, ov], E]) (.agg #[nv, fv, ov]) E) (fun a b => Below a.heap.size a b) w0 (fun k => k ≤ 18) (fun k => k = 23) 25 opsC_size guard_of top_of (fun a b c h k => bl_trans' h k) (fun j v w w' k h => phi2_keep _ _ _ _ j v w w' k h) (fun x j o v ho => FC_put a x j o v ho)
    (fun j o x w ho hnB hj hR hd K hK => ?_) (fun j o fuel L x w ho hj hsz hcl hLj hB hR hd hφ hc => ?_) (fun x w hR hφ => (hφ 23 (by decide)).elim) fuel L x w0 hsz hcl hB (Below.refl _ _) hφ hc
  · have hlt := lt_of ho
    have hcs : j = 19 ∨ j = 20 ∨ j = 21 ∨ j = 22 ∨ j = 24 := by
      have h1 : ¬ j ≤ 18 := hnB
      have h2 : ¬ j = 23 := hj
      omega
    rcases hcs with h1 | h1 | h1 | h1 | h1
    · subst h1; exact u19 hs o x w ho hd K hK
    · subst h1; exact u20 hs o x w ho hd K hK
    · subst h1; exact u21 hs o x w ho hd K hK
    · subst h1; exact u22 w0 hB0 o x w ho hR hd K hK
    · subst h1
      obtain ⟨d, m, b, on⟩ := chk_dep (show chk 24 23 by unfold chk; kernel_rfl) ho
      have := hd d m b
      rw [on] at this
      exact this.elim
  · have hj : j = 23 := hj
    subst hj
    obtain ⟨dA, mA, bA, onA⟩ := chk_dep (show chk 23 22 by unfold chk; kernel_rfl) ho
    have f22 := hd dA mA bA
    rw [onA] at f22
    obtain ⟨dB, mB, bB, onB⟩ := chk_dep (show chk 23 20 by unfold chk; kernel_rfl) ho
    have f20 := hd dB mB bB
    rw [onB] at f20
    obtain ⟨g, hg1, hg2, hg3⟩ := f22
    have hst : (execOp (FC a x).eval o).run Try.prog w = .ok .skip (w.setCells g 0 [nv, fv, ov]) ∧ o.dst = none := by
      have h : (opsC[23]?).map (fun o => (o.dst, o.op)) = some (none, .store 31 (.tmp 8) (.tmp 47)) := by kernel_rfl
      rw [ho] at h
      obtain ⟨dst, op, ty, p, af, gd⟩ := o
      simp only [Option.map_some, Option.some.injEq, Prod.mk.injEq] at h
      have q1 := h.1
      have q2 := h.2
      subst q1 q2
      refine ⟨ex_store _ _ _ _ g #[nv, fv, ov] ((FC_eval hs x 22 8 rfl (by decide)).trans hg2) ((FC_eval hs x 20 47 rfl (by decide)).trans f20) rfl (by subst hnv hfv hov; simp [Value.oneCell']) (fun j hj => ?_), rfl⟩
      have hj3 : j < 3 := hj
      rw [Nat.zero_add]
      refine ⟨?_, hg3.free j⟩
      rw [hg3.cell j]
      have h3 : j = 0 ∨ j = 1 ∨ j = 2 := by omega
      rcases h3 with h | h | h <;> (subst h; rfl)
    refine wp_skip' hst.1 ?_
    have hp : ∀ b : Act, b.put none undef = b := fun _ => rfl
    rw [hst.2, hp]
    refine stage3 (a := a) (nv := nv) (fv := fv) (ov := ov) (E := E) (P := .pointer (some ⟨g, 0, none⟩)) hs _ (fun x' h1 h2 => hQ x' g w h1 h2 hg1 hR hg3) fuel L x hsz hcl (fun k hk => ?_) (fun k hk hL => ?_) hc
    · obtain ⟨hk1, hk2, hk3⟩ := hk
      by_cases h18 : k ≤ 18
      · exact hB k h18
      · have hcs : k = 19 ∨ k = 20 ∨ k = 22 ∨ k = 23 := by omega
        rcases hcs with h | h | h | h
        · subst h; exact cl_of hcl (by decide) hLj (by unfold chk; kernel_rfl)
        · subst h; exact cl_of hcl (by decide) hLj (by unfold chk; kernel_rfl)
        · subst h; exact cl_of hcl (by decide) hLj (by unfold chk; kernel_rfl)
        · subst h; exact hLj
    · by_cases h1 : k = 19 ∨ k = 21 ∨ k = 22 ∨ k = 24
      · rcases h1 with h | h | h | h
        · subst h; exact hφ 19 hk (by decide) hL
        · subst h; exact hφ 21 hk (by decide) hL
        · subst h; exact hg2
        · subst h; exact (hφ 24 hk (by decide) hL).elim
      · exact phi3_triv _ (by omega) _ _ _
end
end Go.Proofs.Ytfihnmfbgdjkpaa
