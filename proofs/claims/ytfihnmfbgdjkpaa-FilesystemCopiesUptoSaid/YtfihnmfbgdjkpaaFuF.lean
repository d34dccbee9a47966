/- FilesystemCopies: the region that makes the changes and calls Run, as a whole. -/
import Derived.Test.YtfihnmfbgdjkpaaFuE
namespace Go.Proofs.Ytfihnmfbgdjkpaa
open Go.RowKit

/-- What Run leaves. -/
def CopW (l : List UInt8) (dV nv fv ov : Value) (eb : Nat) (W : World) : Prop := ∃ N3 F dv k j, FsAt N3 (F false (l.length : Int)) [] nv fv ov W ∧ DtR W dv l ∧ CopF N3 F dv k j ∧ KB W dV l ∧ BkAt eb 39 (errA (fun _ => 0) 3 3) W
theorem CopW.keep {l : List UInt8} {dV nv fv ov : Value} {eb : Nat} {W W' : World} (h : CopW l dV nv fv ov eb W) (k : Below W.heap.size W W') : CopW l dV nv fv ov eb W' := by
  obtain ⟨N3, F, dv, i, j, h1, h2, h3, h4, h5⟩ := h
  exact ⟨N3, F, dv, i, j, h1.below k, row_below h2 k, h3, h4.below k, h5.below k⟩
theorem phi1_dead {j : Nat} (B0 : Nat) (dV : Value) (q : Int) (m : Nat) (v : Value) (w : World) (h : j = 19 ∨ j = 20 ∨ j = 21 ∨ j = 23 ∨ j = 24) : ¬ phi1 B0 dV q m j v w := by
  rcases h with h | h | h | h | h <;> (subst h; exact id)
section
variable {Q : Exit → Act → World → Prop} {a : Act} {B0 : Nat} {dV : Value} {q : Int} {m dg dn dc : Nat} {l : List UInt8}
set_option maxRecDepth 100000
theorem run_C (W : World) (u : Value) (lx : List UInt8) (lb : Nat) (h0 : 0 < l.length) (hl : l.length + lx.length ≤ 60000) (hk : KB W dV l) (hx : KB W u lx) (hb : BkAt lb 37 (row3 dV (third u m).C) W) :
    Calls Try.prog 12 #[.agg #[nilS, nilS, nilS], .slice (some ⟨lb, 0, none⟩) 3 3] W (RunOut 3 (fun _ => 0) (StC (third u m).N dV l u lx) W) :=
  run_any 3 (CC dV (third u m).C) (fun _ => 0) _ (hist_copy m dV l u lx h0 hl) lb _ _ _ W ⟨⟨[], rfl, fs_empty W⟩, hk, hx, rfl⟩ (by decide) hb.lt (fun i hi => by
    have h2 : i = 0 ∨ i = 1 ∨ i = 2 := (by omega)
    rcases h2 with rfl | rfl | rfl
    · exact ⟨hb.cell 0, hb.cell 1, hb.cell 2, hb.cell 3, hb.cell 4⟩
    · exact ⟨hb.cell 5, hb.cell 6, hb.cell 7, hb.cell 8, hb.cell 9⟩
    · exact ⟨hb.cell 10, hb.cell 11, hb.cell 12, hb.cell 13, hb.cell 14⟩) (fun i hi => by
    have h2 : i = 0 ∨ i = 1 ∨ i = 2 := (by omega)
    rcases h2 with rfl | rfl | rfl
    · exact hk.slice
    · exact ⟨_, _, _, rfl⟩
    · match m with
      | 0 => exact ⟨_, _, _, rfl⟩
      | 1 => exact hx.slice
      | 2 => exact ⟨_, _, _, rfl⟩
      | _ + 3 => exact hx.slice)
theorem jump18 (hs : a.tmps.size = 171) {x : Nat → Value} {w : World} {o : Oper} (ho : opsC[18]? = some o) (h0 : 0 < l.length) (hl : l.length + 5 ≤ 60000) (hk : KB w dV l) (hd : ∀ e ∈ o.after, Region.binds .any e = true → phi1 B0 dV q m e.on (x e.on) w)
    {K : Act → World → Prop} (hK : ∀ nv fv ov eb w', CopW l dV nv fv ov eb w' → Below w.heap.size w w' → K ((FC a x).put (some 46) (.tuple #[.agg #[nv, fv, ov], .slice (some ⟨eb, 0, none⟩) 3 3])) w') : o.wp Try.prog (FC a x) w K Q := by
  have key : ∃ g u lx, (FC a x).eval (.tmp 28) = .agg #[nilS, nilS, nilS] ∧ (FC a x).eval (.tmp 45) = .slice (some ⟨g, 0, none⟩) 3 3 ∧ KB w u lx ∧ lx.length ≤ 5 ∧ BkAt g 37 (row3 dV (third u m).C) w := by
    obtain ⟨dA, mA, bA, onA⟩ := chk_dep (show chk 18 0 by unfold chk; kernel_rfl) ho
    have f0 := hd dA mA bA
    rw [onA] at f0
    obtain ⟨dB, mB, bB, onB⟩ := chk_dep (show chk 18 17 by unfold chk; kernel_rfl) ho
    have f17 := hd dB mB bB
    rw [onB] at f17
    obtain ⟨g, u, lx, h1, h2, h3, h4⟩ := f17
    exact ⟨g, u, lx, (FC_eval hs x 0 28 rfl (by decide)).trans f0, (FC_eval hs x 17 45 rfl (by decide)).trans h3, h1, h2, h4⟩
  obtain ⟨g, u, lx, e0, e17, hx, hlx, hb⟩ := key
  have hrun := run_C (m := m) w u lx g h0 (by omega) hk hx hb
  have h : (opsC[18]?).map (fun o => (o.dst, o.op)) = some (some 46, .call ⟨.value (.func 12), #[.tmp 28, .tmp 45], #[31, 38]⟩) := by kernel_rfl
  rw [ho] at h
  have hK2 := Lib.hid hK
  have hR2 := Lib.hid hrun
  clear hK hrun hd hk hx hb ho
  generalize hρ : (FC a x).eval = ρ at e0 e17
  unfold Oper.wp execOp
  rw [hρ]
  have h' : some (o.dst, o.op) = some (some 46, Op.call ⟨.value (.func 12), #[.tmp 28, .tmp 45], #[31, 38]⟩) := h
  injection h' with h'
  injection h' with q1 q2
  have hc : ∀ v, ρ (.const v) = v := fun v => by rw [← hρ]; rfl
  have hf : ρ (.func 12) = .func (.func 12) #[] #[] := by rw [← hρ]; rfl
  simp only [q2]
  go_simp
  refine hR2.out.mono ?_
  rintro e w' ⟨nv, fv, ov, eb, rfl, ⟨⟨fs, ⟨F, dv, k, j, rfl, h3, h4⟩, h5⟩, h6, -, -⟩, hbe, hbl⟩
  exact hK2.out nv fv ov eb w' ⟨(third u m).N, F, dv, k, j, h5, h3, h4, h6, hbe⟩ hbl
def x0 (a : Act) (j : Nat) : Value := match dsL[j]? with
  | some (some t) => a.tmps.getD t undef
  | _ => undef
theorem FC_x0 (hs : a.tmps.size = 171) : FC a (x0 a) = a := chain_self (x0 a) dsL 0 a (fun j t hj => by
  have h1 : (dsL.all fun e => e.all (· < 171)) = true := by decide
  have h2 := List.all_eq_true.1 h1 (some t) (List.mem_of_getElem? hj)
  refine ⟨by rw [hs]; simpa using h2, ?_⟩
  unfold x0
  rw [Nat.zero_add, hj])
theorem B18 {L : Array Bool} (hcl : ClosedL .any opsC L) (h18 : L.getD 18 false = true) : ∀ k, k ≤ 18 → L.getD k false = true := by
  have h0 := cl_of hcl (k := 18) (e := 0) (by decide) h18 (by unfold chk; kernel_rfl)
  have h17 := cl_of hcl (k := 18) (e := 17) (by decide) h18 (by unfold chk; kernel_rfl)
  have h2 := cl_of hcl (k := 17) (e := 2) (by decide) h17 (by unfold chk; kernel_rfl)
  have h3 := cl_of hcl (k := 17) (e := 3) (by decide) h17 (by unfold chk; kernel_rfl)
  have h16 := cl_of hcl (k := 17) (e := 16) (by decide) h17 (by unfold chk; kernel_rfl)
  have h1 := cl_of hcl (k := 2) (e := 1) (by decide) h2 (by unfold chk; kernel_rfl)
  have h15 := cl_of hcl (k := 16) (e := 15) (by decide) h16 (by unfold chk; kernel_rfl)
  have h12 := cl_of hcl (k := 15) (e := 12) (by decide) h15 (by unfold chk; kernel_rfl)
  have h14 := cl_of hcl (k := 15) (e := 14) (by decide) h15 (by unfold chk; kernel_rfl)
  have h13 := cl_of hcl (k := 14) (e := 13) (by decide) h14 (by unfold chk; kernel_rfl)
  have h4 := cl_of hcl (k := 12) (e := 4) (by decide) h12 (by unfold chk; kernel_rfl)
  have h7 := cl_of hcl (k := 12) (e := 7) (by decide) h12 (by unfold chk; kernel_rfl)
  have h8 := cl_of hcl (k := 12) (e := 8) (by decide) h12 (by unfold chk; kernel_rfl)
  have h11 := cl_of hcl (k := 12) (e := 11) (by decide) h12 (by unfold chk; kernel_rfl)
  have h6 := cl_of hcl (k := 7) (e := 6) (by decide) h7 (by unfold chk; kernel_rfl)
  have h5 := cl_of hcl (k := 6) (e := 5) (by decide) h6 (by unfold chk; kernel_rfl)
  have h10 := cl_of hcl (k := 11) (e := 10) (by decide) h11 (by unfold chk; kernel_rfl)
  have h9 := cl_of hcl (k := 10) (e := 9) (by decide) h10 (by unfold chk; kernel_rfl)
  exact fun k hk => match k, hk with
    | 0, _ => h0 | 1, _ => h1 | 2, _ => h2 | 3, _ => h3 | 4, _ => h4 | 5, _ => h5 | 6, _ => h6 | 7, _ => h7 | 8, _ => h8 | 9, _ => h9 | 10, _ => h10 | 11, _ => h11 | 12, _ => h12 | 13, _ => h13 | 14, _ => h14 | 15, _ => h15 | 16, _ => h16 | 17, _ => h17 | 18, _ => h18
    | k + 19, hk => absurd hk (by omega)
theorem rep0 (k : Nat) : (Array.replicate 25 false).getD k false = false := by
  rw [Array.getD_eq_getD_getElem?, Array.getElem?_replicate]
  split <;> rfl
theorem reg4 (hs : a.tmps.size = 171) (h7 : a.eval (.tmp 7) = dV) (h2 : a.eval (.tmp 2) = .int .u8 q) (hdV : dV = .slice (some ⟨dg, 0, none⟩) dn dc) (hm : q.tmod 4 = (m : Int)) (hm4 : m < 4) (w : World) (hB : B0 ≤ w.heap.size) (h0 : 0 < l.length) (hl : l.length + 5 ≤ 60000) (hk : KB w dV l)
    (hQ : ∀ x g w1 nv fv ov eb, x 22 = .pointer (some ⟨g, 0, none⟩) → x 24 = .slice (some ⟨eb, 0, none⟩) 3 3 → B0 ≤ g → Below B0 w w1 → CopW l dV nv fv ov eb w1 → BkAt g 31 #[nilS, nilS, nilS] w1 → Q .normal (FC a x) (w1.setCells g 0 [nv, fv, ov])) :
    wpAny Try.prog .any opsC Q 25 (Array.replicate 25 false) a w := by
  have hst := wpAny_stage (P := Try.prog) (md := .any) (Q := Q) (FC a) (phi1 B0 dV q m) (RM B0) w (fun _ => False) (fun j => j = 18) 25 opsC_size guard_of top_of (fun a b c h k => h.trans k) (fun j v w w' k h => phi1_keep B0 dV q m j v w w' k h) (fun x j o v ho => FC_put a x j o v ho)
    (fun j o x w' ho _ hj hR hd K hK => step1 a hs h7 h2 hdV hm hm4 j hj o x w' ho (Nat.le_trans hB hR.1.size) hd K hK)
    (fun j o fuel L x w' ho hj hsz hcl hLj _ hR hd hφ hc => by
      have hj : j = 18 := hj
      subst hj
      refine jump18 hs ho h0 hl (hk.keepM hR) hd (fun nv fv ov eb w2 hW hbl => ?_)
      have ho2 : o.dst = some 46 := by
        have h : (opsC[18]?).map (fun o => o.dst) = some (some 46) := by kernel_rfl
        rw [ho] at h
        exact Option.some.inj h
      have hpt := FC_put a x 18 o (.tuple #[.agg #[nv, fv, ov], .slice (some ⟨eb, 0, none⟩) 3 3]) ho
      rw [ho2] at hpt
      rw [hpt]
      have hW2 := hW
      obtain ⟨N3, F, dv, k, j, hF, -⟩ := hW2
      obtain ⟨na, nm, nc, hnv⟩ := row_slice hF.n
      obtain ⟨fa, fm, fc, hfv⟩ := row_slice hF.f
      obtain ⟨oa, om, oc, hov⟩ := row_slice hF.o
      have hs2 : w'.heap.size ≤ w2.heap.size := hbl.size
      have hB2 : B0 ≤ w'.heap.size := Nat.le_trans hB hR.1.size
      refine stage2 (nv := nv) (fv := fv) (ov := ov) (E := .slice (some ⟨eb, 0, none⟩) 3 3) (B0 := B0) hs w2 (Nat.le_trans hB2 hs2) na fa oa nm nc fm fc om oc hnv hfv hov
        (fun x' g w1 e22 e24 hg hb1 hbk => hQ x' g w1 nv fv ov eb e22 e24 hg ((hR.1.trans (hbl.mono hB2)).trans (hb1.mono (Nat.le_trans hB2 hs2))) (hW.keep hb1) hbk) fuel L _ hsz hcl (B18 hcl hLj) (fun k hk hL => ?_) hc
      by_cases h18 : k = 18
      · subst h18
        exact updX_same x 18 _
      · rw [updX_ne x _ h18]
        by_cases hlt : k < 18
        · exact phi2_triv hlt _ _ _ _ _ _
        · have hp := hφ k hk h18 hL
          by_cases h22 : k = 22
          · subst h22
            obtain ⟨g, g1, g2, g3⟩ := hp
            exact ⟨g, g1, g2, g3.below hbl⟩
          · exact absurd hp (phi1_dead B0 dV q m _ _ (by omega)))
    (fun x w' _ hφ => absurd (hφ 19 (by decide)) (phi1_dead B0 dV q m _ _ (by omega)))
    25 (Array.replicate 25 false) (x0 a) w (by simp) (fun k o ho hL => by rw [rep0] at hL; cases hL) (fun k hk => hk.elim) (RM.refl _ _) (fun k hk hL => by rw [rep0] at hL; cases hL) (by decide)
  rwa [FC_x0 hs] at hst
theorem reg4r {id : Nat} {ops : Array Oper} (hops : ops = opsC) (hs : a.tmps.size = 171) (h7 : a.eval (.tmp 7) = dV) (h2 : a.eval (.tmp 2) = .int .u8 q) (hdV : dV = .slice (some ⟨dg, 0, none⟩) dn dc) (hm : q.tmod 4 = (m : Int)) (hm4 : m < 4) (w : World) (hB : B0 ≤ w.heap.size) (h0 : 0 < l.length) (hl : l.length + 5 ≤ 60000) (hk : KB w dV l)
    (hQ : ∀ x g w1 nv fv ov eb, x 22 = .pointer (some ⟨g, 0, none⟩) → x 24 = .slice (some ⟨eb, 0, none⟩) 3 3 → B0 ≤ g → Below B0 w w1 → CopW l dV nv fv ov eb w1 → BkAt g 31 #[nilS, nilS, nilS] w1 → Q .normal (FC a x) (w1.setCells g 0 [nv, fv, ov])) :
    (Code.region id ops true).wp Try.prog Q a w := by
  subst hops
  refine wp_region_any (by kernel_rfl) ?_
  rw [opsC_size]
  exact reg4 hs h7 h2 hdV hm hm4 w.drew hB h0 hl hk (fun x g w1 nv fv ov eb e1 e2 e3 e4 e5 e6 => hQ x g w1 nv fv ov eb e1 e2 e3 ((Below.drew (Below.refl B0 w)).trans e4) e5 e6)
end
end Go.Proofs.Ytfihnmfbgdjkpaa
