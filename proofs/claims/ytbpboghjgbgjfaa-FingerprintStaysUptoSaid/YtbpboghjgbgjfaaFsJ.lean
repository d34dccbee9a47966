/- The contract of add, where the new file comes last. -/
import Derived.Test.YtbpboghjgbgjfaaFsI
import Derived.Deep.RegionLaw
namespace Go.Proofs.Ytbpboghjgbgjfaa
open Go.RowKit

variable {d base : Nat} {names : List NameV} {files : List FileV} {opn : List Int} {nv fv ov : Value} {w w' : World}
def byC (l : List UInt8) : List Value := l.map fun b => Value.int .u8 (b.toNat : Int)
/-- Bytes in a row of their own. -/
def DtR (w : World) (v : Value) (l : List UInt8) : Prop := w.ownsRow 0 5 1 v l.length (byC l)
theorem DtR.below {l : List UInt8} {v : Value} (h : DtR w v l) (k : Below w.heap.size w w') : DtR w' v l := row_below h k
/-- Bytes that are read alone. -/
def SrcB (w : World) (v : Value) (l : List UInt8) : Prop := (v = .slice none 0 0 ∧ l = []) ∨ ∃ g c, v = .slice (some ⟨g, 0, none⟩) l.length c ∧ g < w.heap.size ∧ l.length ≤ 100000000 ∧ ∀ j u, (byC l)[j]? = some u → w.cell? ((⟨g, 0, none⟩ : Addr).add j) = some u
theorem SrcB.below {l : List UInt8} {v : Value} (h : SrcB w v l) (k : Below w.heap.size w w') : SrcB w' v l := by
  rcases h with q | ⟨g, c, h1, h2, h3, h4⟩
  · exact .inl q
  · refine .inr ⟨g, c, h1, Nat.lt_of_lt_of_le h2 k.size, h3, fun j u hj => ?_⟩
    rw [← h4 j u hj]
    have hbl : ((⟨g, 0, none⟩ : Addr).add j).block = g := by unfold Addr.add; split <;> rfl
    exact k.cell (by rw [hbl]; exact h2)
theorem DtR.src {l : List UInt8} {v : Value} (h : DtR w v l) (hl : l.length ≤ 100000000) : SrcB w v l := by
  rcases row_form h with ⟨h1, h2⟩ | ⟨g, c, h1, -, h3, -⟩
  · exact .inl ⟨h1, List.eq_nil_of_length_eq_zero h2⟩
  · exact .inr ⟨g, c, h1, h3, hl, World.ownsRow.cells h (by rw [h1]; rfl)⟩
theorem byC_len (l : List UInt8) : (byC l).length = l.length * 1 := by simp [byC]
theorem byC_one (l : List UInt8) : ∀ u ∈ byC l, u.oneCell' = true := fun u hu => by
  unfold byC at hu
  obtain ⟨b, -, rfl⟩ := List.mem_map.1 hu
  rfl
theorem SrcB.slice {l : List UInt8} {v : Value} (h : SrcB w v l) : ∃ a c, v = .slice a l.length c := by
  rcases h with ⟨h1, h2⟩ | ⟨g, c, h1, -⟩
  · exact ⟨none, 0, by rw [h1, h2]; rfl⟩
  · exact ⟨_, _, h1⟩
theorem cloneB_any (l : List UInt8) (v : Value) (w : World) (h : SrcB w v l) :
    Calls Try.prog 77 #[v] w fun e w' => (∃ v', e = .returned v' ∧ DtR w' v' l) ∧ Below w.heap.size w w' := by
  rcases h with ⟨rfl, rfl⟩ | ⟨g, c, rfl, h2, h3, h4⟩
  · exact (cloneB_nil w).mono fun e w' ⟨he, hw⟩ => ⟨⟨_, he, World.ownsRow_nil _ _ _ _⟩, by subst hw; exact Below.refl _ _⟩
  · exact (cloneB_row g l.length c (byC l) w (byC_len l) h3 h4 (byC_one l) h2).mono fun e w' ⟨⟨v', he, hr⟩, hb⟩ => ⟨⟨v', he, row_base hr (Nat.zero_le _)⟩, hb⟩
theorem add_out {X : FileV} {v3 : Value} {Wc w3 : World} (h : DirAt d base names files opn nv fv ov w) (hW : Below w.heap.size w Wc) (hr3 : FlR base w3 v3 (files ++ [X])) (hl3 : v3.ownBlock = fv.ownBlock ∨ v3.ownBlock = some Wc.heap.size) (hg3 : Wc.grownBy w3 fv.ownBlock) (hX : X.dv.oneCell' = true) (hlen : files.length ≤ 800) :
    DirOut d base names (files ++ [X]) opn ov nv fv w nv v3 (w3.setCell ⟨d, 1, none⟩ v3) ∧ ∀ dv l, DtR Wc dv l → DtR (w3.setCell ⟨d, 1, none⟩ v3) dv l := by
  have h1 := h.below hW
  have hch := ChP.grown hg3
  have hrow : BkAt d 71 #[nv, fv, ov] w3 := h1.row.ch hch (fun e => row_ne h1.f h1.row (by decide) e rfl)
  have hn2 := row_ch h1.n hch (fun b hb e => row_row h1.f h1.n (by decide) e hb rfl)
  have ho2 := row_ch h1.o hch (fun b hb e => row_row h1.f h1.o (by decide) e hb rfl)
  have hcd : ChP (fun i => i = d) w3 (w3.setCell ⟨d, 1, none⟩ v3) := (ChP.refl _ _).set d _ _ rfl
  refine ⟨⟨⟨hrow.set 1 _, row_ch hn2 hcd (fun b hb => row_ne hn2 hrow (by decide) hb), row_ch hr3 hcd (fun b hb => row_ne hr3 hrow (by decide) hb), row_ch ho2 hcd (fun b hb => row_ne ho2 hrow (by decide) hb), h1.nl, by simp; omega, h1.ol, h1.os, fun x hx => ?_⟩, Loc.refl _ _, fun b hb => ?_, ?_⟩, fun dv l hd => ?_⟩
  · rcases List.mem_append.1 hx with q | q
    · exact h1.sl x q
    · obtain rfl := List.mem_singleton.1 q; exact hX
  · rcases hl3 with q | q
    · exact .inl (q ▸ hb)
    · rw [q] at hb
      cases hb
      exact .inr hW.size
  · exact (((ChP.ofBelow (P := DirP d nv fv) hW).trans hch (fun i hi e => .inr (.inr e))).trans hcd (fun i hi e => .inl e))
  · have hd2 := row_ch hd hch (fun b hb e => row_row h1.f hd (by decide) e hb rfl)
    exact row_ch hd2 hcd (fun b hb => row_ne hd2 hrow (by decide) hb)
set_option maxRecDepth 100000 in
set_option maxHeartbeats 4000000 in
theorem add_end (x : FileV) (l : List UInt8) (h : DirAt d base names files opn nv fv ov w) (hsrc : SrcB w x.dv l) (hseq : ∀ i (h : i < files.length), files[i].ino = (i : Int) + 1) (hlen : files.length ≤ 800) (hbase : base ≤ w.heap.size) :
    Calls Try.prog 63 #[.pointer (some ⟨d, 0, none⟩), .agg #[.int .i64 x.ino, x.dv, .bool x.cp, .bool x.wh, .int .i64 x.lf]] w fun e w' => e = .returned (.int .i64 ((files.length : Int) + 1)) ∧ ∃ fv' dv', DirOut d base names (files ++ [⟨(files.length : Int) + 1, dv', x.cp, x.wh, x.lf⟩]) opn ov nv fv w nv fv' w' ∧ DtR w' dv' l := by
  obtain ⟨fa, fm, fc, hfv⟩ := row_slice h.f
  obtain ⟨da, dc, hdv⟩ := hsrc.slice
  have hd := h.row.lt
  have hne : d ≠ w.heap.size := by omega
  have hbn := below_new w (.cells #[.int .i64 x.ino, x.dv, .bool x.cp, .bool x.wh, .int .i64 x.lf] 58)
  have h1 := h.below hbn
  have hbx := BkAt.new 58 #[.int .i64 x.ino, x.dv, .bool x.cp, .bool x.wh, .int .i64 x.lf] w
  have hcl := cloneB_any l x.dv
  have H := Lib.hid (And.intro h1 (And.intro hbx (And.intro hbn hsrc)))
  have HC := Lib.hid hcl
  have H0 := Lib.hid h
  have HSR := Lib.hid hsrc
  have HF0 := Lib.hid (show ∀ g, (Value.slice fa fm fc).ownBlock = some g → g < w.heap.size from fun g hg => by rw [← hfv] at hg; exact (h.f.lt g hg).2)
  have hfs : ∀ i (hi : i < files.length), ∃ g, fa = some ⟨g, 0, none⟩ ∧ (w.alloc (.cells #[.int .i64 x.ino, x.dv, .bool x.cp, .bool x.wh, .int .i64 x.lf] 58)).cell? ⟨g, i * 5, none⟩ = some (.int .i64 ((i : Int) + 1)) := fun i hi => by
    obtain ⟨g, c, q1, -⟩ := row_some h1.f (by omega)
    rw [hfv] at q1
    injection q1 with q2 q3 q4
    have hf := h1.f
    rw [hfv, q2, q3] at hf
    exact ⟨g, q2, by rw [(FlR.cells hf hi).1, hseq i hi]⟩
  have hfm : fm = files.length ∧ (fm ≤ fc ∧ fc ≤ 9223372036854775807) := by
    rcases row_form h1.f with ⟨q1, q2⟩ | ⟨g, c, q1, -, -, q2, q3⟩
    · rw [hfv] at q1; cases q1; exact ⟨q2.symm, by omega, by omega⟩
    · rw [hfv] at q1; cases q1; exact ⟨rfl, q2, by unfold maxLen at q3; omega⟩
  have c1 := h1.cs.2.1
  rw [hfv] at c1
  obtain ⟨n, hn⟩ : ∃ n, files.length = n := ⟨_, rfl⟩
  have HN := Lib.hid hn
  rw [hn] at hfm hlen ⊢
  obtain ⟨rfl, hfc1, hfc2⟩ := hfm
  have HF := Lib.hid hfs
  have HV := Lib.hid (And.intro hfv hdv)
  have HQ := Lib.hid hbase
  clear h h1 hsrc hseq hbn hbx hcl hfs hn hfv hdv hbase
  go_enter Try.func63, Try.ntmps63
  go_wp2_with fail
  go_loop [5] (fun s => ∃ i : Nat, i ≤ fm ∧ s = .int .i64 i) (fun s => fm - (intOf s).toNat)
  case atStart => exact ⟨0, Nat.zero_le _, rfl⟩
  case round =>
    obtain ⟨i, hi, rfl⟩ := hrel
    by_cases hlt : i < fm
    · have d1 : decide ((i : Int) < (fm : Int)) = true := by rw [decide_eq_true_iff]; omega
      obtain ⟨g, rfl, hc⟩ := HF.out i (by have := HN.out; omega)
      go_wp2
      go_round
      case rel => exact ⟨i + 1, by omega, by go_num⟩
      case measure => simp [intOf]; omega
    · obtain rfl : i = fm := by omega
      have d1 : decide ((i : Int) < (i : Int)) = false := by simp
      clear hlt hi
      go_wp2_with fail
      have hbn := below_new w (.cells #[.int .i64 ((i : Int) + 1), x.dv, .bool x.cp, .bool x.wh, .int .i64 x.lf] 58)
      have hbx := BkAt.new 58 #[.int .i64 ((i : Int) + 1), x.dv, .bool x.cp, .bool x.wh, .int .i64 x.lf] w
      have h2 := H0.out.below hbn
      have hsr := HSR.out.below hbn
      have HX := Lib.hid (And.intro hbn (And.intro hbx (And.intro h2 hsr)))
      clear hbn hbx h2 hsr
      refine (HC.out _ HX.out.2.2.2).mono ?_
      rintro e w2 ⟨⟨dv', rfl, hdt⟩, hb2⟩
      obtain ⟨da2, dm2, dc2, rfl⟩ := row_slice hdt
      have hbx2 := HX.out.2.1.below hb2
      have x1 := hbx2.cell 1
      have y1 := hbx2.free 1
      simp only [List.getElem?_toArray, List.getElem?_cons_zero, List.getElem?_cons_succ] at x1
      have hbd2 := bl_trans' HX.out.1 hb2
      have h3 := H0.out.below hbd2
      have hdt2 := DtR.below hdt (Below.refl _ _)
      have HY := Lib.hid (And.intro hbd2 (And.intro hbx2 (And.intro h3 hdt)))
      clear hbx2 hbd2 h3 hdt hdt2 hb2 c1
      go_upto_region 6 with (fail)
      have hW2 : Below w.heap.size w (w2.setCell ⟨w.heap.size, 1, none⟩ (.slice da2 dm2 dc2)) := HY.out.1.setCell (p := ⟨w.heap.size, 1, none⟩) (Nat.le_refl _) _
      have hb4 : BkAt w.heap.size 58 #[.int .i64 ((i : Int) + 1), .slice da2 dm2 dc2, .bool x.cp, .bool x.wh, .int .i64 x.lf] (w2.setCell ⟨w.heap.size, 1, none⟩ (.slice da2 dm2 dc2)) := HY.out.2.1.set 1 _
      have hdt4 : DtR (w2.setCell ⟨w.heap.size, 1, none⟩ (.slice da2 dm2 dc2)) (.slice da2 dm2 dc2) l := row_ch HY.out.2.2.2 ((ChP.refl (fun i => i = w.heap.size) _).set w.heap.size 1 _ rfl) (fun g hg => row_ne HY.out.2.2.2 HY.out.2.1 (by decide) hg)
      obtain ⟨W, hW⟩ : ∃ W, w2.setCell ⟨w.heap.size, 1, none⟩ (.slice da2 dm2 dc2) = W := ⟨_, rfl⟩
      rw [hW] at hW2 hb4 hdt4 ⊢
      have h4 := H0.out.below hW2
      obtain ⟨k0, k1, k2, k3, k4⟩ : W.cell? ⟨w.heap.size, 0, none⟩ = some (.int .i64 ((i : Int) + 1)) ∧ W.cell? ⟨w.heap.size, 1, none⟩ = some (.slice da2 dm2 dc2) ∧ W.cell? ⟨w.heap.size, 2, none⟩ = some (.bool x.cp) ∧ W.cell? ⟨w.heap.size, 3, none⟩ = some (.bool x.wh) ∧ W.cell? ⟨w.heap.size, 4, none⟩ = some (.int .i64 x.lf) := ⟨hb4.cell 0, hb4.cell 1, hb4.cell 2, hb4.cell 3, hb4.cell 4⟩
      have hd1 := h4.cs.2.1
      rw [HV.out.1] at hd1
      have hins := fun W' b (q1 : Below W.heap.size W W') (q2 : BkAt b 58 #[.int .i64 ((i : Int) + 1), .slice da2 dm2 dc2, .bool x.cp, .bool x.wh, .int .i64 x.lf] W') => insF_end files ⟨(i : Int) + 1, .slice da2 dm2 dc2, x.cp, x.wh, x.lf⟩ base b fv W' (h4.below q1).f (by have := H0.out.fl; omega) q2 (Nat.le_trans HQ.out (Nat.le_trans hW2.size q1.size)) rfl
      rw [HN.out, HV.out.1] at hins
      have HI := Lib.hid hins
      have HZ := Lib.hid (And.intro hW2 (And.intro hb4 (And.intro h4 hdt4)))
      have hd5 : (W.alloc (.cells #[.int .i64 ((i : Int) + 1), .slice da2 dm2 dc2, .bool x.cp, .bool x.wh, .int .i64 x.lf] 58)).cell? ⟨d, 1, none⟩ = some (.slice fa i fc) := ((below_new W _).cell (p := ⟨d, 1, none⟩) (by have := hW2.size; show d < _; omega)).trans hd1
      have hdW : d ≠ W.heap.size := by have := hW2.size; omega
      have hxW : w.heap.size ≠ W.heap.size := by have := hb4.lt; omega
      clear hW2 hb4 h4 hW x1 y1 hins hdt4
      go_region_law ((go_simp; go_wp2_with (go_at_call 78; refine (HI.out _ _ ((Below.refl _ _).drew.trans ((below_new _ _).mono (Nat.le_refl _))) (BkAt.new _ _ _)).mono ?_; rintro e w3 ⟨⟨v3, rfl, hr3, hl3⟩, hg3⟩; have hwx := (Below.refl W.heap.size W).drew.trans ((below_new W.drew (.cells #[.int .i64 ((i : Int) + 1), .slice da2 dm2 dc2, .bool x.cp, .bool x.wh, .int .i64 x.lf] 58)).mono (Nat.le_refl _)); have hch3 := ChP.grown hg3; have hx3 := HZ.out.2.2.1.below hwx; have hrow3 := hx3.row.ch hch3 (fun e => row_ne hx3.f hx3.row (by decide) (by rw [HV.out.1]; exact e) rfl); obtain ⟨g3, c3, rfl, hq3, hq4, hq5, hq6⟩ := row_some hr3 (by simp); have u1 := hrow3.cell 1; have u2 := hrow3.free 1; have z0 := (((HZ.out.2.1.below hwx).ch hch3 (fun e => by have := HF0.out _ e; omega)).cell 0); have hout := (add_out (X := ⟨(i : Int) + 1, .slice da2 dm2 dc2, x.cp, x.wh, x.lf⟩) H0.out (bl_trans' HZ.out.1 hwx) hr3 (by rw [HV.out.1]; exact hl3) (by rw [HV.out.1]; exact hg3) rfl (by have := HN.out; omega)); simp only [List.length_append, List.length_singleton] at hout; have HOUT := Lib.hid hout; clear hout)))
      all_goals
        have HDT := Lib.hid (DtR.below HZ.out.2.2.2 hwx)
        clear hwx hch3 hx3 hrow3 hr3 hl3 hg3
        go_wp2
        go_ret
        exact ⟨rfl, _, _, HOUT.out.1, HOUT.out.2 _ _ HDT.out⟩
end Go.Proofs.Ytbpboghjgbgjfaa
