/- FilesystemRenames: the law. -/
import Derived.Test.YtfihnmfbgdjkpaaRnA
import Derived.Test.YtfihnmfbgdjkpaaHdD
import Derived.Test.YtfihnmfbgdjkpaaFsT
import Derived.Test.YtfihnmfbgdjkpaaFsW
import Derived.Test.YtfihnmfbgdjkpaaBys
import Derived.Test.YtfihnmfbgdjkpaaConvBy
import Derived.Deep.DeepCutAuto
namespace Go.Proofs.Ytfihnmfbgdjkpaa
open Go.RowKit

theorem kb_buf {B : Nat} {w : World} {v : Value} {l : List UInt8} (h : BufAt B w v (byV l)) (hl : l.length ≤ 100000000) : KB w v l := by
  obtain ⟨g, cap, h1, h2, h3, h4, h5, h6, cs, fz, h7⟩ := h
  rw [byV_len] at h1 h4
  exact ⟨g, cap, cs, fz, h1, h4, hl, h7, fun j u hj => by rw [← Lib.cell_of_heap h7 j]; exact h6 j u hj⟩
theorem KB.by' {w : World} {v : Value} {l : List UInt8} (h : KB w v l) : BySl w v l := by
  obtain ⟨g, c, cs, fz, h1, h0, hm, h2, h3⟩ := h
  exact ⟨_, c, h1, h0, fun i hi => ⟨g, 0, rfl, (Array.getElem?_eq_some_iff.1 h2).1, by rw [Lib.cell_of_heap h2, Nat.zero_add]; exact h3 i _ (by simp [byC, hi])⟩⟩
theorem DtR.by' {w : World} {v : Value} {l : List UInt8} (h : DtR w v l) : BySl w v l := by
  rcases row_form h with ⟨h1, h2⟩ | ⟨g, c, h1, -, h3, h4, -⟩
  · obtain rfl := List.eq_nil_of_length_eq_zero h2
    rw [h1]; exact byS_nil w
  · refine ⟨_, c, h1, h4, fun i hi => ⟨g, 0, rfl, h3, ?_⟩⟩
    rw [Nat.zero_add]
    have hh := h
    unfold DtR at hh
    rw [h1] at hh
    rw [World.ownsRow.cellAt hh i (by omega)]
    simp [byC, hi]
def zL : List UInt8 := [122, 10]
theorem kb_z (w : World) : KB (w.alloc (.cells #[.int .u8 122, .int .u8 10] 5 (2, 3))) (.slice (some ⟨w.heap.size, 0, none⟩) 2 2) zL :=
  ⟨w.heap.size, 2, _, _, rfl, by decide, by decide, heap_alloc_new _ _, fun j u hj => by
    have hl : j < (byC zL).length := (List.getElem?_eq_some_iff.1 hj).1
    have h2 : j < 2 := hl
    have h3 : j = 0 ∨ j = 1 := (by omega)
    rcases h3 with rfl | rfl <;> exact hj⟩
def chA (cdv : Value) : Array Value := #[.int .i64 1, .string bsA, .string ⟨#[]⟩, cdv, .int .i64 0, .int .i64 4, .string bsA, .string bsB, .slice none 0 0, .int .i64 0]
def chH (zdv : Value) : Array Value := #[.int .i64 7, .string bsB, .string ⟨#[]⟩, .slice none 0 0, .int .i64 0, .int .i64 1, .string bsC, .string ⟨#[]⟩, zdv, .int .i64 0]
theorem run_A (W : World) (cdv : Value) (l : List UInt8) (lb : Nat) (hl : l.length ≤ 60000) (hk : KB W cdv l) (hb : BkAt lb 37 (chA cdv) W) :
    Calls Try.prog 12 #[.agg #[.slice none 0 0, .slice none 0 0, .slice none 0 0], .slice (some ⟨lb, 0, none⟩) 2 2] W (RunOut 2 (fun _ => 0) (StA cdv l) W) :=
  run_any 2 (CA cdv) (fun _ => 0) _ (hist_A cdv l hl) lb _ _ _ W ⟨⟨[], rfl, fs_empty W⟩, hk, rfl⟩ (by decide) hb.lt (fun i hi => by
    have h2 : i = 0 ∨ i = 1 := (by omega)
    rcases h2 with rfl | rfl
    · exact ⟨hb.cell 0, hb.cell 1, hb.cell 2, hb.cell 3, hb.cell 4⟩
    · exact ⟨hb.cell 5, hb.cell 6, hb.cell 7, hb.cell 8, hb.cell 9⟩) (fun i hi => by
    have h2 : i = 0 ∨ i = 1 := (by omega)
    rcases h2 with rfl | rfl
    · exact hk.slice
    · exact ⟨_, _, _, rfl⟩)
theorem run_H (W : World) (held : Bool) (nv fv ovc zdv : Value) (l lz : List UInt8) (lb : Nat) (hlz : lz.length ≤ 60000) (h0 : StH held ovc zdv l lz 0 nv fv ovc W) (hb : BkAt lb 37 (chH zdv) W) :
    Calls Try.prog 12 #[.agg #[nv, fv, ovc], .slice (some ⟨lb, 0, none⟩) 2 2] W (RunOut 2 (fun _ => 0) (StH held ovc zdv l lz) W) :=
  run_any 2 (CH zdv) (fun _ => 0) _ (hist_H held ovc zdv l lz hlz) lb _ _ _ W h0 (by decide) hb.lt (fun i hi => by
    have h2 : i = 0 ∨ i = 1 := (by omega)
    rcases h2 with rfl | rfl
    · exact ⟨hb.cell 0, hb.cell 1, hb.cell 2, hb.cell 3, hb.cell 4⟩
    · exact ⟨hb.cell 5, hb.cell 6, hb.cell 7, hb.cell 8, hb.cell 9⟩) (fun i hi => by
    have h2 : i = 0 ∨ i = 1 := (by omega)
    rcases h2 with rfl | rfl
    · exact ⟨_, _, _, rfl⟩
    · exact h0.2.1.slice)
/-- Behind the first changes and Hold. -/
def HldI (held : Bool) (w : World) (b6 : Nat) (dv : Value) (l : List UInt8) (wx : World) : Prop :=
  ∃ nv fv ov fs, BkAt b6 31 #[nv, fv, ov] wx ∧ R1 l fs wx ∧ FsAt [(bsB, 1)] fs (opH held) nv fv ov wx ∧ KB wx dv l ∧ Below w.heap.size w wx
theorem hold1 {W : World} {fs : List FileV} {nv fv ov : Value} {l : List UInt8} (hr : R1 l fs W) (h : FsAt [(bsB, 1)] fs [] nv fv ov W) : Calls Try.prog 17 #[.agg #[nv, fv, ov], .slice (some ⟨W.heap.size, 0, none⟩) 1 1] (W.alloc (.cells #[.int .i64 1] 3)) (HoOut [(bsB, 1)] [1] (R1 l) (W.alloc (.cells #[.int .i64 1] 3))) := by
  obtain ⟨dv, rfl, hd⟩ := hr
  have hbn := below_new W (.cells #[.int .i64 1] 3)
  refine hold_any [1] (by decide) _ _ (h.below hbn) (.inr ⟨W.heap.size, 0, 1, rfl, by simp, fun j hj => ?_⟩) [1] (fun x hx => ?_) rfl (List.pairwise_singleton _ _) (R1 l) (r1_keep l) (fun d base W2 nv' fv' ov2 ha hk => ?_)
  · have h2 : j < 1 := hj
    obtain rfl : j = 0 := (by omega)
    exact Lib.cell_of_heap (heap_alloc_new W _) 0
  · simp only [List.mem_singleton] at hx
    subst hx
    exact row_slice hd
  · exact sw_noneO (r1_keep l) (fun fs W ⟨dv, he, _⟩ x hx => by
      subst he; simp only [List.mem_singleton] at hx; subst hx; rfl) ha ⟨dv, rfl, hk _ _ (hd.below hbn)⟩
theorem hold0 {W : World} {fs : List FileV} {nv fv ov : Value} {l lz : List UInt8} (hr : R5 l lz fs W) (h : FsAt [(bsC, 2)] fs [1] nv fv ov W) : Calls Try.prog 17 #[.agg #[nv, fv, ov], .slice none 0 0] W (HoOut [(bsC, 2)] [] (fun fs W => ∃ dv2, fs = [⟨2, dv2, false, true, 0⟩] ∧ DtR W dv2 lz) W) := by
  obtain ⟨dv, dv2, rfl, hd, hd2⟩ := hr
  refine hold_any [] (by decide) _ _ h (.inl ⟨0, rfl, rfl⟩) [] (fun x hx => ?_) rfl List.Pairwise.nil _ (fun _ _ _ ⟨dv, h1, h2⟩ hd => ⟨dv, h1, hd _ _ h2⟩) (fun d base W2 nv' fv' ov2 ha hk => ?_)
  · simp only [List.mem_cons, List.not_mem_nil, or_false] at hx
    rcases hx with rfl | rfl
    · exact row_slice hd
    · exact row_slice hd2
  · refine (sweep_one 0 1 ha rfl (by omega) (fun i h => ?_) (fun x hx => ?_)).mono fun e w' ⟨he, fv2, ho⟩ => ⟨he, _, fv2, ho, dv2, rfl, (hk _ _ hd2).dir ha ho.c⟩
    · have h2 : i < 2 := h
      have h3 : i = 0 ∨ i = 1 := (by omega)
      rcases h3 with rfl | rfl <;> rfl
    · simp only [List.mem_cons, List.not_mem_nil, or_false] at hx
      rcases hx with rfl | rfl
      · exact row_slice hd
      · exact row_slice hd2
theorem set3 {b : Nat} {nv fv ov nv2 fv2 ov2 : Value} {W : World} (h : BkAt b 31 #[nv, fv, ov] W) : BkAt b 31 #[nv2, fv2, ov2] (((W.setCell ⟨b, 0, none⟩ nv2).setCell ⟨b, 1, none⟩ fv2).setCell ⟨b, 2, none⟩ ov2) ∧ RowKeep W (((W.setCell ⟨b, 0, none⟩ nv2).setCell ⟨b, 1, none⟩ fv2).setCell ⟨b, 2, none⟩ ov2) := by
  have h1 := h.set 0 nv2
  have h2 := h1.set 1 fv2
  have h3 := h2.set 2 ov2
  exact ⟨h3, ((rowKeep_set h (.inl rfl) 0 nv2).trans (rowKeep_set h1 (.inl rfl) 1 fv2)).trans (rowKeep_set h2 (.inl rfl) 2 ov2)⟩
theorem below3 {b : Nat} {nv2 fv2 ov2 : Value} {w W : World} (h : Below w.heap.size w W) (hb : w.heap.size ≤ b) : Below w.heap.size w (((W.setCell ⟨b, 0, none⟩ nv2).setCell ⟨b, 1, none⟩ fv2).setCell ⟨b, 2, none⟩ ov2) :=
  ((h.setCell (p := ⟨b, 0, none⟩) hb nv2).setCell (p := ⟨b, 1, none⟩) hb fv2).setCell (p := ⟨b, 2, none⟩) hb ov2
set_option maxRecDepth 100000 in
set_option linter.unusedSimpArgs false in
set_option maxHeartbeats 16000000 in
theorem law_renames (cv : Value) (lc : List UInt8) (held : Bool) (w : World) (hc : ArgB w w.heap.size cv lc) :
    Calls Try.prog 4 #[cv, .bool held] w fun e w' => e = .returned (.bool true) ∧ Below w.heap.size w w' := by
  have haw := awake7_any w
  have H := Lib.hid (And.intro hc haw)
  obtain ⟨ca, cc, rfl, -⟩ := (byS_arg hc).slice
  clear hc haw
  have kc := fun (w : World) (C : Array Value) (n c : Nat) => Lib.run_convert_bytes_const (P := Try.prog) w 22 5 C n c Try.underlying22 Try.underlying5
  go_enter Try.func4, Try.ntmps4
  go_wp2_with fail
  refine (H.out.2).mono ?_
  rintro e w1 ⟨rfl, hb1⟩
  have HA := Lib.hid hb1
  clear hb1
  go_wp2_with fail
  refine (new_any _ lc 100 w1 (H.out.1.below HA.out) (by omega)).mono ?_
  rintro e w2 ⟨rfl, hm, hb2⟩
  obtain ⟨C, hC⟩ : ∃ C, w1.heap.size = C := ⟨_, rfl⟩
  rw [hC] at hm
  have HC := Lib.hid (And.intro hm (And.intro hb2 hC))
  clear hm hb2
  simp only [hC]
  clear hC
  go_wp2_with fail
  refine (data_any C 1 4 w2 HC.out.1 (by omega) (by omega) (by omega) (by omega)).mono ?_
  rintro e w4 ⟨⟨v, L, rfl, hbuf, ⟨l, rfl⟩, h15, hL⟩, hm4, hf4⟩
  rw [List.length_map] at h15 hL
  have hK := kb_buf hbuf (by omega)
  have h2 : Below w1.heap.size w1 w4 := by
    have h4 := HC.out.2.2
    have h5 := HC.out.2.1
    exact h5.trans ((hf4.toBelow (by have := HC.out.1.lt; omega)).mono (by omega))
  have hbw : Below w.heap.size w w4 := bl_trans' HA.out h2
  obtain ⟨dg, dn, dc, rfl⟩ := hK.slice
  have HE := Lib.hid (And.intro hK (And.intro hbw hL))
  clear hK hbw h2 hm4 hf4 hbuf HC HA H h15 hL
  go_wp2_with fail
  refine (fsNew_any _).mono ?_
  rintro e w5 ⟨rfl, hb5⟩
  have hbn := below_new w5 (.cells (chA (.slice dg dn dc)) 37)
  have hrun := run_A (w5.alloc (.cells (chA (.slice dg dn dc)) 37)) _ l w5.heap.size (by have := HE.out.2.2; omega) (HE.out.1.below (bl_trans' hb5 hbn)) (BkAt.new _ _ _)
  have HR := Lib.hid (And.intro hrun (bl_trans' HE.out.2.1 (bl_trans' hb5 hbn)))
  clear hrun hbn hb5
  go_wp2_with fail
  refine HR.out.1.mono ?_
  rintro e w6 ⟨nv, fv, ov, eb, rfl, ⟨⟨fs, hfs, hF⟩, hk6, rfl⟩, hbe, hb6⟩
  obtain ⟨na, nm, nc, rfl⟩ := row_slice hF.n
  obtain ⟨fa, fm, fc, rfl⟩ := row_slice hF.f
  have H6 := Lib.hid (And.intro hfs (And.intro hF (And.intro hk6 (bl_trans' HR.out.2 hb6))))
  clear hfs hF hk6 hbe hb6 HR HE
  go_wp2_with fail
  have hbn6 := below_new w6 (.cells #[.slice na nm nc, .slice fa fm fc, .slice none 0 0] 31)
  have hk7 := BkAt.new 31 #[.slice na nm nc, .slice fa fm fc, .slice none 0 0] w6
  have hF7 : FsAt [(bsB, 1)] fs [] _ _ _ _ := H6.out.2.1.below hbn6
  have hw7 := bl_trans' H6.out.2.2.2 hbn6
  have hK7 := H6.out.2.2.1.below hbn6
  have hr7 : R1 l fs (w6.alloc (.cells #[.slice na nm nc, .slice fa fm fc, .slice none 0 0] 31)) := r1_keep l _ _ _ H6.out.1 (fun v l hv => hv.below hbn6)
  have hb6w : w.heap.size ≤ w6.heap.size := H6.out.2.2.2.size
  obtain ⟨b6, hb6⟩ : ∃ b, w6.heap.size = b := ⟨_, rfl⟩
  obtain ⟨w7, hw7e⟩ : ∃ x, (w6.alloc (.cells #[.slice na nm nc, .slice fa fm fc, .slice none 0 0] 31)) = x := ⟨_, rfl⟩
  rw [hw7e] at hk7 hF7 hw7 hK7 hr7 ⊢
  rw [hb6] at hk7 hb6w
  simp only [hb6]
  have H7 := Lib.hid (And.intro hk7 (And.intro hr7 (And.intro hF7 (And.intro hK7 (And.intro hw7 hb6w)))))
  clear hk7 hr7 hF7 hK7 hw7 hb6w hbn6 H6 hw7e hb6
  refine (lookup_yes bsB 0 H7.out.2.2.1 (place_B1 1) (by decide) (hit_B 1)).mono ?_
  rintro e w8 ⟨rfl, hb8⟩
  have hk8 := H7.out.1.below hb8
  obtain ⟨f0, f1, f2⟩ : w8.cell? ⟨b6, 0, none⟩ = some (.slice na nm nc) ∧ w8.cell? ⟨b6, 1, none⟩ = some (.slice fa fm fc) ∧ w8.cell? ⟨b6, 2, none⟩ = some (.slice none 0 0) := ⟨hk8.cell 0, hk8.cell 1, hk8.cell 2⟩
  have H8 := Lib.hid (And.intro hk8 (And.intro (r1_keep l _ _ _ H7.out.2.1 (fun v l hv => hv.below hb8)) (And.intro (H7.out.2.2.1.below hb8) (And.intro (H7.out.2.2.2.1.below hb8) (And.intro (bl_trans' H7.out.2.2.2.2.1 hb8) H7.out.2.2.2.2.2)))))
  clear hk8 hb8 H7
  go_upto_if 36 with (fail)
  go_cut [] (fun wx => HldI held w b6 (.slice dg dn dc) l wx)
  case first =>
    cases held with
    | false =>
      have HF := Lib.hid (show HldI false w b6 (.slice dg dn dc) l w8 from ⟨_, _, _, _, H8.out.1, H8.out.2.1, H8.out.2.2.1, H8.out.2.2.2.1, H8.out.2.2.2.2.1⟩)
      go_wp2_with fail
      go_meet
      exact HF.out
    | true =>
      have HH := Lib.hid (hold1 H8.out.2.1 H8.out.2.2.1)
      have hne6 : b6 ≠ w8.heap.size := by have := H8.out.1.lt; omega
      go_wp2_with fail
      refine HH.out.mono ?_
      rintro e w9 ⟨fs9, nv9, fv9, ov9, rfl, hF9, hr9, hb9⟩
      have hb89 := bl_trans' (below_new w8 (.cells #[.int .i64 1] 3)) hb9
      have hk9 := H8.out.1.below hb89
      obtain ⟨e0, e1, e2⟩ : w9.frozen? ⟨b6, 0, none⟩ = false ∧ w9.frozen? ⟨b6, 1, none⟩ = false ∧ w9.frozen? ⟨b6, 2, none⟩ = false := ⟨hk9.free 0, hk9.free 1, hk9.free 2⟩
      obtain ⟨d0, d1, d2⟩ : w9.cell? ⟨b6, 0, none⟩ = some (.slice na nm nc) ∧ w9.cell? ⟨b6, 1, none⟩ = some (.slice fa fm fc) ∧ w9.cell? ⟨b6, 2, none⟩ = some (.slice none 0 0) := ⟨hk9.cell 0, hk9.cell 1, hk9.cell 2⟩
      obtain ⟨xa, xm, xc, rfl⟩ := row_slice hF9.n
      obtain ⟨ya, ym, yc, rfl⟩ := row_slice hF9.f
      obtain ⟨za, zm, zc, rfl⟩ := row_slice hF9.o
      have hs3 := set3 (nv2 := .slice xa xm xc) (fv2 := .slice ya ym yc) (ov2 := .slice za zm zc) hk9
      have HF := Lib.hid (show HldI true w b6 (.slice dg dn dc) l (((w9.setCell ⟨b6, 0, none⟩ (.slice xa xm xc)).setCell ⟨b6, 1, none⟩ (.slice ya ym yc)).setCell ⟨b6, 2, none⟩ (.slice za zm zc)) from
        ⟨_, _, _, _, hs3.1, r1_keep l _ _ _ hr9 (dt_keep hs3.2), fs_keep hF9 hs3.2, (H8.out.2.2.2.1.below hb89).keep hs3.2, below3 (bl_trans' H8.out.2.2.2.2.1 hb89) H8.out.2.2.2.2.2⟩)
      clear hs3 hF9 hr9 hk9 hb89 hb9
      go_wp2_with fail
      go_meet
      exact HF.out
  case rest =>
    obtain ⟨nv9, fv9, ov9, fs9, hk9, hr9, hF9, hK9, hw9⟩ := hcut
    obtain ⟨xa, xm, xc, rfl⟩ := row_slice hF9.n
    obtain ⟨ya, ym, yc, rfl⟩ := row_slice hF9.f
    obtain ⟨za, zm, zc, rfl⟩ := row_slice hF9.o
    obtain ⟨c0, c1, c2⟩ : wc.cell? ⟨b6, 0, none⟩ = some (.slice xa xm xc) ∧ wc.cell? ⟨b6, 1, none⟩ = some (.slice ya ym yc) ∧ wc.cell? ⟨b6, 2, none⟩ = some (.slice za zm zc) := ⟨hk9.cell 0, hk9.cell 1, hk9.cell 2⟩
    clear f0 f1 f2
    have hlt9 := hk9.lt
    have hbz := below_new wc (.cells #[.int .u8 122, .int .u8 10] 5 (2, 3))
    have hbz2 := below_new (wc.alloc (.cells #[.int .u8 122, .int .u8 10] 5 (2, 3))) (.cells (chH (.slice (some ⟨wc.heap.size, 0, none⟩) 2 2)) 37)
    have hz1 : (wc.alloc (.cells #[.int .u8 122, .int .u8 10] 5 (2, 3))).heap.size = wc.heap.size + 1 := by simp
    have hbk : BkAt (wc.heap.size + 1) 37 (chH (.slice (some ⟨wc.heap.size, 0, none⟩) 2 2)) ((wc.alloc (.cells #[.int .u8 122, .int .u8 10] 5 (2, 3))).alloc (.cells (chH (.slice (some ⟨wc.heap.size, 0, none⟩) 2 2)) 37)) := hz1 ▸ BkAt.new _ _ _
    have hbb := bl_trans' hbz hbz2
    have hrunH := run_H _ held _ _ _ _ l zL (wc.heap.size + 1) (by decide) ⟨⟨fs9, r1_keep l _ _ _ hr9 (fun v l hv => hv.below hbb), hF9.below hbb⟩, (kb_z wc).below hbz2, rfl⟩ hbk
    have H9 := Lib.hid (And.intro hrunH (And.intro (hk9.below hbb) (And.intro (hK9.below hbb) (bl_trans' hw9 hbb))))
    clear hrunH hk9 hr9 hF9 hK9 hw9 hbz hbz2 hz1 hbk hbb
    go_wp2_with fail
    refine H9.out.1.mono ?_
    rintro e w10 ⟨nv10, fv10, ov10, eb10, rfl, ⟨⟨fs10, hfs10, hF10⟩, hkz10, rfl⟩, hbe10, hb10⟩
    have hk10 := H9.out.2.1.below hb10
    obtain ⟨e0, e1, e2⟩ : w10.frozen? ⟨b6, 0, none⟩ = false ∧ w10.frozen? ⟨b6, 1, none⟩ = false ∧ w10.frozen? ⟨b6, 2, none⟩ = false := ⟨hk10.free 0, hk10.free 1, hk10.free 2⟩
    obtain ⟨d0, d1, d2⟩ : w10.cell? ⟨b6, 0, none⟩ = some (.slice xa xm xc) ∧ w10.cell? ⟨b6, 1, none⟩ = some (.slice ya ym yc) ∧ w10.cell? ⟨b6, 2, none⟩ = some (.slice za zm zc) := ⟨hk10.cell 0, hk10.cell 1, hk10.cell 2⟩
    obtain ⟨xa2, xm2, xc2, rfl⟩ := row_slice hF10.n
    obtain ⟨ya2, ym2, yc2, rfl⟩ := row_slice hF10.f
    have hs3 := set3 (nv2 := .slice xa2 xm2 xc2) (fv2 := .slice ya2 ym2 yc2) (ov2 := .slice za zm zc) hk10
    have hb3 := below3 (b := b6) (nv2 := .slice xa2 xm2 xc2) (fv2 := .slice ya2 ym2 yc2) (ov2 := .slice za zm zc) (bl_trans' H9.out.2.2.2 hb10) H8.out.2.2.2.2.2
    have hneb : eb10 ≠ b6 := fun e => by
      subst e
      unfold BkAt at hbe10 hk10
      rw [hk10] at hbe10
      injection hbe10 with q
      injection q with q1 q2
      exact absurd q2 (by decide)
    have hbe := ((hbe10.other 0 (.slice xa2 xm2 xc2) hneb).other 1 (.slice ya2 ym2 yc2) hneb).other 2 (.slice za zm zc) hneb
    have H10 := Lib.hid (And.intro hs3.1 (And.intro (rh_keep held l zL 2 _ _ _ hfs10 (dt_keep hs3.2)) (And.intro (fs_keep hF10 hs3.2) (And.intro ((H9.out.2.2.1.below hb10).keep hs3.2) (And.intro hb3 hbe)))))
    clear hs3 hb3 hbe hneb hbe10 hk10 hfs10 hF10 hkz10 hb10 H9 c0 c1 c2 hlt9 H8
    go_upto_region 9 with (fail)
    obtain ⟨W, hW⟩ : ∃ W, (((w10.setCell ⟨b6, 0, none⟩ (.slice xa2 xm2 xc2)).setCell ⟨b6, 1, none⟩ (.slice ya2 ym2 yc2)).setCell ⟨b6, 2, none⟩ (.slice za zm zc)) = W := ⟨_, rfl⟩
    rw [hW] at H10 ⊢
    clear hW d0 d1 d2 e0 e1 e2
    have hbe := H10.out.2.2.2.2.2
    obtain ⟨g0, g1⟩ : W.cell? ⟨eb10, 0, none⟩ = some (.int .i64 0) ∧ W.cell? ⟨eb10, 1, none⟩ = some (.int .i64 0) := ⟨by rw [hbe.cell 0]; rfl, by rw [hbe.cell 1]; rfl⟩
    obtain ⟨c0, c1, c2⟩ : W.cell? ⟨b6, 0, none⟩ = some (.slice xa2 xm2 xc2) ∧ W.cell? ⟨b6, 1, none⟩ = some (.slice ya2 ym2 yc2) ∧ W.cell? ⟨b6, 2, none⟩ = some (.slice za zm zc) := ⟨H10.out.1.cell 0, H10.out.1.cell 1, H10.out.1.cell 2⟩
    clear hbe
    cases held with
    | false =>
      obtain ⟨dv, hfs, hdt⟩ : R1 zL fs10 W := H10.out.2.1
      have hF : FsAt [(bsC, 1)] fs10 [] (.slice xa2 xm2 xc2) (.slice ya2 ym2 yc2) (.slice za zm zc) W := H10.out.2.2.1
      subst hfs
      obtain ⟨va, vm, vc, rfl⟩ := row_slice hdt
      have HF := Lib.hid (And.intro hF (And.intro hdt H10.out.2.2.2.2.1))
      clear hF hdt
      go_wp2_with fail
      refine (lookup_yes bsC 0 HF.out.1 (place_C1 1) (by decide) (hit_C 1)).mono ?_
      rintro e w11 ⟨rfl, hb11⟩
      obtain ⟨d0, d1, d2⟩ : w11.cell? ⟨b6, 0, none⟩ = some (.slice xa2 xm2 xc2) ∧ w11.cell? ⟨b6, 1, none⟩ = some (.slice ya2 ym2 yc2) ∧ w11.cell? ⟨b6, 2, none⟩ = some (.slice za zm zc) := ⟨(H10.out.1.below hb11).cell 0, (H10.out.1.below hb11).cell 1, (H10.out.1.below hb11).cell 2⟩
      have HG := Lib.hid hb11
      clear hb11 c0 c1 c2 g0 g1
      go_wp2_with fail
      refine (read_whole 1 0 (HF.out.1.below HG.out) ⟨Nat.zero_le _, fun i h hi => by omega, fun h => rfl⟩ (by simp) (.inl rfl) ⟨_, _, _, rfl⟩).mono ?_
      rintro e w12 ⟨rfl, hb12⟩
      have hb13 := bl_trans' (bl_trans' HG.out hb12) (below_new w12 (.cells #[.int .i64 1, .slice va vm vc, .bool false, .bool true, .int .i64 0] 45))
      have cv := conv_back (row_below HF.out.2.1 hb13)
      simp only [show zL.toArray = #[122, 10] from rfl] at cv
      have HZ := Lib.hid (bl_trans' HF.out.2.2 hb13)
      clear hb12 hb13 d0 d1 d2
      go_wp2
      go_ret
      exact ⟨rfl, HZ.out⟩
    | true =>
      obtain ⟨dv, dv2, hfs, hdt, hdt2⟩ : R5 l zL fs10 W := H10.out.2.1
      have hF : FsAt [(bsC, 2)] fs10 [1] (.slice xa2 xm2 xc2) (.slice ya2 ym2 yc2) (.slice za zm zc) W := H10.out.2.2.1
      subst hfs
      obtain ⟨va, vm, vc, rfl⟩ := row_slice hdt
      have HF := Lib.hid (And.intro hF (And.intro hdt (And.intro hdt2 (And.intro H10.out.2.2.2.1 H10.out.2.2.2.2.1))))
      clear hF hdt hdt2
      go_wp2_with fail
      refine (lookup_yes bsC 0 HF.out.1 (place_C1 2) (by decide) (hit_C 2)).mono ?_
      rintro e w11 ⟨rfl, hb11⟩
      obtain ⟨d0, d1, d2⟩ : w11.cell? ⟨b6, 0, none⟩ = some (.slice xa2 xm2 xc2) ∧ w11.cell? ⟨b6, 1, none⟩ = some (.slice ya2 ym2 yc2) ∧ w11.cell? ⟨b6, 2, none⟩ = some (.slice za zm zc) := ⟨(H10.out.1.below hb11).cell 0, (H10.out.1.below hb11).cell 1, (H10.out.1.below hb11).cell 2⟩
      have HG := Lib.hid hb11
      clear hb11 c0 c1 c2 g0 g1
      go_wp2_with fail
      refine (read_whole 1 0 (HF.out.1.below HG.out) ⟨Nat.zero_le _, fun i h hi => by omega, fun h => rfl⟩ (by simp) (.inl rfl) ⟨_, _, _, rfl⟩).mono ?_
      rintro e w12 ⟨rfl, hb12⟩
      have hb13 := bl_trans' (bl_trans' HG.out hb12) (below_new w12 (.cells #[.int .i64 1, .slice va vm vc, .bool false, .bool true, .int .i64 0] 45))
      have hnx := BkAt.new 45 #[.int .i64 1, .slice va vm vc, .bool false, .bool true, .int .i64 0] w12
      obtain ⟨f0, f1, f2⟩ : (w12.alloc (.cells #[.int .i64 1, .slice va vm vc, .bool false, .bool true, .int .i64 0] 45)).cell? ⟨b6, 0, none⟩ = some (.slice xa2 xm2 xc2) ∧ (w12.alloc (.cells #[.int .i64 1, .slice va vm vc, .bool false, .bool true, .int .i64 0] 45)).cell? ⟨b6, 1, none⟩ = some (.slice ya2 ym2 yc2) ∧ (w12.alloc (.cells #[.int .i64 1, .slice va vm vc, .bool false, .bool true, .int .i64 0] 45)).cell? ⟨b6, 2, none⟩ = some (.slice za zm zc) := ⟨(H10.out.1.below hb13).cell 0, (H10.out.1.below hb13).cell 1, (H10.out.1.below hb13).cell 2⟩
      obtain ⟨b13, hb13e⟩ : ∃ b, w12.heap.size = b := ⟨_, rfl⟩
      obtain ⟨w13, hw13⟩ : ∃ x, (w12.alloc (.cells #[.int .i64 1, .slice va vm vc, .bool false, .bool true, .int .i64 0] 45)) = x := ⟨_, rfl⟩
      have hpre := hb13
      rw [hw13] at hb13 hnx f0 f1 f2
      rw [hb13e] at hnx
      have HX := Lib.hid (And.intro hb13 hnx)
      have HW13 := Lib.hid hw13
      have HB13 := Lib.hid hb13e
      clear hb12 hb13 hnx d0 d1 d2 hw13 hb13e hpre
      go_upto_region 13 with (fail)
      rw [HW13.out, HB13.out]
      have c1 := HX.out.2.cell 1
      simp only [List.getElem?_toArray, List.getElem?_cons_zero, List.getElem?_cons_succ] at c1
      have HH := Lib.hid (hold0 (show R5 l zL _ w13 from ⟨_, _, rfl, row_below HF.out.2.1 HX.out.1, row_below HF.out.2.2.1 HX.out.1⟩) (HF.out.1.below HX.out.1))
      clear c1
      go_wp2_with fail
      refine HH.out.mono ?_
      rintro e w14 ⟨fs14, nv14, fv14, ov14, rfl, hF14, ⟨dv14, rfl, -⟩, hb14⟩
      have HI := Lib.hid (And.intro hF14 hb14)
      clear hF14 hb14 f0 f1 f2
      go_wp2_with fail
      refine (read_none 1 HI.out.1 ⟨Nat.le_refl _, fun i h hi => by
        have h2 : i < 1 := h
        obtain rfl : i = 0 := (by omega)
        rfl, fun h => by simp at h⟩).mono ?_
      rintro e w15 ⟨rfl, hb15⟩
      have hb16 := bl_trans' (bl_trans' HI.out.2 hb15) (below_new w15 (.cells #[.int .i64 0, .slice none 0 0, .bool false, .bool false, .int .i64 0] 45))
      have c1 : (w15.alloc (.cells #[.int .i64 0, .slice none 0 0, .bool false, .bool false, .int .i64 0] 45)).cell? ⟨b13, 1, none⟩ = some (.slice va vm vc) := (HX.out.2.below hb16).cell 1
      have hbF := bl_trans' HX.out.1 hb16
      have cv := conv_by (DtR.by' (row_below HF.out.2.1 hbF))
      have cv2 := conv_by (KB.by' (HF.out.2.2.2.1.below hbF))
      have HZ := Lib.hid (bl_trans' HF.out.2.2.2.2 hbF)
      clear hb15 hb16 hbF
      go_wp2
      go_ret
      exact ⟨rfl, HZ.out⟩
end Go.Proofs.Ytfihnmfbgdjkpaa
