/- The contract of edit. -/
import Derived.Test.YtbpboghjgbgjfaaFsN
import Derived.Laws.EntriesVeiled
namespace Go.Proofs.Ytbpboghjgbgjfaa
open Go.RowKit

variable {names : List NameV} {files : List FileV} {opn : List Int} {nv fv ov : Value} {w w' : World}
/-- A file system as a value. -/
structure FsAt (names : List NameV) (files : List FileV) (opn : List Int) (nv fv ov : Value) (w : World) : Prop where
  n : NmR 0 w nv names
  f : FlR 0 w fv files
  o : InR 0 w ov opn
  nl : names.length ≤ 900
  fl : files.length ≤ 900
  ol : opn.length ≤ 900
  os : opn.Pairwise (· ≤ ·)
  sl : Slices files
theorem FsAt.below (h : FsAt names files opn nv fv ov w) (k : Below w.heap.size w w') : FsAt names files opn nv fv ov w' := ⟨row_below h.n k, row_below h.f k, row_below h.o k, h.nl, h.fl, h.ol, h.os, h.sl⟩
theorem DirAt.fs {d base : Nat} (h : DirAt d base names files opn nv fv ov w) : FsAt names files opn nv fv ov w := ⟨row_base h.n (Nat.zero_le _), row_base h.f (Nat.zero_le _), h.o, h.nl, h.fl, h.ol, h.os, h.sl⟩
def EdOut (names : List NameV) (files : List FileV) (opn : List Int) (ov : Value) (w : World) (e : Ending) (w' : World) : Prop :=
  ∃ (d : Nat) (nv' fv' : Value), e = .returned (.pointer (some ⟨d, 0, none⟩)) ∧ DirAt d w.heap.size names files opn nv' fv' ov w' ∧ w.heap.size ≤ d ∧ Below w.heap.size w w'
theorem edOut_mk {base : Nat} {W : World} {nv' fv' : Value} (h : FsAt names files opn nv fv ov w) (hb : Below w.heap.size w W) (hn : NmR base W nv' names) (hf : FlR base W fv' files) (h0 : w.heap.size ≤ base) :
    EdOut names files opn ov w (.returned (.pointer (some ⟨W.heap.size, 0, none⟩))) (W.alloc (.cells #[nv', fv', ov] 71)) := by
  have hx := below_new W (.cells #[nv', fv', ov] 71)
  exact ⟨_, nv', fv', rfl, ⟨BkAt.new _ _ _, row_base (row_below hn hx) h0, row_base (row_below hf hx) h0, row_below (row_below h.o hb) hx, h.nl, h.fl, h.ol, h.os, h.sl⟩, hb.size, bl_trans' hb hx⟩
set_option maxRecDepth 100000 in
set_option maxHeartbeats 4000000 in
theorem edit_any (h : FsAt names files opn nv fv ov w) :
    Calls Try.prog 23 #[.agg #[nv, fv, ov]] w (EdOut names files opn ov w) := by
  obtain ⟨na, nm, nc, rfl⟩ := row_slice h.n
  obtain ⟨fa, fm, fc, rfl⟩ := row_slice h.f
  obtain ⟨oa, om, oc, rfl⟩ := row_slice h.o
  have hbn := below_new w (.cells #[.slice na nm nc, .slice fa fm fc, .slice oa om oc] 33)
  have hbx := BkAt.new 33 #[.slice na nm nc, .slice fa fm fc, .slice oa om oc] w
  obtain ⟨w1, hw1⟩ : ∃ w1, w.alloc (.cells #[.slice na nm nc, .slice fa fm fc, .slice oa om oc] 33) = w1 := ⟨_, rfl⟩
  rw [hw1] at hbn hbx
  have hN := fun W (hW : Below w1.heap.size w1 W) => cloneN_any names 0 _ W (row_below (row_below h.n hbn) hW) (by have := h.nl; omega)
  have hF := fun W (hW : Below w1.heap.size w1 W) => cloneF_any files 0 _ W (row_below (row_below h.f hbn) hW) (by have := h.fl; omega) h.sl
  have HS := Lib.hid (show ∀ W, Below w1.heap.size w1 W → W.cell? ⟨w.heap.size, 0, none⟩ = some (.slice na nm nc) ∧ W.cell? ⟨w.heap.size, 1, none⟩ = some (.slice fa fm fc) ∧ W.cell? ⟨w.heap.size, 2, none⟩ = some (.slice oa om oc) from fun W hW => ⟨(hbx.below hW).cell 0, (hbx.below hW).cell 1, (hbx.below hW).cell 2⟩)
  have H := Lib.hid (And.intro hN (And.intro hF (And.intro hbn h)))
  have hb0 := Lib.hid (show Below w1.heap.size w1 w1.drew from (Below.refl _ _).drew)
  have HW := Lib.hid hw1
  clear hN hF hbn hbx h hw1
  go_enter Try.func23, Try.ntmps23
  go_wp2_with fail
  rw [HW.out]
  go_region_held3 (fun W => W.cell? ⟨w.heap.size, 0, none⟩ = some (.slice na nm nc) ∧ W.cell? ⟨w.heap.size, 1, none⟩ = some (.slice fa fm fc) ∧ W.cell? ⟨w.heap.size, 2, none⟩ = some (.slice oa om oc)) (first | exact HS.out _ hb0.out | exact HS.out _ hbN.out | exact HS.out _ hbF.out | exact HS.out _ (bl_trans' hbF.out (below_new _ _)) | exact HS.out _ (bl_trans' hbN.out (below_new _ _)))
    (first
      | (go_at_call 34; refine (H.out.1 _ (by first | exact hbF.out | exact hb0.out)).mono ?_; rintro e wN ⟨⟨vN, rfl, hrN⟩, hkN⟩; have HrN := Lib.hid hrN; obtain ⟨xa, xb, xc, rfl⟩ := row_slice hrN; clear hrN; have hbN := Lib.hid (bl_trans' (by first | exact hbF.out | exact hb0.out) hkN); have HkN := Lib.hid hkN; clear hkN)
      | (go_at_call 35; refine (H.out.2.1 _ (by first | exact hbN.out | exact hb0.out)).mono ?_; rintro e wF ⟨⟨vF, rfl, hrF⟩, hkF⟩; have HrF := Lib.hid hrF; obtain ⟨ya, yb, yc, rfl⟩ := row_slice hrF; clear hrF; have hbF := Lib.hid (bl_trans' (by first | exact hbN.out | exact hb0.out) hkF); have HkF := Lib.hid hkF; clear hkF))
  all_goals
    have HE := Lib.hid (edOut_mk H.out.2.2.2 (bl_trans' H.out.2.2.1 hbF.out) (row_base (row_below HrN.out HkF.out) (H.out.2.2.1.size)) (row_base HrF.out (Nat.le_trans H.out.2.2.1.size hbN.out.size)) (Nat.le_refl _))
    go_wp2
    go_ret
    exact HE.out
end Go.Proofs.Ytbpboghjgbgjfaa
