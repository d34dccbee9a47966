/- append. -/
import Derived.Test.YtbpboghjgbgjfaaFsM
import Derived.Test.YtbpboghjgbgjfaaFtI
namespace Go.Proofs.Ytbpboghjgbgjfaa
open Go.RowKit

variable {d base : Nat} {names : List NameV} {files : List FileV} {opn : List Int} {nv fv ov : Value} {w w' : World}
theorem DtR.srcC {l : List UInt8} {v : Value} (h : DtR w v l) (h0 : 0 < l.length) : SrcC w v l := by
  obtain ⟨g, c, h1, -, h3, -, -⟩ := row_some h h0
  exact ⟨g, c, h1, h3, World.ownsRow.cells h (by rw [h1]; rfl)⟩
set_option maxRecDepth 100000 in
set_option maxHeartbeats 8000000 in
theorem append_ok (kind : Int) (t t2 : ByteArray) (dv : Value) (n : Int) (k j : Nat) (l1 l2 : List UInt8) (h : DirAt d base names files opn nv fv ov w) (hn : Named names files t k j) (hcp : (files[j]'hn.hj).cp = false)
    (hs1 : SrcC w (files[j]'hn.hj).dv l1) (hs2 : SrcC w dv l2) (h0 : 0 < l1.length + l2.length) (hsz : l1.length + l2.length ≤ 60000) :
    Calls Try.prog 37 #[.pointer (some ⟨d, 0, none⟩), .agg #[.int .i64 kind, .string t, .string t2, dv, .int .i64 n]] w fun e w' => e = .returned (.int .i64 0) ∧ ∃ dv', DirOut d base names (files.set j ⟨(files[j]'hn.hj).ino, dv', (files[j]'hn.hj).cp, (files[j]'hn.hj).wh, (files[j]'hn.hj).lf⟩) opn ov nv fv w nv fv w' ∧ DtR w' dv' (l1 ++ l2) := by
  obtain ⟨g, c, hfv, -, hglt, hcap, hcm⟩ := row_some h.f (by have := hn.hj; omega)
  obtain ⟨xg, xc, hxd, -⟩ := id hs1
  obtain ⟨yg, yc, rfl, -⟩ := id hs2
  have hbn := below_new w (.cells #[.int .i64 kind, .string t, .string t2, .slice (some ⟨yg, 0, none⟩) l2.length yc, .int .i64 n] 39)
  have hbx := BkAt.new 39 #[.int .i64 kind, .string t, .string t2, .slice (some ⟨yg, 0, none⟩) l2.length yc, .int .i64 n] w
  have h1 := h.below hbn
  have hnm := named_yes t k j h1 hn g c hfv
  have hfc : ∀ W, Below w.heap.size w W → W.cell? ⟨g, j * 5 + 1, none⟩ = some (.slice (some ⟨xg, 0, none⟩) l1.length xc) ∧ W.cell? ⟨g, j * 5 + 2, none⟩ = some (.bool false) ∧ W.frozen? ⟨g, j * 5 + 1, none⟩ = false := fun W hW => by
    have hf := (h.below hW).f
    rw [hfv] at hf
    obtain ⟨-, q1, q2, -, -⟩ := FlR.cells hf hn.hj
    rw [hcp] at q2
    rw [hxd] at q1
    exact ⟨q1, q2, World.ownsRow.frozenAt hf _⟩
  have hcat := fun (W : World) (sb : Nat) (hW : Below w.heap.size w W) (hb : BkAt sb 22 #[.slice (some ⟨xg, 0, none⟩) l1.length xc, .slice (some ⟨yg, 0, none⟩) l2.length yc] W) => concat_two sb _ _ l1 l2 W hb (hxd ▸ hs1.below hW) (hs2.below hW) h0 (by omega)
  have hout := fun W (hW : Below w.heap.size w W) (va : Option Addr) (vm vc : Nat) (hv : W.ownsRow 0 5 1 (.slice va vm vc) (l1 ++ l2).length (byC (l1 ++ l2))) => by
    have a := ((DirOut.refl (h.below hW)).after hW).fcell (j := j) (q := 1) (u := .slice va vm vc) hfv (encF_set1 hn.hj _) rfl
    have hch : ChP (fun i => i = g) W (W.setCell ⟨g, j * 5 + 1, none⟩ (.slice va vm vc)) := (ChP.refl _ _).set g _ _ rfl
    exact And.intro a (show DtR _ _ (l1 ++ l2) from row_ch hv hch (fun b hb e => row_row (h.below hW).f hv (by decide) (by rw [hfv]; rfl) hb e.symm))
  have H := Lib.hid (And.intro hnm (And.intro hfc (And.intro hcat (And.intro hout (And.intro hbn hbx)))))
  have hne : g ≠ w.heap.size := by omega
  have d6 : decide ((60000 : Int) - (l1.length : Int) < (l2.length : Int)) = false := by rw [decide_eq_false_iff_not]; omega
  have hi1 : (0 : Int) ≤ (60000 : Int) - (l1.length : Int) := by omega
  obtain ⟨A, hA⟩ : ∃ A, l1.length = A := ⟨_, rfl⟩
  obtain ⟨B, hB⟩ : ∃ B, l2.length = B := ⟨_, rfl⟩
  rw [hA, hB] at H d6
  rw [hA] at hi1
  have hAB : A + B ≤ 60000 := by omega
  have hws : IntKind.i64.wrap ((60000 : Int) - (A : Int)) = (60000 : Int) - (A : Int) := IntWalk.i64_in _ (by omega)
  rw [hB]
  clear hnm hfc hcat hout hbn hbx h1 h hcp hs1 hs2 hA hB hxd h0 hsz
  go_enter Try.func37, Try.ntmps37
  go_wp2_with fail
  refine H.out.1.mono ?_
  rintro e w1 ⟨rfl, hb1⟩
  have HB := Lib.hid (bl_trans' H.out.2.2.2.2.1 hb1)
  obtain ⟨q1, q2, q3⟩ := H.out.2.1 w1 HB.out
  have hb3 := H.out.2.2.2.2.2.below hb1
  have c3 := hb3.cell 3
  simp only [List.getElem?_toArray, List.getElem?_cons_zero, List.getElem?_cons_succ] at c3
  have HX := Lib.hid hb3
  clear hb1 hb3
  go_wp2_with fail
  go_quiet (fail)
  go_wp2_with fail
  have hbW : Below w.heap.size w (w1.drewN nq) := ⟨HB.out.os, HB.out.tape, HB.out.output, HB.out.size, HB.out.block⟩
  have hxW : BkAt w.heap.size 39 #[.int .i64 kind, .string t, .string t2, .slice (some ⟨yg, 0, none⟩) B yc, .int .i64 n] (w1.drewN nq) := HX.out
  obtain ⟨W, hW⟩ : ∃ W, w1.drewN nq = W := ⟨_, rfl⟩
  rw [hW] at hbW hxW ⊢
  clear q1 q2 q3 c3 hW
  obtain ⟨q1, -, q3⟩ := H.out.2.1 W hbW
  have c3 := hxW.cell 3
  simp only [List.getElem?_toArray, List.getElem?_cons_zero, List.getElem?_cons_succ] at c3
  have hgl : g < W.heap.size := Nat.lt_of_lt_of_le hglt hbW.size
  have hgW : g ≠ W.heap.size := by omega
  have hwW : w.heap.size ≠ W.heap.size := by have := hxW.lt; omega
  have HW := Lib.hid (And.intro hbW hxW)
  clear hbW hxW
  go_region_law ((go_simp; go_wp2_with (go_at_call 65; refine (H.out.2.2.1 _ _ (bl_trans' HW.out.1 ((Below.refl _ _).drew.trans ((below_new _ _).mono (Nat.le_refl _)))) (BkAt.new _ _ _)).mono ?_; rintro e w3 ⟨⟨v3, rfl, hr3⟩, hb3⟩; have hb5 := bl_trans' (bl_trans' HW.out.1 ((Below.refl _ _).drew.trans ((below_new _ _).mono (Nat.le_refl _)))) hb3; obtain ⟨va, vm, vc, rfl⟩ := row_slice hr3; obtain ⟨u1, -, u3⟩ := H.out.2.1 w3 hb5; have HOUT := Lib.hid (H.out.2.2.2.1 w3 hb5 va vm vc (row_base hr3 (Nat.zero_le _))))))
  all_goals
    go_wp2
    go_ret
    exact ⟨rfl, _, HOUT.out.1, HOUT.out.2⟩
end Go.Proofs.Ytbpboghjgbgjfaa
