/- The contracts of truncate and copyMore. -/
import Derived.Test.YtbpboghjgbgjfaaFsL
namespace Go.Proofs.Ytbpboghjgbgjfaa
open Go.RowKit

variable {d base : Nat} {names : List NameV} {files : List FileV} {opn : List Int} {nv fv ov : Value} {w w' : World}
theorem encF_set1 : ∀ {L : List FileV} {i : Nat} (h : i < L.length) (v : Value), (encF L).set (i * 5 + 1) v = encF (L.set i ⟨L[i].ino, v, L[i].cp, L[i].wh, L[i].lf⟩)
  | [], i, h, _ => by simp at h
  | p :: r, 0, _, v => rfl
  | p :: r, i + 1, h, v => by
    have ih := encF_set1 (L := r) (i := i) (by simpa using h) v
    rw [show (i + 1) * 5 + 1 = i * 5 + 1 + 1 + 1 + 1 + 1 + 1 by omega]
    simp only [encF, List.set_cons_succ, ih, List.getElem_cons_succ]
theorem encF_set3 : ∀ {L : List FileV} {i : Nat} (h : i < L.length) (v : Bool), (encF L).set (i * 5 + 3) (.bool v) = encF (L.set i ⟨L[i].ino, L[i].dv, L[i].cp, v, L[i].lf⟩)
  | [], i, h, _ => by simp at h
  | p :: r, 0, _, v => rfl
  | p :: r, i + 1, h, v => by
    have ih := encF_set3 (L := r) (i := i) (by simpa using h) v
    rw [show (i + 1) * 5 + 3 = i * 5 + 3 + 1 + 1 + 1 + 1 + 1 by omega]
    simp only [encF, List.set_cons_succ, ih, List.getElem_cons_succ]
theorem encF_set4 : ∀ {L : List FileV} {i : Nat} (h : i < L.length) (v : Int), (encF L).set (i * 5 + 4) (.int .i64 v) = encF (L.set i ⟨L[i].ino, L[i].dv, L[i].cp, L[i].wh, v⟩)
  | [], i, h, _ => by simp at h
  | p :: r, 0, _, v => rfl
  | p :: r, i + 1, h, v => by
    have ih := encF_set4 (L := r) (i := i) (by simpa using h) v
    rw [show (i + 1) * 5 + 4 = i * 5 + 4 + 1 + 1 + 1 + 1 + 1 by omega]
    simp only [encF, List.set_cons_succ, ih, List.getElem_cons_succ]
/-- One cell of a file is written: what is left of the directory. -/
theorem DirOut.fcell {L : List FileV} {j g cap q : Nat} {v u : Value} {x' : FileV} {w1 : World} (h : DirOut d base names L opn ov nv fv w nv v w1) (hv : v = .slice (some ⟨g, 0, none⟩) L.length cap) (he : (encF L).set (j * 5 + q) u = encF (L.set j x')) (hx : x'.dv.oneCell' = true) :
    DirOut d base names (L.set j x') opn ov nv fv w nv v (w1.setCell ⟨g, j * 5 + q, none⟩ u) := by
  have hn := h.a.f
  subst hv
  have hst := World.ownsRow.stored hn (j * 5 + q) u
  rw [he] at hst
  have hgd : g ≠ d := row_ne hn h.a.row (by decide) rfl
  have hch : ChP (fun i => i = g) w1 (w1.setCell ⟨g, j * 5 + q, none⟩ u) := (ChP.refl _ _).set g _ _ rfl
  refine ⟨⟨h.a.row.other _ _ (fun e => hgd e.symm), row_ch h.a.n hch (fun b hb => row_row h.a.n hn (by decide) hb rfl), ?_, row_ch h.a.o hch (fun b hb => row_row h.a.o hn (by decide) hb rfl), h.a.nl, by rw [List.length_set]; exact h.a.fl, h.a.ol, h.a.os, fun y hy => ?_⟩, h.n, h.f, h.c.trans hch (fun i hi e => ?_)⟩
  · unfold FlR
    rw [List.length_set]
    exact hst.1
  · rcases List.mem_or_eq_of_mem_set hy with m | rfl
    · exact h.a.sl y m
    · exact hx
  · subst e
    rcases h.f i rfl with m | m
    · exact .inr (.inr m)
    · omega
set_option maxRecDepth 100000 in
set_option maxHeartbeats 4000000 in
theorem truncate_ok (kind : Int) (t t2 : ByteArray) (dv : Value) (n : Int) (k j : Nat) (h : DirAt d base names files opn nv fv ov w) (hn : Named names files t k j) (hcp : (files[j]'hn.hj).cp = false) :
    Calls Try.prog 38 #[.pointer (some ⟨d, 0, none⟩), .agg #[.int .i64 kind, .string t, .string t2, dv, .int .i64 n]] w fun e w' => e = .returned (.int .i64 0) ∧ DirOut d base names (files.set j ⟨(files[j]'hn.hj).ino, .slice none 0 0, (files[j]'hn.hj).cp, (files[j]'hn.hj).wh, (files[j]'hn.hj).lf⟩) opn ov nv fv w nv fv w' := by
  obtain ⟨g, c, hfv, -, hglt, hcap, hcm⟩ := row_some h.f (by have := hn.hj; omega)
  have hbn := below_new w (.cells #[.int .i64 kind, .string t, .string t2, dv, .int .i64 n] 39)
  have h1 := h.below hbn
  have hnm := named_yes t k j h1 hn g c hfv
  have hfc : ∀ W, Below w.heap.size w W → W.cell? ⟨g, j * 5 + 1, none⟩ = some (files[j]'hn.hj).dv ∧ W.cell? ⟨g, j * 5 + 2, none⟩ = some (.bool false) ∧ W.frozen? ⟨g, j * 5 + 1, none⟩ = false := fun W hW => by
    have hf := (h.below hW).f
    rw [hfv] at hf
    obtain ⟨-, q1, q2, -, -⟩ := FlR.cells hf hn.hj
    rw [hcp] at q2
    exact ⟨q1, q2, World.ownsRow.frozenAt hf _⟩
  have hout := fun W (hW : Below w.heap.size w W) => ((DirOut.refl (h.below hW)).after hW).fcell (j := j) (q := 1) (u := .slice none 0 0) hfv (encF_set1 hn.hj _) rfl
  have H := Lib.hid (And.intro hnm (And.intro hfc (And.intro hout hbn)))
  clear hnm hfc hout hbn h1 h hcp
  go_enter Try.func38, Try.ntmps38
  go_wp2_with fail
  refine H.out.1.mono ?_
  rintro e w1 ⟨rfl, hb1⟩
  have HB := Lib.hid (bl_trans' H.out.2.2.2 hb1)
  obtain ⟨q1, q2, q3⟩ := H.out.2.1 w1 HB.out
  clear hb1
  go_wp2
  go_ret
  exact ⟨rfl, H.out.2.2.1 w1 HB.out⟩
set_option maxRecDepth 100000 in
set_option maxHeartbeats 4000000 in
theorem copyMore_ok (kind : Int) (t t2 : ByteArray) (dv : Value) (n : Int) (k j : Nat) (h : DirAt d base names files opn nv fv ov w) (hn : Named names files t k j) (hcp : (files[j]'hn.hj).cp = true) (hwh : (files[j]'hn.hj).wh = false)
    (n1 : 1 ≤ n) (n2 : n ≤ 1000000) (l0 : 0 ≤ (files[j]'hn.hj).lf) (l1 : (files[j]'hn.hj).lf ≤ 1000000) (z : Int) (hz : z = max ((files[j]'hn.hj).lf - n) 0) :
    Calls Try.prog 41 #[.pointer (some ⟨d, 0, none⟩), .agg #[.int .i64 kind, .string t, .string t2, dv, .int .i64 n]] w fun e w' => e = .returned (.int .i64 0) ∧ DirOut d base names (files.set j ⟨(files[j]'hn.hj).ino, (files[j]'hn.hj).dv, (files[j]'hn.hj).cp, (z == 0), z⟩) opn ov nv fv w nv fv w' := by
  obtain ⟨g, c, hfv, -, hglt, hcap, hcm⟩ := row_some h.f (by have := hn.hj; omega)
  have hbn := below_new w (.cells #[.int .i64 kind, .string t, .string t2, dv, .int .i64 n] 39)
  have hbx := BkAt.new 39 #[.int .i64 kind, .string t, .string t2, dv, .int .i64 n] w
  have h1 := h.below hbn
  have hnm := named_yes t k j h1 hn g c hfv
  have hdv' : ∀ W, Below w.heap.size w W → W.cell? ⟨g, j * 5 + 2, none⟩ = some (.bool true) ∧ W.cell? ⟨g, j * 5 + 3, none⟩ = some (.bool false) ∧ W.cell? ⟨g, j * 5 + 4, none⟩ = some (.int .i64 (files[j]'hn.hj).lf) ∧ W.frozen? ⟨g, j * 5 + 3, none⟩ = false ∧ W.frozen? ⟨g, j * 5 + 4, none⟩ = false := fun W hW => by
    have hf := (h.below hW).f
    rw [hfv] at hf
    obtain ⟨-, -, q2, q3, q4⟩ := FlR.cells hf hn.hj
    rw [hcp] at q2
    rw [hwh] at q3
    exact ⟨q2, q3, q4, World.ownsRow.frozenAt hf _, World.ownsRow.frozenAt hf _⟩
  have hxd : (files[j]'hn.hj).dv.oneCell' = true := h.sl _ (List.getElem_mem _)
  have hout := fun W (hW : Below w.heap.size w W) => by
    have a := ((DirOut.refl (h.below hW)).after hW).fcell (j := j) (q := 4) (u := .int .i64 z) hfv (encF_set4 hn.hj _) hxd
    have b := a.fcell (j := j) (q := 3) (u := .bool (z == 0)) (g := g) (cap := c) (by rw [List.length_set]; exact hfv) (encF_set3 (by rw [List.length_set]; exact hn.hj) _) (by simpa using hxd)
    simp only [List.getElem_set_self, List.set_set] at b
    exact b
  obtain ⟨lf, hlf⟩ : ∃ x, (files[j]'hn.hj).lf = x := ⟨_, rfl⟩
  rw [hlf] at hz l0 l1 hdv'
  have H := Lib.hid (And.intro hnm (And.intro hdv' (And.intro hout (And.intro hbn hbx))))
  have hne : g ≠ w.heap.size := by omega
  clear hnm hdv' hout hbn hbx h1 h hcp hwh hlf hxd
  go_enter Try.func41, Try.ntmps41
  go_wp2_with fail
  refine H.out.1.mono ?_
  rintro e w1 ⟨rfl, hb1⟩
  have HB := Lib.hid (bl_trans' H.out.2.2.2.1 hb1)
  obtain ⟨q2, q3, q4, f3, f4⟩ := H.out.2.1 w1 HB.out
  have c4 := (H.out.2.2.2.2.below hb1).cell 4
  simp only [List.getElem?_toArray, List.getElem?_cons_zero, List.getElem?_cons_succ] at c4
  have d1 : decide (n < 1) = false := by rw [decide_eq_false_iff_not]; omega
  have HZ := Lib.hid hz
  clear hb1 hz
  go_upto_region 8 with (fail)
  go_region
  all_goals
    go_wp2_with fail
    go_ret
    have e := HZ.out
    subst e
    exact ⟨rfl, (H.out.2.2.1 w1 HB.out).below (Below.refl _ _).drew⟩
end Go.Proofs.Ytbpboghjgbgjfaa
