/- The contracts of point and add, where what is new comes last. -/
import Derived.Test.YtbpboghjgbgjfaaFsH
namespace Go.Proofs.Ytbpboghjgbgjfaa
open Go.RowKit

variable {d base : Nat} {names : List NameV} {files : List FileV} {opn : List Int} {nv fv ov : Value} {w w' : World}
/-- A row stays in its block or moves to a new one. -/
def Loc (v v' : Value) (n : Nat) : Prop := ∀ g, v'.ownBlock = some g → v.ownBlock = some g ∨ n ≤ g
theorem Loc.refl (v : Value) (n : Nat) : Loc v v n := fun _ h => .inl h
theorem Loc.trans {v v1 v2 : Value} {n m : Nat} (h : Loc v v1 n) (k : Loc v1 v2 m) (hn : n ≤ m) : Loc v v2 n := fun g hg => by
  rcases k g hg with h1 | h1
  · exact h g h1
  · exact .inr (by omega)
structure DirOut (d base : Nat) (names : List NameV) (files : List FileV) (opn : List Int) (ov : Value) (nv fv : Value) (w : World) (nv' fv' : Value) (w' : World) : Prop where
  a : DirAt d base names files opn nv' fv' ov w'
  n : Loc nv nv' w.heap.size
  f : Loc fv fv' w.heap.size
  c : ChP (DirP d nv fv) w w'
theorem DirOut.refl (h : DirAt d base names files opn nv fv ov w) : DirOut d base names files opn ov nv fv w nv fv w := ⟨h, Loc.refl _ _, Loc.refl _ _, ChP.refl _ _⟩
theorem dirP_of {nv' fv' : Value} {n : Nat} (h1 : Loc nv nv' n) (h2 : Loc fv fv' n) : ∀ i, i < n → DirP d nv' fv' i → DirP d nv fv i := fun i hi h => by
  rcases h with h | h | h
  · exact .inl h
  · rcases h1 i h with q | q
    · exact .inr (.inl q)
    · omega
  · rcases h2 i h with q | q
    · exact .inr (.inr q)
    · omega
theorem DirOut.trans {names1 names2 : List NameV} {files1 files2 : List FileV} {nv1 fv1 nv2 fv2 : Value} {w1 w2 : World} (h : DirOut d base names1 files1 opn ov nv fv w nv1 fv1 w1) (k : DirOut d base names2 files2 opn ov nv1 fv1 w1 nv2 fv2 w2) : DirOut d base names2 files2 opn ov nv fv w nv2 fv2 w2 :=
  ⟨k.a, h.n.trans k.n h.c.size, h.f.trans k.f h.c.size, h.c.trans k.c (dirP_of h.n h.f)⟩
theorem DirOut.below {nv1 fv1 : Value} {w1 w2 : World} (h : DirOut d base names files opn ov nv fv w nv1 fv1 w1) (k : Below w1.heap.size w1 w2) : DirOut d base names files opn ov nv fv w nv1 fv1 w2 := ⟨h.a.below k, h.n, h.f, h.c.below k⟩
theorem DirOut.after {nv1 fv1 : Value} {w0 w1 : World} (k : Below w0.heap.size w0 w) (h : DirOut d base names files opn ov nv fv w nv1 fv1 w1) : DirOut d base names files opn ov nv fv w0 nv1 fv1 w1 :=
  ⟨h.a, fun g hg => (h.n g hg).imp id (fun q => Nat.le_trans k.size q), fun g hg => (h.f g hg).imp id (fun q => Nat.le_trans k.size q), (ChP.ofBelow k).trans h.c (fun _ _ q => q)⟩
theorem row_row {b1 b2 : Nat} {e1 e2 : TypeId} {s1 s2 n1 n2 : Nat} {v1 v2 : Value} {x1 x2 : List Value} {w : World} (h1 : w.ownsRow b1 e1 s1 v1 n1 x1) (h2 : w.ownsRow b2 e2 s2 v2 n2 x2) (he : e1 ≠ e2) {g g' : Nat} (hg : v1.ownBlock = some g) (hg' : v2.ownBlock = some g') : g ≠ g' := by
  rintro rfl
  obtain ⟨cur, fz, q1, -⟩ := row_type h1 hg
  obtain ⟨cur2, fz2, q2, -⟩ := row_type h2 hg'
  rw [q1] at q2
  injection q2 with q3
  injection q3 with q4 q5
  exact he q5
/-- A row of at least one element. -/
theorem row_some {base : Nat} {e : TypeId} {size : Nat} {v : Value} {n : Nat} {xs : List Value} {w : World} (h : w.ownsRow base e size v n xs) (h0 : 0 < n) : ∃ g cap, v = .slice (some ⟨g, 0, none⟩) n cap ∧ base ≤ g ∧ g < w.heap.size ∧ n ≤ cap ∧ cap ≤ maxLen := by
  rcases row_form h with ⟨-, h2⟩ | q
  · omega
  · exact q
theorem encN_set : ∀ {L : List NameV} {i : Nat} (h : i < L.length) (v : Int), (encN L).set (i * 2 + 1) (.int .i64 v) = encN (L.set i (L[i].1, v))
  | [], i, h, _ => by simp at h
  | p :: r, 0, _, v => rfl
  | p :: r, i + 1, h, v => by
    have ih := encN_set (L := r) (i := i) (by simpa using h) v
    rw [show (i + 1) * 2 + 1 = i * 2 + 1 + 1 + 1 by omega]
    simp only [encN, List.set_cons_succ, ih, List.getElem_cons_succ]
/-- A name's number is written: what is left of the directory. -/
theorem DirOut.number {L : List NameV} {k g cap : Nat} {v : Value} {ino : Int} {w1 : World} (h : DirOut d base L files opn ov nv fv w v fv w1) (hv : v = .slice (some ⟨g, 0, none⟩) L.length cap) (hk : k < L.length) :
    DirOut d base (L.set k (L[k].1, ino)) files opn ov nv fv w v fv (w1.setCell ⟨g, k * 2 + 1, none⟩ (.int .i64 ino)) := by
  have hn := h.a.n
  subst hv
  have hst := World.ownsRow.stored hn (k * 2 + 1) (.int .i64 ino)
  rw [encN_set hk] at hst
  have hgd : g ≠ d := row_ne hn h.a.row (by decide) rfl
  have hch : ChP (fun i => i = g) w1 (w1.setCell ⟨g, k * 2 + 1, none⟩ (.int .i64 ino)) := (ChP.refl _ _).set g _ _ rfl
  refine ⟨⟨h.a.row.other _ _ (fun e => hgd e.symm), ?_, row_ch h.a.f hch (fun b hb => row_row h.a.f hn (by decide) hb rfl), row_ch h.a.o hch (fun b hb => row_row h.a.o hn (by decide) hb rfl), by rw [List.length_set]; exact h.a.nl, h.a.fl, h.a.ol, h.a.os, h.a.sl⟩, h.n, h.f, h.c.trans hch (fun i hi e => ?_)⟩
  · unfold NmR
    rw [List.length_set]
    exact hst.1
  · subst e
    rcases h.n i rfl with q | q
    · exact .inr (.inl q)
    · omega
set_option maxRecDepth 100000 in
set_option maxHeartbeats 4000000 in
theorem point_new (t : ByteArray) (ino : Int) (h : DirAt d base names files opn nv fv ov w) (hk : PlaceN names t names.length) (hlen : names.length ≤ 800) (hbase : base ≤ w.heap.size) :
    Calls Try.prog 62 #[.pointer (some ⟨d, 0, none⟩), .string t, .int .i64 ino] w fun e w' => e = .returned (.tuple #[]) ∧ ∃ nv', DirOut d base (names ++ [(t, ino)]) files opn ov nv fv w nv' fv w' := by
  have hf := findName_any names t names.length base nv w h.n (by have := h.nl; omega) hk
  have hh : hitN names t names.length = false := by unfold hitN; rw [dif_neg (by omega)]
  rw [hh] at hf
  obtain ⟨na, nm, nc, hnv⟩ := row_slice h.n
  have hd := h.row.lt
  have HH := Lib.hid h
  have H := Lib.hid hf
  have hins := fun W b (hW : Below w.heap.size w W) (hb : BkAt b 73 #[.string t, .int .i64 0] W) => insN_end names (t, 0) base b nv W (h.below hW).n (by omega) hb (Nat.le_trans hbase hW.size)
  have HI := Lib.hid hins
  obtain ⟨n, hn⟩ : ∃ n, names.length = n := ⟨_, rfl⟩
  have HN := Lib.hid hn
  obtain ⟨c0, -, -, f0, -, -⟩ := h.cs
  rw [hn] at H HI hlen
  subst hnv
  clear hf hins hh hk h hn hbase
  go_enter Try.func62, Try.ntmps62
  go_wp2_with fail
  refine H.out.mono ?_
  rintro e w1 ⟨rfl, hb1⟩
  have HB := Lib.hid hb1
  have g0 := (hb1.cell (p := ⟨d, 0, none⟩) hd).trans c0
  clear hb1 c0 f0
  go_wp2_with fail
  refine (HI.out _ _ (bl_trans' HB.out (below_new _ _)) (BkAt.new _ _ _)).mono ?_
  rintro e w2 ⟨⟨v2, rfl, hr2, hl2⟩, hg2⟩
  obtain ⟨g2, c2, rfl, hb2, hlt2, hcap2, hcm2⟩ := row_some hr2 (by simp)
  have hw1 := bl_trans' HB.out (below_new w1 (.cells #[.string t, .int .i64 0] 73))
  have h1 := HH.out.below hw1
  have hch := ChP.grown hg2
  have hrow2 : BkAt d 71 #[.slice na nm nc, fv, ov] w2 := h1.row.ch hch (fun e => row_ne h1.n h1.row (by decide) e rfl)
  have hout : DirOut d base (names ++ [(t, 0)]) files opn ov (.slice na nm nc) fv w (.slice (some ⟨g2, 0, none⟩) (names ++ [(t, 0)]).length c2) fv (w2.setCell ⟨d, 0, none⟩ (.slice (some ⟨g2, 0, none⟩) (names ++ [(t, 0)]).length c2)) := by
    have hf2 := row_ch h1.f hch (fun b hb e => row_row h1.n h1.f (by decide) e hb rfl)
    have ho2 := row_ch h1.o hch (fun b hb e => row_row h1.n h1.o (by decide) e hb rfl)
    have hcd : ChP (fun i => i = d) w2 (w2.setCell ⟨d, 0, none⟩ (.slice (some ⟨g2, 0, none⟩) (names ++ [(t, 0)]).length c2)) := (ChP.refl _ _).set d _ _ rfl
    refine ⟨⟨hrow2.set 0 _, row_ch hr2 hcd (fun b hb => row_ne hr2 hrow2 (by decide) hb), row_ch hf2 hcd (fun b hb => row_ne hf2 hrow2 (by decide) hb), row_ch ho2 hcd (fun b hb => row_ne ho2 hrow2 (by decide) hb), by simp; have := HN.out; omega, h1.fl, h1.ol, h1.os, h1.sl⟩, fun b hb => ?_, Loc.refl _ _, ?_⟩
    · rcases hl2 with q | q
      · exact .inl (q ▸ hb)
      · rw [q] at hb
        cases hb
        exact .inr hw1.size
    · exact (((ChP.ofBelow (P := DirP d (.slice na nm nc) fv) hw1).trans hch (fun i hi e => .inr (.inl e))).trans hcd (fun i hi e => .inl e))
  have hnum := hout.number (k := n) (ino := ino) rfl (by have := HN.out; simp; omega)
  have hset : (names ++ [(t, (0 : Int))]).set n (((names ++ [(t, (0 : Int))])[n]'(by have := HN.out; simp; omega)).1, ino) = names ++ [(t, ino)] := by
    have e := HN.out
    subst e
    simp
  rw [hset] at hnum
  have hlen2 : (names ++ [(t, (0 : Int))]).length = n + 1 := by have := HN.out; simp; omega
  have hcl := World.ownsRow.cellAt hout.a.n (n * 2 + 1) (by rw [hlen2]; omega)
  have hce := (encN_get (L := names ++ [(t, (0 : Int))]) (i := n) (by rw [hlen2]; omega)).2
  rw [hce] at hcl
  obtain ⟨q0, hq0⟩ : ∃ q, ((names ++ [(t, (0 : Int))])[n]'(by rw [hlen2]; omega)).2 = q := ⟨_, rfl⟩
  rw [hq0] at hcl
  clear hq0
  have hfr := World.ownsRow.frozenAt hout.a.n (n * 2 + 1)
  have hd0 := hout.a.row.cell 0
  rw [hlen2] at hnum hcl hfr hd0 hcap2 ⊢
  have s0 := hrow2.cell 0
  have s1 := hrow2.free 0
  have HO := Lib.hid hnum
  unfold maxLen at hcm2
  clear hnum hset hout hce hlen2 hrow2 hch h1 hw1 hl2 hg2 hr2 hb2 g0
  have hlt3 : n < n + 1 := by omega
  go_wp2
  go_end0
  exact ⟨rfl, _, HO.out⟩
end Go.Proofs.Ytbpboghjgbgjfaa
