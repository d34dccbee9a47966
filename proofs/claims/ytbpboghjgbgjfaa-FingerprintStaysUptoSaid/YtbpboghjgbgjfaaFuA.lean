/- FilesystemCopies' histories: create, startCopy, then a change of the original. -/
import Derived.Test.YtbpboghjgbgjfaaFsS
import Derived.Test.YtbpboghjgbgjfaaFtC
import Derived.Test.YtbpboghjgbgjfaaFtE
import Derived.Test.YtbpboghjgbgjfaaFtJ
namespace Go.Proofs.Ytbpboghjgbgjfaa
open Go.RowKit

/-- Bytes that are read alone, in a block of bytes. -/
def KB (W : World) (v : Value) (l : List UInt8) : Prop := ∃ g c cs fz, v = .slice (some ⟨g, 0, none⟩) l.length c ∧ l.length ≤ c ∧ l.length ≤ 100000000 ∧ W.heap[g]? = some (.cells cs 5 fz) ∧ ∀ (j : Nat) (u : Value), (byC l)[j]? = some u → cs[j]? = some u
theorem KB.keep {W W' : World} {v : Value} {l : List UInt8} (h : KB W v l) (k : RowKeep W W') : KB W' v l := by
  obtain ⟨g, c, cs, fz, h1, h0, hm, h2, h3⟩ := h
  exact ⟨g, c, cs, fz, h1, h0, hm, k.2 g cs fz h2, h3⟩
theorem KB.below {W W' : World} {v : Value} {l : List UInt8} (h : KB W v l) (k : Below W.heap.size W W') : KB W' v l := h.keep (rowKeep_below k)
theorem addr_add0 (g j : Nat) : (⟨g, 0, none⟩ : Addr).add j = ⟨g, j, none⟩ := by unfold Addr.add; split <;> simp_all
theorem KB.srcC {W : World} {v : Value} {l : List UInt8} (h : KB W v l) : SrcC W v l := by
  obtain ⟨g, c, cs, fz, h1, h0, hm, h2, h3⟩ := h
  refine ⟨g, c, h1, (Array.getElem?_eq_some_iff.1 h2).1, fun j u hj => ?_⟩
  rw [addr_add0, Lib.cell_of_heap h2 j]; exact h3 j u hj
theorem KB.srcB {W : World} {v : Value} {l : List UInt8} (h : KB W v l) : SrcB W v l := by
  obtain ⟨g, c, cs, fz, h1, h0, hm, h2, h3⟩ := h
  refine .inr ⟨g, c, h1, (Array.getElem?_eq_some_iff.1 h2).1, hm, fun j u hj => ?_⟩
  rw [addr_add0, Lib.cell_of_heap h2 j]; exact h3 j u hj
theorem KB.slice {W : World} {v : Value} {l : List UInt8} (h : KB W v l) : ∃ a m c, v = .slice a m c := by
  obtain ⟨g, c, cs, fz, h1, -⟩ := h; exact ⟨_, _, _, h1⟩
/-- The file of the copy, in its place among the files. -/
structure CopF (names : List NameV) (F : Bool → Int → List FileV) (dv : Value) (k j : Nat) : Prop where
  nm : ∀ wh lf, Named names (F wh lf) bsB k j
  n2 : ∀ h : k < names.length, (names[k]'h).2 = 2
  at' : ∀ wh lf (h : j < (F wh lf).length), (F wh lf)[j]'h = ⟨2, dv, true, wh, lf⟩
  set : ∀ wh lf wh' lf', (F wh lf).set j ⟨2, dv, true, wh', lf'⟩ = F wh' lf'
  used : ∀ wh lf, ∀ x ∈ F wh lf, usedB names [] x.ino = true
theorem place_B1 (i : Int) : PlaceN [(bsB, i)] bsB 0 := ⟨by simp, fun i h hi => by omega, fun i h hi => by
  have h2 : i < 1 := h
  obtain rfl : i = 0 := (by omega)
  show ¬ cmpB bsB bsB < 0
  rw [cmp_BB]; omega⟩
theorem place_BB (x y : Int) : PlaceN [(bsA, x), (bsB, y)] bsB 1 := ⟨by simp, fun i h hi => by
  obtain rfl : i = 0 := (by omega)
  show cmpB bsA bsB < 0
  rw [cmp_AB]; omega, fun i h hi => by
  have h2 : i < 2 := h
  obtain rfl : i = 1 := (by omega)
  show ¬ cmpB bsB bsB < 0
  rw [cmp_BB]; omega⟩
theorem cop1 (x dv : Value) : CopF [(bsA, 1), (bsB, 2)] (fun wh lf => [⟨1, x, false, true, 0⟩, ⟨2, dv, true, wh, lf⟩]) dv 1 1 :=
  ⟨fun _ _ => named_B2 _ _ rfl rfl, fun _ => rfl, fun _ _ _ => rfl, fun _ _ _ _ => rfl, fun wh lf y hy => by
    simp only [List.mem_cons, List.not_mem_nil, or_false] at hy; rcases hy with rfl | rfl <;> rfl⟩
theorem cop2 (dv : Value) : CopF [(bsB, 2)] (fun wh lf => [⟨2, dv, true, wh, lf⟩]) dv 0 0 :=
  ⟨fun wh lf => ⟨place_B1 2, by decide, by unfold hitN; rw [dif_pos (by decide)]; exact decide_eq_true cmp_BB, ⟨Nat.zero_le _, fun i h hi => by omega, fun h => rfl⟩, by simp⟩, fun _ => rfl, fun _ _ _ => rfl, fun _ _ _ _ => rfl, fun wh lf y hy => by
    simp only [List.mem_singleton] at hy; subst hy; rfl⟩
theorem cop3 (x dv : Value) : CopF [(bsA, 3), (bsB, 2)] (fun wh lf => [⟨2, dv, true, wh, lf⟩, ⟨3, x, false, true, 0⟩]) dv 1 0 :=
  ⟨fun wh lf => ⟨place_BB 3 2, by decide, by unfold hitN; rw [dif_pos (by decide)]; exact decide_eq_true cmp_BB, ⟨Nat.zero_le _, fun i h hi => by omega, fun h => rfl⟩, by simp⟩, fun _ => rfl, fun _ _ _ => rfl, fun _ _ _ _ => rfl, fun wh lf y hy => by
    simp only [List.mem_cons, List.not_mem_nil, or_false] at hy; rcases hy with rfl | rfl <;> rfl⟩
/-- What the three changes lead to. -/
def R3 (N3 : List NameV) (l : List UInt8) (fs : List FileV) (W : World) : Prop := ∃ F dv k j, fs = F false (l.length : Int) ∧ DtR W dv l ∧ CopF N3 F dv k j
theorem r3_keep (N3 : List NameV) (l : List UInt8) : ∀ fs W W', R3 N3 l fs W → (∀ v l, DtR W v l → DtR W' v l) → R3 N3 l fs W' := fun _ _ _ ⟨F, dv, k, j, h1, h2, h3⟩ hd => ⟨F, dv, k, j, h1, hd _ _ h2, h3⟩
theorem r3_used (N3 : List NameV) (l : List UInt8) : ∀ fs W, R3 N3 l fs W → ∀ x ∈ fs, usedB N3 [] x.ino = true := fun _ _ ⟨_, _, _, _, h1, _, h3⟩ x hx => h3.used _ _ x (h1 ▸ hx)
def R1 (l : List UInt8) (fs : List FileV) (W : World) : Prop := ∃ dv, fs = [⟨1, dv, false, true, 0⟩] ∧ DtR W dv l
def R2 (l : List UInt8) (fs : List FileV) (W : World) : Prop := ∃ dv dv2, fs = [⟨1, dv, false, true, 0⟩, ⟨2, dv2, true, false, (l.length : Int)⟩] ∧ DtR W dv l ∧ DtR W dv2 l
/-- What follows the copy's start. -/
structure Third where
  N : List NameV
  C : ChF
def third (xdv : Value) : Nat → Third
  | 0 => ⟨[(bsA, 1), (bsB, 2)], ⟨3, bsA, ⟨#[]⟩, .slice none 0 0, 0⟩⟩
  | 1 => ⟨[(bsA, 1), (bsB, 2)], ⟨2, bsA, ⟨#[]⟩, xdv, 0⟩⟩
  | 2 => ⟨[(bsB, 2)], ⟨7, bsA, ⟨#[]⟩, .slice none 0 0, 0⟩⟩
  | _ => ⟨[(bsA, 3), (bsB, 2)], ⟨8, bsA, ⟨#[]⟩, xdv, 0⟩⟩
def NmC (N3 : List NameV) : Nat → List NameV
  | 0 => []
  | 1 => [(bsA, 1)]
  | 2 => [(bsA, 1), (bsB, 2)]
  | _ => N3
def RC (N3 : List NameV) (l : List UInt8) : Nat → List FileV → World → Prop
  | 0 => fun fs _ => fs = []
  | 1 => R1 l
  | 2 => R2 l
  | _ => R3 N3 l
def CC (cdv : Value) (C3 : ChF) : Nat → ChF
  | 0 => ⟨1, bsA, ⟨#[]⟩, cdv, 0⟩
  | 1 => ⟨5, bsA, bsB, .slice none 0 0, 0⟩
  | _ => C3
def StC (N3 : List NameV) (cdv : Value) (l : List UInt8) (xdv : Value) (lx : List UInt8) (k : Nat) (nv fv ov : Value) (W : World) : Prop :=
  (∃ fs, RC N3 l k fs W ∧ FsAt (NmC N3 k) fs [] nv fv ov W) ∧ KB W cdv l ∧ KB W xdv lx ∧ ov = .slice none 0 0
theorem rc_keep (N3 : List NameV) (l : List UInt8) (k : Nat) : ∀ fs W W', RC N3 l k fs W → (∀ v l, DtR W v l → DtR W' v l) → RC N3 l k fs W' := fun fs W W' h hd => by
  match k, h with
  | 0, h => exact h
  | 1, h => obtain ⟨dv, h1, h2⟩ := h; exact ⟨dv, h1, hd _ _ h2⟩
  | 2, h => obtain ⟨dv, dv2, h1, h2, h3⟩ := h; exact ⟨dv, dv2, h1, hd _ _ h2, hd _ _ h3⟩
  | k + 3, h => exact r3_keep N3 l fs W W' h hd
theorem stC_keep {N3 : List NameV} {cdv : Value} {l : List UInt8} {xdv : Value} {lx : List UInt8} {k : Nat} {nv fv ov : Value} {W W' : World} (h : StC N3 cdv l xdv lx k nv fv ov W) (hk : RowKeep W W') : StC N3 cdv l xdv lx k nv fv ov W' := by
  obtain ⟨⟨fs, h1, h2⟩, h3, h4, h5⟩ := h
  exact ⟨⟨fs, rc_keep N3 l k fs W W' h1 (fun v l hv => hk.1 _ _ _ _ _ _ (by decide) (by decide) hv), hk.1 _ _ _ _ _ _ (by decide) (by decide) h2.n, hk.1 _ _ _ _ _ _ (by decide) (by decide) h2.f, hk.1 _ _ _ _ _ _ (by decide) (by decide) h2.o, h2.nl, h2.fl, h2.ol, h2.os, h2.sl⟩, h3.keep hk, h4.keep hk, h5⟩
/-- sweep where nothing goes, in doS_..'s words. -/
theorem sw_none {names2 : List NameV} {ov : Value} {R : List FileV → World → Prop} (hR : ∀ fs W W', R fs W → (∀ v l, DtR W v l → DtR W' v l) → R fs W') (hU : ∀ fs W, R fs W → ∀ x ∈ fs, usedB names2 [] x.ino = true) {d base : Nat} {W : World} {nv' fv' : Value} {fs : List FileV} (ha : DirAt d base names2 fs [] nv' fv' ov W) (hr : R fs W) :
    Calls Try.prog 25 #[.pointer (some ⟨d, 0, none⟩)] W (SwOut d base names2 [] ov R nv' fv' W) :=
  (sweep_none ha (hU fs W hr)).mono fun e w' ⟨he, hd, hc⟩ => ⟨he, fs, fv', ⟨hd, Loc.refl _ _, Loc.refl _ _, hc.mono (fun i _ e => .inl e)⟩, hR fs W w' hr (fun v l hv => row_ch hv hc (fun g hg e => row_ne hv ha.row (by decide) hg e))⟩
/-- Do's end, in the history's words. -/
theorem stC_of {N3 : List NameV} {cdv : Value} {l : List UInt8} {xdv : Value} {lx : List UInt8} {k : Nat} {w : World} {e : Ending} {w' : World} (h : DoOut (NmC N3 (k + 1)) [] (.slice none 0 0) (RC N3 l (k + 1)) w e w') (h3 : KB w cdv l) (h4 : KB w xdv lx) :
    ∃ nv' fv' ov', e = .returned (.tuple #[.agg #[nv', fv', ov'], .int .i64 0]) ∧ StC N3 cdv l xdv lx (k + 1) nv' fv' ov' w' ∧ Below w.heap.size w w' := by
  obtain ⟨fs, nv2, fv2, h1, h2, h5, h6⟩ := h
  exact ⟨nv2, fv2, _, h1, ⟨⟨fs, h5, h2⟩, h3.below h6, h4.below h6, rfl⟩, h6⟩
section
variable {l lx : List UInt8} {xdv nv fv : Value} {w : World} {dv dv2 : Value}
theorem st_trunc (h2 : FsAt [(bsA, 1), (bsB, 2)] [⟨1, dv, false, true, 0⟩, ⟨2, dv2, true, false, (l.length : Int)⟩] [] nv fv (.slice none 0 0) w) (hd2 : DtR w dv2 l) :
    Calls Try.prog 15 #[.agg #[nv, fv, .slice none 0 0], .agg #[.int .i64 3, .string bsA, .string ⟨#[]⟩, .slice none 0 0, .int .i64 0]] w (DoOut [(bsA, 1), (bsB, 2)] [] (.slice none 0 0) (R3 [(bsA, 1), (bsB, 2)] l) w) := by
  refine do_truncate bsA ⟨#[]⟩ (.slice none 0 0) 0 _ (R3 _ l) h2 ⟨isNm_A, fun h => by rcases h with h | h <;> cases h⟩ ⟨_, _, _, rfl⟩ (r3_keep _ l) (r3_used _ l) (fun d base W2 nv' fv' ha hb hW => ?_)
  exact (truncate_ok 3 bsA ⟨#[]⟩ (.slice none 0 0) 0 0 0 ha (named_A2 _ _ rfl) rfl).mono fun e w' ⟨he, ho⟩ => ⟨he, _, nv', fv', ho, _, dv2, 1, 1, rfl, (hd2.below hW).dir ha ho.c, cop1 _ dv2⟩
theorem st_app (h2 : FsAt [(bsA, 1), (bsB, 2)] [⟨1, dv, false, true, 0⟩, ⟨2, dv2, true, false, (l.length : Int)⟩] [] nv fv (.slice none 0 0) w) (hd : DtR w dv l) (hd2 : DtR w dv2 l) (hx : KB w xdv lx) (h0 : 0 < l.length) (hl : l.length + lx.length ≤ 60000) :
    Calls Try.prog 15 #[.agg #[nv, fv, .slice none 0 0], .agg #[.int .i64 2, .string bsA, .string ⟨#[]⟩, xdv, .int .i64 0]] w (DoOut [(bsA, 1), (bsB, 2)] [] (.slice none 0 0) (R3 [(bsA, 1), (bsB, 2)] l) w) := by
  refine doS_append bsA ⟨#[]⟩ xdv 0 _ (R3 _ l) (R3 _ l) h2 ⟨isNm_A, fun h => by rcases h with h | h <;> cases h⟩ hx.slice (r3_keep _ l) (fun d base W nv' fv' fs ha hr => sw_none (r3_keep _ l) (r3_used _ l) ha hr) (fun d base W2 nv' fv' ha hb hW => ?_)
  refine (append_ok 2 bsA ⟨#[]⟩ xdv 0 0 0 l lx ha (named_A2 _ _ rfl) rfl ((hd.below hW).srcC h0) (hx.below hW).srcC (by omega) hl).mono fun e w' ⟨he, dv', ho, hdt⟩ => ⟨he, _, nv', fv', ho, _, dv2, 1, 1, rfl, (hd2.below hW).dir ha ho.c, cop1 _ dv2⟩
theorem hp_A : ∀ i (h : i < [(bsA, (1 : Int)), (bsB, 2)].length), (([(bsA, (1 : Int)), (bsB, 2)][i]).1.toList == bsA.toList) = decide (i = 0) := fun i h => by
  have h2 : i < 2 := h
  have h3 : i = 0 ∨ i = 1 := (by omega)
  rcases h3 with rfl | rfl
  · exact (by rw [Lib.toList_data]; rfl : (bsA.toList == bsA.toList) = true)
  · exact (by rw [Lib.toList_data, Lib.toList_data]; rfl : (bsB.toList == bsA.toList) = false)
theorem st_rem (h2 : FsAt [(bsA, 1), (bsB, 2)] [⟨1, dv, false, true, 0⟩, ⟨2, dv2, true, false, (l.length : Int)⟩] [] nv fv (.slice none 0 0) w) (hd : DtR w dv l) (hd2 : DtR w dv2 l) :
    Calls Try.prog 15 #[.agg #[nv, fv, .slice none 0 0], .agg #[.int .i64 7, .string bsA, .string ⟨#[]⟩, .slice none 0 0, .int .i64 0]] w (DoOut [(bsB, 2)] [] (.slice none 0 0) (R3 [(bsB, 2)] l) w) := by
  refine doS_remove bsA ⟨#[]⟩ (.slice none 0 0) 0 _ (R2 l) (R3 _ l) h2 ⟨isNm_A, fun h => by rcases h with h | h <;> cases h⟩ ⟨_, _, _, rfl⟩ (r3_keep _ l) (fun d base W nv' fv' fs ha hr => ?_) (fun d base W2 nv' fv' ha hb hW => ?_)
  · obtain ⟨ev, ev2, rfl, he1, he2⟩ := hr
    refine (sweep_one 0 1 ha rfl (by omega) (fun i h => ?_) (fun x hx => ?_)).mono fun e w' ⟨he, fv2, ho⟩ => ⟨he, _, fv2, ho, _, ev2, 0, 0, rfl, he2.dir ha ho.c, cop2 ev2⟩
    · have h2 : i < 2 := h
      have h3 : i = 0 ∨ i = 1 := (by omega)
      rcases h3 with rfl | rfl <;> rfl
    · simp only [List.mem_cons, List.not_mem_nil, or_false] at hx
      rcases hx with rfl | rfl
      · exact row_slice he1
      · exact row_slice he2
  · exact (remove_ok 7 bsA ⟨#[]⟩ (.slice none 0 0) 0 0 0 1 ha (named_A2 _ _ rfl) rfl (by omega) hp_A).mono fun e w' ⟨he, nv2, ho⟩ => ⟨he, _, nv2, fv', ho, dv, dv2, rfl, (hd.below hW).dir ha ho.c, (hd2.below hW).dir ha ho.c⟩
def R4 (l lx : List UInt8) (fs : List FileV) (W : World) : Prop := ∃ dv dv2 x, fs = [⟨1, dv, false, true, 0⟩, ⟨2, dv2, true, false, (l.length : Int)⟩, ⟨3, x, false, true, 0⟩] ∧ DtR W dv l ∧ DtR W dv2 l ∧ DtR W x lx
theorem st_rep (h2 : FsAt [(bsA, 1), (bsB, 2)] [⟨1, dv, false, true, 0⟩, ⟨2, dv2, true, false, (l.length : Int)⟩] [] nv fv (.slice none 0 0) w) (hd : DtR w dv l) (hd2 : DtR w dv2 l) (hx : KB w xdv lx) (hl : lx.length ≤ 60000) :
    Calls Try.prog 15 #[.agg #[nv, fv, .slice none 0 0], .agg #[.int .i64 8, .string bsA, .string ⟨#[]⟩, xdv, .int .i64 0]] w (DoOut [(bsA, 3), (bsB, 2)] [] (.slice none 0 0) (R3 [(bsA, 3), (bsB, 2)] l) w) := by
  refine doS_replace bsA ⟨#[]⟩ xdv 0 _ (R4 l lx) (R3 _ l) h2 ⟨isNm_A, fun h => by rcases h with h | h <;> cases h⟩ hx.slice (r3_keep _ l) (fun d base W nv' fv' fs ha hr => ?_) (fun d base W2 nv' fv' ha hb hW => ?_)
  · obtain ⟨ev, ev2, ev3, rfl, he1, he2, he3⟩ := hr
    refine (sweep_one 0 2 ha rfl (by omega) (fun i h => ?_) (fun x hx => ?_)).mono fun e w' ⟨he, fv2, ho⟩ => ⟨he, _, fv2, ho, _, ev2, 1, 0, rfl, he2.dir ha ho.c, cop3 ev3 ev2⟩
    · have h2 : i < 3 := h
      have h3 : i = 0 ∨ i = 1 ∨ i = 2 := (by omega)
      rcases h3 with rfl | rfl | rfl <;> rfl
    · simp only [List.mem_cons, List.not_mem_nil, or_false] at hx
      rcases hx with rfl | rfl | rfl
      · exact row_slice he1
      · exact row_slice he2
      · exact row_slice he3
  · exact (replace_ok 8 bsA ⟨#[]⟩ xdv 0 lx 0 0 ha (named_A2 _ _ rfl) hl (hx.below hW).srcB (fun i h => by
      have h2 : i < 2 := h
      have h3 : i = 0 ∨ i = 1 := (by omega)
      rcases h3 with rfl | rfl <;> rfl) (by simp) hb).mono fun e w' ⟨he, nv2, fv2, x, ho, hdt⟩ => ⟨he, _, nv2, fv2, ho, dv, dv2, x, rfl, (hd.below hW).dir ha ho.c, (hd2.below hW).dir ha ho.c, hdt⟩
end
theorem hist_copy (m : Nat) (cdv : Value) (l : List UInt8) (xdv : Value) (lx : List UInt8) (h0 : 0 < l.length) (hl : l.length + lx.length ≤ 60000) : Hist 3 (CC cdv (third xdv m).C) (fun _ => 0) (StC (third xdv m).N cdv l xdv lx) := by
  refine ⟨fun k nv fv ov W W' h hk => stC_keep h hk, fun k nv fv ov W h => ?_, fun k nv fv ov W hk h => ?_⟩
  · obtain ⟨⟨fs, -, h2⟩, -⟩ := h
    exact ⟨row_slice h2.n, row_slice h2.f, row_slice h2.o⟩
  · obtain ⟨⟨fs, h1, h2⟩, h3, h4, rfl⟩ := h
    have hc : k = 0 ∨ k = 1 ∨ k = 2 := by omega
    rcases hc with rfl | rfl | rfl
    · obtain rfl := h1
      refine (do_create bsA ⟨#[]⟩ cdv 0 _ (RC (third xdv m).N l 1) h2 ⟨isNm_A, fun h => by rcases h with h | h <;> cases h⟩ h3.slice (rc_keep _ l 1) (fun fs W ⟨dv, he, _⟩ x hx => by
        subst he; simp only [List.mem_singleton] at hx; subst hx; rfl) (fun d base W2 nv' fv' ha hb hW => ?_)).mono fun e w' h => stC_of h h3 h4
      exact (create_ok 1 bsA ⟨#[]⟩ cdv 0 l ha (place0 bsA) (by show 0 < 40; omega) (by omega) (h3.below hW).srcB (fun i hi => absurd hi (by simp)) (by decide) hb).mono fun e w' ⟨he, nv2, fv2, dv2, ho, hdt⟩ => ⟨he, _, nv2, fv2, ho, dv2, rfl, hdt⟩
    · obtain ⟨dv, rfl, hd⟩ := h1
      refine (do_startCopy bsA bsB (.slice none 0 0) 0 _ (RC (third xdv m).N l 2) h2 ⟨isNm_A, fun _ => isNm_B⟩ ⟨_, _, _, rfl⟩ (rc_keep _ l 2) (fun fs W ⟨dv, dv2, he, _⟩ x hx => by
        subst he; simp only [List.mem_cons, List.not_mem_nil, or_false] at hx; rcases hx with rfl | rfl <;> rfl) (fun d base W2 nv' fv' ha hb hW => ?_)).mono fun e w' h => stC_of h h3 h4
      exact (startCopy_ok 5 bsA bsB (.slice none 0 0) 0 l 0 0 ha (named_A1 _ rfl) rfl place_AB1 (by show 1 < 40; omega) (by omega) (hd.below hW) (fun i hi => by
        have h2 : i < 1 := hi
        obtain rfl : i = 0 := (by omega)
        rfl) (by simp) hb).mono fun e w' ⟨he, nv2, fv2, dv2, ho, hdt⟩ => ⟨he, _, nv2, fv2, ho, dv, dv2, rfl, (hd.below hW).dir ha ho.c, hdt⟩
    · obtain ⟨dv, dv2, rfl, hd, hd2⟩ := h1
      match m with
      | 0 => exact (st_trunc h2 hd2).mono fun e w' h => stC_of h h3 h4
      | 1 => exact (st_app h2 hd hd2 h4 h0 hl).mono fun e w' h => stC_of h h3 h4
      | 2 => exact (st_rem h2 hd hd2).mono fun e w' h => stC_of h h3 h4
      | m + 3 => exact (st_rep h2 hd hd2 h4 (by omega)).mono fun e w' h => stC_of h h3 h4
end Go.Proofs.Ytbpboghjgbgjfaa
