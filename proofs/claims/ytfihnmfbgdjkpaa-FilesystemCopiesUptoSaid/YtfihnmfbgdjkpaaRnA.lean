/- FilesystemRenames' histories; Read of a file that is not there. -/
import Derived.Test.YtfihnmfbgdjkpaaFuA
import Derived.Test.YtfihnmfbgdjkpaaFtK
import Derived.Test.YtfihnmfbgdjkpaaFsR
namespace Go.Proofs.Ytfihnmfbgdjkpaa
open Go.RowKit

section
variable {names : List NameV} {files : List FileV} {opn : List Int} {nv fv ov : Value} {w : World}
set_option maxRecDepth 100000 in
set_option linter.unusedSimpArgs false in
set_option maxHeartbeats 4000000 in
theorem read_none (ino : Int) (h : FsAt names files opn nv fv ov w) (hf : Firsts (fun x => x.ino == ino) files files.length) :
    Calls Try.prog 16 #[.agg #[nv, fv, ov], .int .i64 ino] w fun e w' => e = .returned (.tuple #[.agg #[.int .i64 0, .slice none 0 0, .bool false, .bool false, .int .i64 0], .bool false]) ∧ Below w.heap.size w w' := by
  obtain ⟨na, nm, nc, rfl⟩ := row_slice h.n
  obtain ⟨fa, fm, fc, rfl⟩ := row_slice h.f
  obtain ⟨oa, om, oc, rfl⟩ := row_slice h.o
  have hbn := below_new w (.cells #[.slice na nm nc, .slice fa fm fc, .slice oa om oc] 31)
  have hbx := BkAt.new 31 #[.slice na nm nc, .slice fa fm fc, .slice oa om oc] w
  have hz1 : (w.alloc (.cells #[.slice na nm nc, .slice fa fm fc, .slice oa om oc] 31)).heap.size = w.heap.size + 1 := by simp
  have hbr : BkAt (w.heap.size + 1) 45 #[.int .i64 0, .slice none 0 0, .bool false, .bool false, .int .i64 0] ((w.alloc (.cells #[.slice na nm nc, .slice fa fm fc, .slice oa om oc] 31)).alloc (.cells #[.int .i64 0, .slice none 0 0, .bool false, .bool false, .int .i64 0] 45)) := hz1 ▸ BkAt.new _ _ _
  have hb2 := below_new (w.alloc (.cells #[.slice na nm nc, .slice fa fm fc, .slice oa om oc] 31)) (.cells #[.int .i64 0, .slice none 0 0, .bool false, .bool false, .int .i64 0] 45)
  have hb3 := bl_trans' hbn hb2
  have hff := findFile_any files ino files.length 0 _ _ (h.below hb3).f (by have := h.fl; omega) hf
  have e0 : placeZ files.length files.length = -1 := by unfold placeZ; rw [if_neg (by omega)]
  rw [e0] at hff
  have H := Lib.hid (And.intro hff (And.intro hb3 (And.intro (hbx.below hb2) hbr)))
  clear hff hbn hbx h hf hb2 hb3 hbr hz1 e0
  go_enter Try.func16, Try.ntmps16
  go_wp2_with fail
  have c1 := H.out.2.2.1.cell 1
  simp only [List.getElem?_toArray, List.getElem?_cons_zero, List.getElem?_cons_succ] at c1
  go_wp2_with fail
  refine H.out.1.mono ?_
  rintro e w1 ⟨rfl, hb1⟩
  have hr := H.out.2.2.2.below hb1
  have hge : w.heap.size ≤ w.heap.size + 1 := Nat.le_succ _
  have hbw := bl_trans' H.out.2.1 hb1
  obtain ⟨br, hbr⟩ : ∃ b, w.heap.size + 1 = b := ⟨_, rfl⟩
  rw [hbr] at hr hge ⊢
  obtain ⟨r0, r1, r2, r3, r4⟩ : w1.cell? ⟨br, 0, none⟩ = some (.int .i64 0) ∧ w1.cell? ⟨br, 1, none⟩ = some (.slice none 0 0) ∧ w1.cell? ⟨br, 2, none⟩ = some (.bool false) ∧ w1.cell? ⟨br, 3, none⟩ = some (.bool false) ∧ w1.cell? ⟨br, 4, none⟩ = some (.int .i64 0) := ⟨hr.cell 0, hr.cell 1, hr.cell 2, hr.cell 3, hr.cell 4⟩
  obtain ⟨s0, s1, s2, s3, s4⟩ : w1.frozen? ⟨br, 0, none⟩ = false ∧ w1.frozen? ⟨br, 1, none⟩ = false ∧ w1.frozen? ⟨br, 2, none⟩ = false ∧ w1.frozen? ⟨br, 3, none⟩ = false ∧ w1.frozen? ⟨br, 4, none⟩ = false := ⟨hr.free 0, hr.free 1, hr.free 2, hr.free 3, hr.free 4⟩
  have hfin := ((((hbw.setCell (p := ⟨br, 0, none⟩) hge (.int .i64 0)).setCell (p := ⟨br, 1, none⟩) hge (.slice none 0 0)).setCell (p := ⟨br, 2, none⟩) hge (.bool false)).setCell (p := ⟨br, 3, none⟩) hge (.bool false)).setCell (p := ⟨br, 4, none⟩) hge (.int .i64 0)
  have HF := Lib.hid hfin
  clear hr hbw hbr hge hfin hb1 c1
  go_wp2
  exact bodyPost_ret (v := .tuple #[.agg #[.int .i64 0, .slice none 0 0, .bool false, .bool false, .int .i64 0], .bool false]) (by simp [results, Try.results16, go_sem, r0, r1, r2, r3, r4]) rfl ⟨rfl, HF.out⟩
end
def bsC : ByteArray := ⟨#[99]⟩
theorem isNm_C : IsNm bsC := ⟨by decide, by decide, fun i h => by
  have h1 : i < 1 := h
  obtain rfl : i = 0 := (by omega)
  exact (by decide : 33 ≤ (99 : UInt8).toNat ∧ (99 : UInt8).toNat ≤ 126)⟩
theorem cmp_CC : cmpB bsC bsC = 0 := by decide
theorem place_C1 (i : Int) : PlaceN [(bsC, i)] bsC 0 := ⟨by simp, fun i h hi => by omega, fun i h hi => by
  have h2 : i < 1 := h
  obtain rfl : i = 0 := (by omega)
  show ¬ cmpB bsC bsC < 0
  rw [cmp_CC]; omega⟩
theorem hit_C (i : Int) : hitN [(bsC, i)] bsC 0 = true := by unfold hitN; rw [dif_pos (by simp)]; exact decide_eq_true cmp_CC
theorem hit_B (i : Int) : hitN [(bsB, i)] bsB 0 = true := by unfold hitN; rw [dif_pos (by simp)]; exact decide_eq_true cmp_BB
theorem named_B1 (x : FileV) (hx : x.ino = 1) : Named [(bsB, 1)] [x] bsB 0 0 :=
  ⟨place_B1 1, by decide, hit_B 1, ⟨Nat.zero_le _, fun i h hi => by omega, fun h => by show (x.ino == 1) = true; rw [hx]; rfl⟩, by simp⟩
theorem hp_A1 : ∀ i (h : i < [(bsA, (1 : Int))].length), (([(bsA, (1 : Int))][i]).1.toList == bsA.toList) = decide (i = 0) := fun i h => by
  have h2 : i < 1 := h
  obtain rfl : i = 0 := (by omega)
  exact (by rw [Lib.toList_data]; rfl : (bsA.toList == bsA.toList) = true)
theorem hp_B1 : ∀ i (h : i < [(bsB, (1 : Int))].length), (([(bsB, (1 : Int))][i]).1.toList == bsB.toList) = decide (i = 0) := fun i h => by
  have h2 : i < 1 := h
  obtain rfl : i = 0 := (by omega)
  exact (by rw [Lib.toList_data]; rfl : (bsB.toList == bsB.toList) = true)
theorem ne_BA : (bsB.toList == bsA.toList) = false := by rw [Lib.toList_data, Lib.toList_data]; rfl
theorem r1_keep (l : List UInt8) : ∀ fs W W', R1 l fs W → (∀ v l, DtR W v l → DtR W' v l) → R1 l fs W' := fun _ _ _ ⟨dv, h1, h2⟩ hd => ⟨dv, h1, hd _ _ h2⟩
/-- sweep where nothing goes, whatever is held. -/
theorem sw_noneO {names2 : List NameV} {opn : List Int} {ov : Value} {R : List FileV → World → Prop} (hR : ∀ fs W W', R fs W → (∀ v l, DtR W v l → DtR W' v l) → R fs W') (hU : ∀ fs W, R fs W → ∀ x ∈ fs, usedB names2 opn x.ino = true) {d base : Nat} {W : World} {nv' fv' : Value} {fs : List FileV} (ha : DirAt d base names2 fs opn nv' fv' ov W) (hr : R fs W) :
    Calls Try.prog 41 #[.pointer (some ⟨d, 0, none⟩)] W (SwOut d base names2 opn ov R nv' fv' W) :=
  (sweep_none ha (hU fs W hr)).mono fun e w' ⟨he, hd, hc⟩ => ⟨he, fs, fv', ⟨hd, Loc.refl _ _, Loc.refl _ _, hc.mono (fun i _ e => .inl e)⟩, hR fs W w' hr (fun v l hv => row_ch hv hc (fun g hg e => row_ne hv ha.row (by decide) hg e))⟩
def NmA : Nat → List NameV
  | 0 => []
  | 1 => [(bsA, 1)]
  | _ => [(bsB, 1)]
def RA (l : List UInt8) : Nat → List FileV → World → Prop
  | 0 => fun fs _ => fs = []
  | _ => R1 l
def CA (cdv : Value) : Nat → ChF
  | 0 => ⟨1, bsA, ⟨#[]⟩, cdv, 0⟩
  | _ => ⟨4, bsA, bsB, .slice none 0 0, 0⟩
def StA (cdv : Value) (l : List UInt8) (k : Nat) (nv fv ov : Value) (W : World) : Prop :=
  (∃ fs, RA l k fs W ∧ FsAt (NmA k) fs [] nv fv ov W) ∧ KB W cdv l ∧ ov = .slice none 0 0
theorem ra_keep (l : List UInt8) (k : Nat) : ∀ fs W W', RA l k fs W → (∀ v l, DtR W v l → DtR W' v l) → RA l k fs W' := fun fs W W' h hd => by
  match k, h with
  | 0, h => exact h
  | k + 1, h => exact r1_keep l fs W W' h hd
theorem fs_keep {names : List NameV} {files : List FileV} {opn : List Int} {nv fv ov : Value} {W W' : World} (h2 : FsAt names files opn nv fv ov W) (hk : RowKeep W W') : FsAt names files opn nv fv ov W' :=
  ⟨hk.1 _ _ _ _ _ _ (by decide) (by decide) h2.n, hk.1 _ _ _ _ _ _ (by decide) (by decide) h2.f, hk.1 _ _ _ _ _ _ (by decide) (by decide) h2.o, h2.nl, h2.fl, h2.ol, h2.os, h2.sl⟩
theorem dt_keep {W W' : World} (hk : RowKeep W W') : ∀ v l, DtR W v l → DtR W' v l := fun _ _ hv => hk.1 _ _ _ _ _ _ (by decide) (by decide) hv
theorem hist_A (cdv : Value) (l : List UInt8) (hl : l.length ≤ 60000) : Hist 2 (CA cdv) (fun _ => 0) (StA cdv l) := by
  refine ⟨fun k nv fv ov W W' h hk => ?_, fun k nv fv ov W h => ?_, fun k nv fv ov W hk h => ?_⟩
  · obtain ⟨⟨fs, h1, h2⟩, h3, h4⟩ := h
    exact ⟨⟨fs, ra_keep l k fs W W' h1 (dt_keep hk), fs_keep h2 hk⟩, h3.keep hk, h4⟩
  · obtain ⟨⟨fs, -, h2⟩, -⟩ := h
    exact ⟨row_slice h2.n, row_slice h2.f, row_slice h2.o⟩
  · obtain ⟨⟨fs, h1, h2⟩, h3, rfl⟩ := h
    have fin : ∀ {e : Ending} {w' : World}, DoOut (NmA (k + 1)) [] (.slice none 0 0) (RA l (k + 1)) W e w' → ∃ nv' fv' ov', e = .returned (.tuple #[.agg #[nv', fv', ov'], .int .i64 0]) ∧ StA cdv l (k + 1) nv' fv' ov' w' ∧ Below W.heap.size W w' := fun h => by
      obtain ⟨fs, nv2, fv2, h1, h2, h5, h6⟩ := h
      exact ⟨nv2, fv2, _, h1, ⟨⟨fs, h5, h2⟩, h3.below h6, rfl⟩, h6⟩
    have hc : k = 0 ∨ k = 1 := by omega
    rcases hc with rfl | rfl
    · obtain rfl := h1
      refine (do_create bsA ⟨#[]⟩ cdv 0 _ (RA l 1) h2 ⟨isNm_A, fun h => by rcases h with h | h <;> cases h⟩ h3.slice (ra_keep l 1) (fun fs W ⟨dv, he, _⟩ x hx => by
        subst he; simp only [List.mem_singleton] at hx; subst hx; rfl) (fun d base W2 nv' fv' ha hb hW => ?_)).mono fun e w' h => fin h
      exact (create_ok 1 bsA ⟨#[]⟩ cdv 0 l ha (place0 bsA) (by show 0 < 40; omega) (by omega) (h3.below hW).srcB (fun i hi => absurd hi (by simp)) (by decide) hb).mono fun e w' ⟨he, nv2, fv2, dv2, ho, hdt⟩ => ⟨he, _, nv2, fv2, ho, dv2, rfl, hdt⟩
    · obtain ⟨dv, rfl, hd⟩ := h1
      refine (doS_rename bsA bsB (.slice none 0 0) 0 _ (R1 l) (R1 l) h2 ⟨isNm_A, fun _ => isNm_B⟩ ⟨_, _, _, rfl⟩ (r1_keep l) (fun d base W nv' fv' fs ha hr => sw_noneO (r1_keep l) (fun fs W ⟨dv, he, _⟩ x hx => by
        subst he; simp only [List.mem_singleton] at hx; subst hx; rfl) ha hr) (fun d base W2 nv' fv' ha hb hW => ?_)).mono fun e w' h => fin h
      exact (rename_ok 4 bsA bsB (.slice none 0 0) 0 0 0 0 ha (named_A1 _ rfl) rfl (by omega) hp_A1 ne_BA (place0 bsB) (by omega) hb).mono fun e w' ⟨he, nv2, ho⟩ => ⟨he, _, nv2, fv', ho, dv, rfl, (hd.below hW).dir ha ho.c⟩
/-- What is left behind the second changes: held or not. -/
def R5 (l lz : List UInt8) (fs : List FileV) (W : World) : Prop := ∃ dv dv2, fs = [⟨1, dv, false, true, 0⟩, ⟨2, dv2, false, true, 0⟩] ∧ DtR W dv l ∧ DtR W dv2 lz
theorem r5_keep (l lz : List UInt8) : ∀ fs W W', R5 l lz fs W → (∀ v l, DtR W v l → DtR W' v l) → R5 l lz fs W' := fun _ _ _ ⟨dv, dv2, h1, h2, h3⟩ hd => ⟨dv, dv2, h1, hd _ _ h2, hd _ _ h3⟩
def opH (held : Bool) : List Int := if held then [1] else []
def NmH (held : Bool) : Nat → List NameV
  | 0 => [(bsB, 1)]
  | 1 => []
  | _ => [(bsC, if held then 2 else 1)]
def RH (held : Bool) (l lz : List UInt8) : Nat → List FileV → World → Prop
  | 0 => R1 l
  | 1 => if held then R1 l else fun fs _ => fs = []
  | _ => if held then R5 l lz else R1 lz
def CH (zdv : Value) : Nat → ChF
  | 0 => ⟨7, bsB, ⟨#[]⟩, .slice none 0 0, 0⟩
  | _ => ⟨1, bsC, ⟨#[]⟩, zdv, 0⟩
theorem rh_keep (held : Bool) (l lz : List UInt8) (k : Nat) : ∀ fs W W', RH held l lz k fs W → (∀ v l, DtR W v l → DtR W' v l) → RH held l lz k fs W' := fun fs W W' h hd => by
  match k, held, h with
  | 0, _, h => exact r1_keep l fs W W' h hd
  | 1, true, h => exact r1_keep l fs W W' h hd
  | 1, false, h => exact h
  | k + 2, true, h => exact r5_keep l lz fs W W' h hd
  | k + 2, false, h => exact r1_keep lz fs W W' h hd
def StH (held : Bool) (ovc zdv : Value) (l lz : List UInt8) (k : Nat) (nv fv ov : Value) (W : World) : Prop :=
  (∃ fs, RH held l lz k fs W ∧ FsAt (NmH held k) fs (opH held) nv fv ov W) ∧ KB W zdv lz ∧ ov = ovc
theorem hist_H (held : Bool) (ovc zdv : Value) (l lz : List UInt8) (hlz : lz.length ≤ 60000) : Hist 2 (CH zdv) (fun _ => 0) (StH held ovc zdv l lz) := by
  refine ⟨fun k nv fv ov W W' h hk => ?_, fun k nv fv ov W h => ?_, fun k nv fv ov W hk h => ?_⟩
  · obtain ⟨⟨fs, h1, h2⟩, h3, h4⟩ := h
    exact ⟨⟨fs, rh_keep held l lz k fs W W' h1 (dt_keep hk), fs_keep h2 hk⟩, h3.keep hk, h4⟩
  · obtain ⟨⟨fs, -, h2⟩, -⟩ := h
    exact ⟨row_slice h2.n, row_slice h2.f, row_slice h2.o⟩
  · obtain ⟨⟨fs, h1, h2⟩, h3, rfl⟩ := h
    have fin : ∀ {e : Ending} {w' : World}, DoOut (NmH held (k + 1)) (opH held) ov (RH held l lz (k + 1)) W e w' → ∃ nv' fv' ov', e = .returned (.tuple #[.agg #[nv', fv', ov'], .int .i64 0]) ∧ StH held ov zdv l lz (k + 1) nv' fv' ov' w' ∧ Below W.heap.size W w' := fun h => by
      obtain ⟨fs, nv2, fv2, h1, h2, h5, h6⟩ := h
      exact ⟨nv2, fv2, _, h1, ⟨⟨fs, h5, h2⟩, h3.below h6, rfl⟩, h6⟩
    have hc : k = 0 ∨ k = 1 := by omega
    rcases hc with rfl | rfl
    · obtain ⟨dv, rfl, hd⟩ := h1
      refine (doS_remove bsB ⟨#[]⟩ (.slice none 0 0) 0 _ (R1 l) (RH held l lz 1) h2 ⟨isNm_B, fun h => by rcases h with h | h <;> cases h⟩ ⟨_, _, _, rfl⟩ (rh_keep held l lz 1) (fun d base W nv' fv' fs ha hr => ?_) (fun d base W2 nv' fv' ha hb hW => ?_)).mono fun e w' h => fin h
      · cases held with
        | true => exact sw_noneO (r1_keep l) (fun fs W ⟨dv, he, _⟩ x hx => by
            subst he; simp only [List.mem_singleton] at hx; subst hx; rfl) ha hr
        | false =>
          obtain ⟨ev, rfl, he1⟩ := hr
          refine (sweep_one 0 0 ha rfl (by omega) (fun i h => ?_) (fun x hx => ?_)).mono fun e w' ⟨he, fv2, ho⟩ => ⟨he, _, fv2, ho, rfl⟩
          · have h2 : i < 1 := h
            obtain rfl : i = 0 := (by omega)
            rfl
          · simp only [List.mem_singleton] at hx
            subst hx
            exact row_slice he1
      · exact (remove_ok 7 bsB ⟨#[]⟩ (.slice none 0 0) 0 0 0 0 ha (named_B1 _ rfl) rfl (by omega) hp_B1).mono fun e w' ⟨he, nv2, ho⟩ => ⟨he, _, nv2, fv', ho, dv, rfl, (hd.below hW).dir ha ho.c⟩
    · cases held with
      | true =>
        obtain ⟨dv, rfl, hd⟩ := h1
        refine (do_create bsC ⟨#[]⟩ zdv 0 _ (R5 l lz) h2 ⟨isNm_C, fun h => by rcases h with h | h <;> cases h⟩ h3.slice (r5_keep l lz) (fun fs W ⟨dv, dv2, he, _⟩ x hx => by
          subst he; simp only [List.mem_cons, List.not_mem_nil, or_false] at hx; rcases hx with rfl | rfl <;> rfl) (fun d base W2 nv' fv' ha hb hW => ?_)).mono fun e w' h => fin h
        exact (create_ok 1 bsC ⟨#[]⟩ zdv 0 lz ha (place0 bsC) (by show 0 < 40; omega) (by omega) (h3.below hW).srcB (fun i hi => by
          have h2 : i < 1 := hi
          obtain rfl : i = 0 := (by omega)
          rfl) (by simp) hb).mono fun e w' ⟨he, nv2, fv2, dv2, ho, hdt⟩ => ⟨he, _, nv2, fv2, ho, dv, dv2, rfl, (hd.below hW).dir ha ho.c, hdt⟩
      | false =>
        obtain rfl := h1
        refine (do_create bsC ⟨#[]⟩ zdv 0 _ (R1 lz) h2 ⟨isNm_C, fun h => by rcases h with h | h <;> cases h⟩ h3.slice (r1_keep lz) (fun fs W ⟨dv, he, _⟩ x hx => by
          subst he; simp only [List.mem_singleton] at hx; subst hx; rfl) (fun d base W2 nv' fv' ha hb hW => ?_)).mono fun e w' h => fin h
        exact (create_ok 1 bsC ⟨#[]⟩ zdv 0 lz ha (place0 bsC) (by show 0 < 40; omega) (by omega) (h3.below hW).srcB (fun i hi => absurd hi (by simp)) (by decide) hb).mono fun e w' ⟨he, nv2, fv2, dv2, ho, hdt⟩ => ⟨he, _, nv2, fv2, ho, dv2, rfl, hdt⟩
end Go.Proofs.Ytfihnmfbgdjkpaa
