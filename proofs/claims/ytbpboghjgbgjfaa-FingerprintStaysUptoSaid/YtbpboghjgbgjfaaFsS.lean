/- The chapter's example, change by change. -/
import Derived.Test.YtbpboghjgbgjfaaFsP
import Derived.Test.YtbpboghjgbgjfaaFsQ
import Derived.Test.YtbpboghjgbgjfaaFsR
namespace Go.Proofs.Ytbpboghjgbgjfaa
open Go.RowKit

def bsA : ByteArray := ⟨#[97]⟩
def bsB : ByteArray := ⟨#[98]⟩
def XL : List UInt8 := [120, 10]
theorem isNm_A : IsNm bsA := ⟨by decide, by decide, fun i h => by
  have h1 : i < 1 := h
  obtain rfl : i = 0 := (by omega)
  exact (by decide : 33 ≤ (97 : UInt8).toNat ∧ (97 : UInt8).toNat ≤ 126)⟩
theorem isNm_B : IsNm bsB := ⟨by decide, by decide, fun i h => by
  have h1 : i < 1 := h
  obtain rfl : i = 0 := (by omega)
  exact (by decide : 33 ≤ (98 : UInt8).toNat ∧ (98 : UInt8).toNat ≤ 126)⟩
theorem cmp_AA : cmpB bsA bsA = 0 := by decide
theorem cmp_AB : cmpB bsA bsB = -1 := by decide
theorem cmp_BB : cmpB bsB bsB = 0 := by decide
theorem cmp_BA : cmpB bsB bsA = 1 := by decide
def NmK : Nat → List NameV
  | 0 => []
  | 1 => [(bsA, 1)]
  | _ => [(bsA, 1), (bsB, 2)]
def RK (cdv : Value) (k : Nat) (fs : List FileV) (W : World) : Prop :=
  match k with
  | 0 => fs = [] ∧ ∃ g, cdv = .slice (some ⟨g, 0, none⟩) 2 2 ∧ W.heap[g]? = some (.cells #[.int .u8 120, .int .u8 10] 5 (2, 3))
  | 1 => ∃ dv, fs = [⟨1, dv, false, true, 0⟩] ∧ DtR W dv XL
  | 2 => ∃ dv dv2, fs = [⟨1, dv, false, true, 0⟩, ⟨2, dv2, true, false, 2⟩] ∧ DtR W dv XL ∧ DtR W dv2 XL
  | 3 => ∃ dv2, fs = [⟨1, .slice none 0 0, false, true, 0⟩, ⟨2, dv2, true, false, 2⟩] ∧ DtR W dv2 XL
  | _ => ∃ dv2, fs = [⟨1, .slice none 0 0, false, true, 0⟩, ⟨2, dv2, true, true, 0⟩] ∧ DtR W dv2 XL
theorem rk_keep (cdv : Value) (k : Nat) (hk : 1 ≤ k) (fs : List FileV) (W W' : World) (h : RK cdv k fs W) (hd : ∀ v l, DtR W v l → DtR W' v l) : RK cdv k fs W' := by
  match k, hk, h with
  | 1, _, h => obtain ⟨dv, h1, h2⟩ := h; exact ⟨dv, h1, hd _ _ h2⟩
  | 2, _, h => obtain ⟨dv, dv2, h1, h2, h3⟩ := h; exact ⟨dv, dv2, h1, hd _ _ h2, hd _ _ h3⟩
  | 3, _, h => obtain ⟨dv, h1, h2⟩ := h; exact ⟨dv, h1, hd _ _ h2⟩
  | k + 4, _, h => obtain ⟨dv, h1, h2⟩ := h; exact ⟨dv, h1, hd _ _ h2⟩
theorem src0 {W : World} {g : Nat} (h : W.heap[g]? = some (.cells #[.int .u8 120, .int .u8 10] 5 (2, 3))) : SrcB W (.slice (some ⟨g, 0, none⟩) 2 2) XL := by
  refine .inr ⟨g, 2, rfl, (Array.getElem?_eq_some_iff.1 h).1, by decide, fun j u hj => ?_⟩
  have hadd : (⟨g, 0, none⟩ : Addr).add j = ⟨g, j, none⟩ := by unfold Addr.add; split <;> simp_all
  rw [hadd, Lib.cell_of_heap h j]
  have hl : j < (byC XL).length := (List.getElem?_eq_some_iff.1 hj).1
  have h2 : j < 2 := hl
  have h3 : j = 0 ∨ j = 1 := (by omega)
  rcases h3 with rfl | rfl <;> exact hj
theorem rk_used (cdv : Value) (k : Nat) (hk : 1 ≤ k) (fs : List FileV) (W : World) (h : RK cdv k fs W) : ∀ x ∈ fs, usedB (NmK k) [] x.ino = true := by
  match k, hk, h with
  | 1, _, h =>
    obtain ⟨dv, rfl, -⟩ := h
    intro x hx; simp only [List.mem_singleton] at hx; subst hx; rfl
  | 2, _, h =>
    obtain ⟨dv, dv2, rfl, -⟩ := h
    intro x hx; simp only [List.mem_cons, List.not_mem_nil, or_false] at hx; rcases hx with rfl | rfl <;> rfl
  | 3, _, h =>
    obtain ⟨dv, rfl, -⟩ := h
    intro x hx; simp only [List.mem_cons, List.not_mem_nil, or_false] at hx; rcases hx with rfl | rfl <;> rfl
  | k + 4, _, h =>
    obtain ⟨dv, rfl, -⟩ := h
    intro x hx; simp only [List.mem_cons, List.not_mem_nil, or_false] at hx; rcases hx with rfl | rfl <;> rfl
def StK (cdv : Value) (k : Nat) (nv fv ov : Value) (W : World) : Prop := ∃ fs, RK cdv k fs W ∧ FsAt (NmK k) fs [] nv fv ov W
theorem stk_keep (cdv : Value) (k : Nat) (nv fv ov : Value) (W W' : World) (h : StK cdv k nv fv ov W) (hk : RowKeep W W') : StK cdv k nv fv ov W' := by
  obtain ⟨fs, h1, h2⟩ := h
  refine ⟨fs, ?_, ⟨hk.1 _ _ _ _ _ _ (by decide) (by decide) h2.n, hk.1 _ _ _ _ _ _ (by decide) (by decide) h2.f, hk.1 _ _ _ _ _ _ (by decide) (by decide) h2.o, h2.nl, h2.fl, h2.ol, h2.os, h2.sl⟩⟩
  match k, h1 with
  | 0, h1 => obtain ⟨h3, g, h4, h5⟩ := h1; exact ⟨h3, g, h4, hk.2 _ _ _ h5⟩
  | k + 1, h1 => exact rk_keep cdv (k + 1) (by omega) fs W W' h1 (fun v l hv => hk.1 _ _ _ _ _ _ (by decide) (by decide) hv)
def CK (cdv : Value) : Nat → ChF
  | 0 => ⟨1, bsA, ⟨#[]⟩, cdv, 0⟩
  | 1 => ⟨5, bsA, bsB, .slice none 0 0, 0⟩
  | 2 => ⟨3, bsA, ⟨#[]⟩, .slice none 0 0, 0⟩
  | _ => ⟨6, bsB, ⟨#[]⟩, .slice none 0 0, 9⟩
theorem place0 (t : ByteArray) : PlaceN [] t 0 := ⟨Nat.le_refl _, fun i h => absurd h (by simp), fun i h => absurd h (by simp)⟩
theorem place_AB1 : PlaceN [(bsA, 1)] bsB 1 := ⟨by decide, fun i h hi => by
  obtain rfl : i = 0 := (by omega)
  show cmpB bsA bsB < 0
  rw [cmp_AB]; omega, fun i h hi => by
  have h2 : i < 1 := h
  omega⟩
theorem place_A1 : PlaceN [(bsA, 1)] bsA 0 := ⟨by decide, fun i h hi => by omega, fun i h hi => by
  have h2 : i < 1 := h
  obtain rfl : i = 0 := (by omega)
  show ¬ cmpB bsA bsA < 0
  rw [cmp_AA]; omega⟩
theorem place_A2 : PlaceN [(bsA, 1), (bsB, 2)] bsA 0 := ⟨by decide, fun i h hi => by omega, fun i h hi => by
  have h2 : i < 2 := h
  have h3 : i = 0 ∨ i = 1 := (by omega)
  rcases h3 with rfl | rfl
  · show ¬ cmpB bsA bsA < 0
    rw [cmp_AA]; omega
  · show ¬ cmpB bsB bsA < 0
    rw [cmp_BA]; omega⟩
theorem place_B2 : PlaceN [(bsA, 1), (bsB, 2)] bsB 1 := ⟨by decide, fun i h hi => by
  obtain rfl : i = 0 := (by omega)
  show cmpB bsA bsB < 0
  rw [cmp_AB]; omega, fun i h hi => by
  have h2 : i < 2 := h
  obtain rfl : i = 1 := (by omega)
  show ¬ cmpB bsB bsB < 0
  rw [cmp_BB]; omega⟩
theorem named_A1 (x : FileV) (hx : x.ino = 1) : Named [(bsA, 1)] [x] bsA 0 0 :=
  ⟨place_A1, by decide, by unfold hitN; rw [dif_pos (by decide)]; exact decide_eq_true cmp_AA, ⟨Nat.zero_le _, fun i h hi => by omega, fun h => by show (x.ino == 1) = true; rw [hx]; rfl⟩, by simp⟩
theorem named_A2 (x y : FileV) (hx : x.ino = 1) : Named [(bsA, 1), (bsB, 2)] [x, y] bsA 0 0 :=
  ⟨place_A2, by decide, by unfold hitN; rw [dif_pos (by decide)]; exact decide_eq_true cmp_AA, ⟨Nat.zero_le _, fun i h hi => by omega, fun h => by show (x.ino == 1) = true; rw [hx]; rfl⟩, by simp⟩
theorem named_B2 (x y : FileV) (hx : x.ino = 1) (hy : y.ino = 2) : Named [(bsA, 1), (bsB, 2)] [x, y] bsB 1 1 :=
  ⟨place_B2, by decide, by unfold hitN; rw [dif_pos (by decide)]; exact decide_eq_true cmp_BB, ⟨by simp, fun i h hi => by
    obtain rfl : i = 0 := (by omega)
    show (x.ino == 2) = false
    rw [hx]; rfl, fun h => by show (y.ino == 2) = true; rw [hy]; rfl⟩, by simp⟩
theorem step_of {cdv : Value} {k : Nat} {w : World} {e : Ending} {w' : World} (h : DoOut (NmK (k + 1)) [] (.slice none 0 0) (RK cdv (k + 1)) w e w') : ∃ nv' fv' ov', e = .returned (.tuple #[.agg #[nv', fv', ov'], .int .i64 0]) ∧ StK cdv (k + 1) nv' fv' ov' w' ∧ Below w.heap.size w w' := by
  obtain ⟨fs, nv2, fv2, h1, h2, h3, h4⟩ := h
  exact ⟨nv2, fv2, _, h1, ⟨fs, h3, h2⟩, h4⟩
theorem hist_awake (cdv : Value) : Hist 4 (CK cdv) (fun _ => 0) (fun k nv fv ov W => StK cdv k nv fv ov W ∧ ov = .slice none 0 0) := by
  refine ⟨fun k nv fv ov W W' h hk => ⟨stk_keep cdv k nv fv ov W W' h.1 hk, h.2⟩, fun k nv fv ov W h => ?_, fun k nv fv ov W hk h => ?_⟩
  · obtain ⟨⟨fs, -, h2⟩, -⟩ := h
    exact ⟨row_slice h2.n, row_slice h2.f, row_slice h2.o⟩
  · obtain ⟨⟨fs, h1, h2⟩, rfl⟩ := h
    have fin : ∀ {e : Ending} {w' : World}, DoOut (NmK (k + 1)) [] (.slice none 0 0) (RK cdv (k + 1)) W e w' → ∃ nv' fv' ov', e = .returned (.tuple #[.agg #[nv', fv', ov'], .int .i64 0]) ∧ (StK cdv (k + 1) nv' fv' ov' w' ∧ ov' = .slice none 0 0) ∧ Below W.heap.size W w' := fun h => by
      obtain ⟨fs, nv2, fv2, h1, h2, h3, h4⟩ := h
      exact ⟨nv2, fv2, _, h1, ⟨⟨fs, h3, h2⟩, rfl⟩, h4⟩
    have hc : k = 0 ∨ k = 1 ∨ k = 2 ∨ k = 3 := by omega
    rcases hc with rfl | rfl | rfl | rfl
    · obtain ⟨rfl, g, rfl, hg⟩ := h1
      refine (do_create bsA ⟨#[]⟩ _ 0 (NmK 1) (RK _ 1) h2 ⟨isNm_A, fun h => by rcases h with h | h <;> cases h⟩ ⟨_, _, _, rfl⟩ (rk_keep _ 1 (by decide)) (rk_used _ 1 (by omega)) (fun d base W2 nv' fv' ha hb hW => ?_)).mono fun e w' h => fin h
      refine (create_ok 1 bsA ⟨#[]⟩ _ 0 XL ha (place0 bsA) (by decide) (by decide) ((src0 hg).below hW) (fun i hi => absurd hi (by simp)) (by decide) hb).mono fun e w' ⟨he, nv2, fv2, dv2, ho, hdt⟩ => ⟨he, _, nv2, fv2, ho, dv2, rfl, hdt⟩
    · obtain ⟨dv, rfl, hd⟩ := h1
      refine (do_startCopy bsA bsB (.slice none 0 0) 0 (NmK 2) (RK cdv 2) h2 ⟨isNm_A, fun _ => isNm_B⟩ ⟨_, _, _, rfl⟩ (rk_keep cdv 2 (by decide)) (rk_used cdv 2 (by omega)) (fun d base W2 nv' fv' ha hb hW => ?_)).mono fun e w' h => fin h
      refine (startCopy_ok 5 bsA bsB (.slice none 0 0) 0 XL 0 0 ha (named_A1 _ rfl) rfl place_AB1 (by decide) (by decide) (hd.below hW) (fun i hi => by
        have h2 : i < 1 := hi
        obtain rfl : i = 0 := (by omega)
        rfl) (by simp) hb).mono fun e w' ⟨he, nv2, fv2, dv2, ho, hdt⟩ => ⟨he, _, nv2, fv2, ho, dv, dv2, rfl, (hd.below hW).dir ha ho.c, hdt⟩
    · obtain ⟨dv, dv2, rfl, hd, hd2⟩ := h1
      refine (do_truncate bsA ⟨#[]⟩ (.slice none 0 0) 0 (NmK 3) (RK cdv 3) h2 ⟨isNm_A, fun h => by rcases h with h | h <;> cases h⟩ ⟨_, _, _, rfl⟩ (rk_keep cdv 3 (by decide)) (rk_used cdv 3 (by omega)) (fun d base W2 nv' fv' ha hb hW => ?_)).mono fun e w' h => fin h
      refine (truncate_ok 3 bsA ⟨#[]⟩ (.slice none 0 0) 0 0 0 ha (named_A2 _ _ rfl) rfl).mono fun e w' ⟨he, ho⟩ => ⟨he, _, nv', fv', ho, dv2, rfl, (hd2.below hW).dir ha ho.c⟩
    · obtain ⟨dv2, rfl, hd2⟩ := h1
      refine (do_copyMore bsB ⟨#[]⟩ (.slice none 0 0) 9 (NmK 4) (RK cdv 4) h2 ⟨isNm_B, fun h => by rcases h with h | h <;> cases h⟩ ⟨_, _, _, rfl⟩ (rk_keep cdv 4 (by decide)) (rk_used cdv 4 (by omega)) (fun d base W2 nv' fv' ha hb hW => ?_)).mono fun e w' h => fin h
      refine (copyMore_ok 6 bsB ⟨#[]⟩ (.slice none 0 0) 9 1 1 ha (named_B2 _ _ rfl rfl) rfl rfl (by decide) (by decide) (by show (0 : Int) ≤ 2; omega) (by show (2 : Int) ≤ 1000000; omega) 0 (by show (0 : Int) = max (2 - 9) 0; decide)).mono fun e w' ⟨he, ho⟩ => ⟨he, _, nv', fv', ho, dv2, rfl, (hd2.below hW).dir ha ho.c⟩
end Go.Proofs.Ytbpboghjgbgjfaa
