/- FingerprintStays' history: create, startCopy, copyMore. compare of package fingerprint: cmp.Or of three numbers. -/
import Derived.Test.YtbpboghjgbgjfaaFuA
import Derived.Test.YtbpboghjgbgjfaaShelf
namespace Go.Proofs.Ytbpboghjgbgjfaa
open Go.RowKit

def bsP : ByteArray := ⟨#[97, 112, 112]⟩
def bsQ : ByteArray := ⟨#[97, 112, 112, 46, 99]⟩
theorem isNm_P : IsNm bsP := ⟨by decide, by decide, fun i h => by
  have h1 : i < 3 := h
  have h3 : i = 0 ∨ i = 1 ∨ i = 2 := (by omega)
  rcases h3 with rfl | rfl | rfl
  · exact (by decide : 33 ≤ (97 : UInt8).toNat ∧ (97 : UInt8).toNat ≤ 126)
  · exact (by decide : 33 ≤ (112 : UInt8).toNat ∧ (112 : UInt8).toNat ≤ 126)
  · exact (by decide : 33 ≤ (112 : UInt8).toNat ∧ (112 : UInt8).toNat ≤ 126)⟩
theorem isNm_Q : IsNm bsQ := ⟨by decide, by decide, fun i h => by
  have h1 : i < 5 := h
  have h3 : i = 0 ∨ i = 1 ∨ i = 2 ∨ i = 3 ∨ i = 4 := (by omega)
  rcases h3 with rfl | rfl | rfl | rfl | rfl
  · exact (by decide : 33 ≤ (97 : UInt8).toNat ∧ (97 : UInt8).toNat ≤ 126)
  · exact (by decide : 33 ≤ (112 : UInt8).toNat ∧ (112 : UInt8).toNat ≤ 126)
  · exact (by decide : 33 ≤ (112 : UInt8).toNat ∧ (112 : UInt8).toNat ≤ 126)
  · exact (by decide : 33 ≤ (46 : UInt8).toNat ∧ (46 : UInt8).toNat ≤ 126)
  · exact (by decide : 33 ≤ (99 : UInt8).toNat ∧ (99 : UInt8).toNat ≤ 126)⟩
theorem cmp_PP : cmpB bsP bsP = 0 := by decide
theorem cmp_PQ : cmpB bsP bsQ = -1 := by decide
theorem cmp_QQ : cmpB bsQ bsQ = 0 := by decide
theorem place_P1 : PlaceN [(bsP, 1)] bsP 0 := ⟨by decide, fun i h hi => by omega, fun i h hi => by
  have h2 : i < 1 := h
  obtain rfl : i = 0 := (by omega)
  show ¬ cmpB bsP bsP < 0
  rw [cmp_PP]; omega⟩
theorem place_PQ1 : PlaceN [(bsP, 1)] bsQ 1 := ⟨by decide, fun i h hi => by
  obtain rfl : i = 0 := (by omega)
  show cmpB bsP bsQ < 0
  rw [cmp_PQ]; omega, fun i h hi => by
  have h2 : i < 1 := h
  omega⟩
theorem place_Q2 : PlaceN [(bsP, 1), (bsQ, 2)] bsQ 1 := ⟨by decide, fun i h hi => by
  obtain rfl : i = 0 := (by omega)
  show cmpB bsP bsQ < 0
  rw [cmp_PQ]; omega, fun i h hi => by
  have h2 : i < 2 := h
  obtain rfl : i = 1 := (by omega)
  show ¬ cmpB bsQ bsQ < 0
  rw [cmp_QQ]; omega⟩
theorem named_P1 (x : FileV) (hx : x.ino = 1) : Named [(bsP, 1)] [x] bsP 0 0 :=
  ⟨place_P1, by decide, by unfold hitN; rw [dif_pos (by decide)]; exact decide_eq_true cmp_PP, ⟨Nat.zero_le _, fun i h hi => by omega, fun h => by show (x.ino == 1) = true; rw [hx]; rfl⟩, by simp⟩
theorem named_Q2 (x y : FileV) (hx : x.ino = 1) (hy : y.ino = 2) : Named [(bsP, 1), (bsQ, 2)] [x, y] bsQ 1 1 :=
  ⟨place_Q2, by decide, by unfold hitN; rw [dif_pos (by decide)]; exact decide_eq_true cmp_QQ, ⟨by simp, fun i h hi => by
    obtain rfl : i = 0 := (by omega)
    show (x.ino == 2) = false
    rw [hx]; rfl, fun h => by show (y.ino == 2) = true; rw [hy]; rfl⟩, by simp⟩
def NmP : Nat → List NameV
  | 0 => []
  | 1 => [(bsP, 1)]
  | _ => [(bsP, 1), (bsQ, 2)]
def RP (l : List UInt8) (z : Nat) : Nat → List FileV → World → Prop
  | 0 => fun fs _ => fs = []
  | 1 => R1 l
  | 2 => R2 l
  | _ => fun fs W => ∃ dv dv2, fs = [⟨1, dv, false, true, 0⟩, ⟨2, dv2, true, (z == 0), (z : Int)⟩] ∧ DtR W dv l ∧ DtR W dv2 l
def CP (cdv : Value) (n : Int) : Nat → ChF
  | 0 => ⟨1, bsP, ⟨#[]⟩, cdv, 0⟩
  | 1 => ⟨5, bsP, bsQ, .slice none 0 0, 0⟩
  | _ => ⟨6, bsQ, ⟨#[]⟩, .slice none 0 0, n⟩
theorem rp_keep (l : List UInt8) (z k : Nat) : ∀ fs W W', RP l z k fs W → (∀ v l, DtR W v l → DtR W' v l) → RP l z k fs W' := fun fs W W' h hd => by
  match k, h with
  | 0, h => exact h
  | 1, h => obtain ⟨dv, h1, h2⟩ := h; exact ⟨dv, h1, hd _ _ h2⟩
  | 2, h => obtain ⟨dv, dv2, h1, h2, h3⟩ := h; exact ⟨dv, dv2, h1, hd _ _ h2, hd _ _ h3⟩
  | k + 3, h => obtain ⟨dv, dv2, h1, h2, h3⟩ := h; exact ⟨dv, dv2, h1, hd _ _ h2, hd _ _ h3⟩
def StP (cdv : Value) (l : List UInt8) (z : Nat) (k : Nat) (nv fv ov : Value) (W : World) : Prop :=
  (∃ fs, RP l z k fs W ∧ FsAt (NmP k) fs [] nv fv ov W) ∧ KB W cdv l ∧ ov = .slice none 0 0
theorem stP_of {cdv : Value} {l : List UInt8} {z k : Nat} {w : World} {e : Ending} {w' : World} (h : DoOut (NmP (k + 1)) [] (.slice none 0 0) (RP l z (k + 1)) w e w') (h3 : KB w cdv l) :
    ∃ nv' fv' ov', e = .returned (.tuple #[.agg #[nv', fv', ov'], .int .i64 0]) ∧ StP cdv l z (k + 1) nv' fv' ov' w' ∧ Below w.heap.size w w' := by
  obtain ⟨fs, nv2, fv2, h1, h2, h5, h6⟩ := h
  exact ⟨nv2, fv2, _, h1, ⟨⟨fs, h5, h2⟩, h3.below h6, rfl⟩, h6⟩
theorem hist_P (cdv : Value) (l : List UInt8) (n : Int) (z : Nat) (hl : l.length ≤ 60000) (n1 : 1 ≤ n) (n2 : n ≤ 1000000) (hz : (z : Int) = max ((l.length : Int) - n) 0) : Hist 3 (CP cdv n) (fun _ => 0) (StP cdv l z) := by
  refine ⟨fun k nv fv ov W W' h hk => ?_, fun k nv fv ov W h => ?_, fun k nv fv ov W hk h => ?_⟩
  · obtain ⟨⟨fs, h1, h2⟩, h3, h5⟩ := h
    exact ⟨⟨fs, rp_keep l z k fs W W' h1 (fun v l hv => hk.1 _ _ _ _ _ _ (by decide) (by decide) hv), hk.1 _ _ _ _ _ _ (by decide) (by decide) h2.n, hk.1 _ _ _ _ _ _ (by decide) (by decide) h2.f, hk.1 _ _ _ _ _ _ (by decide) (by decide) h2.o, h2.nl, h2.fl, h2.ol, h2.os, h2.sl⟩, h3.keep hk, h5⟩
  · obtain ⟨⟨fs, -, h2⟩, -⟩ := h
    exact ⟨row_slice h2.n, row_slice h2.f, row_slice h2.o⟩
  · obtain ⟨⟨fs, h1, h2⟩, h3, rfl⟩ := h
    have hc : k = 0 ∨ k = 1 ∨ k = 2 := by omega
    rcases hc with rfl | rfl | rfl
    · obtain rfl := h1
      refine (do_create bsP ⟨#[]⟩ cdv 0 _ (RP l z 1) h2 ⟨isNm_P, fun h => by rcases h with h | h <;> cases h⟩ h3.slice (rp_keep l z 1) (fun fs W ⟨dv, he, _⟩ x hx => by
        subst he; simp only [List.mem_singleton] at hx; subst hx; rfl) (fun d base W2 nv' fv' ha hb hW => ?_)).mono fun e w' h => stP_of h h3
      exact (create_ok 1 bsP ⟨#[]⟩ cdv 0 l ha (place0 bsP) (by show 0 < 40; omega) (by omega) (h3.below hW).srcB (fun i hi => absurd hi (by simp)) (by decide) hb).mono fun e w' ⟨he, nv2, fv2, dv2, ho, hdt⟩ => ⟨he, _, nv2, fv2, ho, dv2, rfl, hdt⟩
    · obtain ⟨dv, rfl, hd⟩ := h1
      refine (do_startCopy bsP bsQ (.slice none 0 0) 0 _ (RP l z 2) h2 ⟨isNm_P, fun _ => isNm_Q⟩ ⟨_, _, _, rfl⟩ (rp_keep l z 2) (fun fs W ⟨dv, dv2, he, _⟩ x hx => by
        subst he; simp only [List.mem_cons, List.not_mem_nil, or_false] at hx; rcases hx with rfl | rfl <;> rfl) (fun d base W2 nv' fv' ha hb hW => ?_)).mono fun e w' h => stP_of h h3
      exact (startCopy_ok 5 bsP bsQ (.slice none 0 0) 0 l 0 0 ha (named_P1 _ rfl) rfl place_PQ1 (by show 1 < 40; omega) (by omega) (hd.below hW) (fun i hi => by
        have h2 : i < 1 := hi
        obtain rfl : i = 0 := (by omega)
        rfl) (by simp) hb).mono fun e w' ⟨he, nv2, fv2, dv2, ho, hdt⟩ => ⟨he, _, nv2, fv2, ho, dv, dv2, rfl, (hd.below hW).dir ha ho.c, hdt⟩
    · obtain ⟨dv, dv2, rfl, hd, hd2⟩ := h1
      have hz2 : ((z : Int) == 0) = (z == 0) := by
        cases z with
        | zero => rfl
        | succ z => simp; omega
      refine (do_copyMore bsQ ⟨#[]⟩ (.slice none 0 0) n _ (RP l z 3) h2 ⟨isNm_Q, fun h => by rcases h with h | h <;> cases h⟩ ⟨_, _, _, rfl⟩ (rp_keep l z 3) (fun fs W ⟨dv, dv2, he, _⟩ x hx => by
        subst he; simp only [List.mem_cons, List.not_mem_nil, or_false] at hx; rcases hx with rfl | rfl <;> rfl) (fun d base W2 nv' fv' ha hb hW => ?_)).mono fun e w' h => stP_of h h3
      refine (copyMore_ok 6 bsQ ⟨#[]⟩ (.slice none 0 0) n 1 1 ha (named_Q2 _ _ rfl rfl) rfl rfl n1 n2 (Int.natCast_nonneg _) (by show (l.length : Int) ≤ 1000000; omega) (z : Int) hz).mono ?_
      rintro e w' ⟨he, ho⟩
      refine ⟨he, _, nv', fv', ho, dv, dv2, ?_, (show DtR W2 dv l from hd.below hW).dir ha ho.c, (show DtR W2 dv2 l from hd2.below hW).dir ha ho.c⟩
      show [_, _] = [_, _]
      simp only [hz2]
      rfl
end Go.Proofs.Ytbpboghjgbgjfaa

namespace Go.Proofs.Ytbpboghjgbgjfaa
open Go.RowKit

def orI (x y z : Int) : Int := if x ≠ 0 then x else if y ≠ 0 then y else z
def or3 (x y z : Int) : Nat → Int | 0 => x | 1 => y | _ => z
set_option maxHeartbeats 2000000 in
theorem or_any (g : Nat) (x y z : Int) (w : World) (h : BkAt g 3 #[.int .i64 x, .int .i64 y, .int .i64 z] w) :
    Calls Try.prog 31 #[.slice (some ⟨g, 0, none⟩) 3 3] w fun e w' => e = .returned (.int .i64 (orI x y z)) ∧ w = w' := by
  have hc : ∀ k : Nat, k < 3 → w.cell? ⟨g, k, none⟩ = some (.int .i64 (or3 x y z k)) := fun k hk => by
    have h3 : k = 0 ∨ k = 1 ∨ k = 2 := (by omega)
    rcases h3 with rfl | rfl | rfl
    · exact h.cell 0
    · exact h.cell 1
    · exact h.cell 2
  have H := Lib.hid hc
  clear hc h
  go_enter Try.func31, Try.ntmps31
  go_wp2
  go_loop [8] (fun v => ∃ k : Nat, k ≤ 3 ∧ v = .int .i64 k ∧ ∀ j, j < k → or3 x y z j = 0) (fun v => 3 - (intOf v).toNat)
  case atStart => exact ⟨0, by omega, rfl, fun j hj => by omega⟩
  case round =>
    obtain ⟨k, hk, rfl, hz⟩ := hrel
    by_cases hlt : k < 3
    · have d1 : decide ((k : Int) < 3) = true := by rw [decide_eq_true_iff]; omega
      have c := H.out k hlt
      have i0 : (0 : Int) ≤ (k : Int) := by omega
      have i1 : (k : Int) < 3 := by omega
      by_cases hv : or3 x y z k = 0
      · have HZ := Lib.hid hz
        have hb : (or3 x y z k == 0) = true := by simpa using hv
        have hb2 : decide (or3 x y z k = 0) = true := by simpa using hv
        clear hz
        go_wp2
        go_round
        case rel => exact ⟨k + 1, by omega, by go_num, fun j hj => by
          by_cases e : j = k
          · subst e; exact hv
          · exact HZ.out j (by omega)⟩
        case measure => simp [intOf]; omega
      · have hb : (or3 x y z k == 0) = false := by simpa using hv
        have hb2 : decide (or3 x y z k = 0) = false := by simpa using hv
        have hor : or3 x y z k = orI x y z := by
          have h3 : k = 0 ∨ k = 1 ∨ k = 2 := (by omega)
          rcases h3 with rfl | rfl | rfl
          · unfold orI; rw [if_pos (show x ≠ 0 from hv)]; rfl
          · have h0 : x = 0 := hz 0 (by omega)
            unfold orI; rw [if_neg (by simpa using h0), if_pos (show y ≠ 0 from hv)]; rfl
          · have h0 : x = 0 := hz 0 (by omega)
            have h1 : y = 0 := hz 1 (by omega)
            unfold orI; rw [if_neg (by simpa using h0), if_neg (by simpa using h1)]; rfl
        have HO := Lib.hid hor
        clear hz hor
        go_wp2
        go_ret
        exact ⟨by rw [HO.out]; rfl, rfl⟩
    · obtain rfl : k = 3 := by omega
      have HZ := Lib.hid (show orI x y z = 0 by
        have h0 : x = 0 := hz 0 (by omega)
        have h1 : y = 0 := hz 1 (by omega)
        have h2 : z = 0 := hz 2 (by omega)
        unfold orI; rw [if_neg (by simpa using h0), if_neg (by simpa using h1)]; exact h2)
      clear hz
      go_wp2
      go_ret
      exact ⟨by rw [HZ.out]; rfl, rfl⟩
end Go.Proofs.Ytbpboghjgbgjfaa
