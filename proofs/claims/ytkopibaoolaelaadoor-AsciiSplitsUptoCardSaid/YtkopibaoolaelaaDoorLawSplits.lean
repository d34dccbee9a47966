/- AsciiSplits: the law returns true, where the string is of at most 1048576 bytes. -/
import Derived.Test.YtkopibaoolaelaaDoorRefFields
import Derived.Test.YtkopibaoolaelaaDoorTrim
import Derived.Test.YtkopibaoolaelaaDoorLower
import Derived.Test.YtkopibaoolaelaaDoorSame
namespace Go.Proofs.YtkopibaoolaelaaDoor
open Go.RowKit

theorem cuts (s : ByteArray) (c : UInt8) (hs : s.size ≤ 2097152) : ∃ A B k,
    (∀ W, Calls Tryd.prog 21 #[.string s, .int .u8 c.toNat] W fun e w' => e = .returned (.tuple #[.string A, .string B, .bool k]) ∧ Below W.heap.size W w') ∧
    (∀ W, Calls Tryd.prog 22 #[.string s, .int .u8 c.toNat] W fun e w' => e = .returned (.tuple #[.string A, .string B, .bool k]) ∧ Below W.heap.size W w') := by
  rcases indexByte_ways s c with h | ⟨o, ho, h⟩
  · exact ⟨s, ⟨#[]⟩, false, fun W => (cut_no s c W h).mono fun e w' ⟨he, hw⟩ => ⟨he, by subst hw; exact Below.refl _ _⟩, fun W => (rcut_no s c W hs h).mono fun e w' ⟨he, hw⟩ => ⟨he, by subst hw; exact Below.refl _ _⟩⟩
  · exact ⟨_, _, true, fun W => cut_yes s c o W h ho (by unfold maxLen; omega), fun W => rcut_yes s c o W h ho hs⟩
theorem trims (s : ByteArray) (hs : s.size ≤ 2097152) : ∃ A,
    (∀ W, Calls Tryd.prog 25 #[.string s] W fun e w' => e = .returned (.string A) ∧ Below W.heap.size W w') ∧
    (∀ W, Calls Tryd.prog 26 #[.string s] W fun e w' => e = .returned (.string A) ∧ W = w') := by
  obtain ⟨f, t, h⟩ := trimAt_ex s
  exact ⟨_, fun W => trim_any s f t hs h W, fun W => rtrim_any s f t hs h W⟩

/-- The joined words as a string. -/
def joinS (L : List (List UInt8)) (k : Nat) : ByteArray := ⟨(joinN L k).toArray⟩
theorem joinS_size (L : List (List UInt8)) (k : Nat) : (joinS L k).size = (joinN L k).length := by simp [joinS, ByteArray.size]
theorem joinS_first (L : List (List UInt8)) : joinS L 0 ++ ⟨(L.getD 0 []).toArray⟩ = joinS L 1 := by
  apply bext
  simp [joinS, joinN, jstep]
theorem joinS_step (L : List (List UInt8)) (k : Nat) (h : 0 < k) : joinS L k ++ ⟨#[32]⟩ ++ ⟨(L.getD k []).toArray⟩ = joinS L (k + 1) := by
  apply bext
  simp [joinS, joinN, jstep, h]

set_option maxRecDepth 100000 in
set_option maxHeartbeats 2000000 in
theorem lawSplits_some (s : ByteArray) (c : UInt8) (w : World) (hT : Tabs w) (hs : s.size ≤ 1048576) :
    Calls Tryd.prog 5 #[.string s, .int .u8 c.toNat] w fun e w' => e = .returned (.bool true) ∧ Below w.heap.size w w' := by
  have HT := Lib.hid hT
  clear hT
  obtain ⟨A, B, ck, hcut, hrcut⟩ := cuts s c (by omega)
  obtain ⟨T, htrim, hrtrim⟩ := trims s (by omega)
  have HC := Lib.hid (And.intro hcut hrcut)
  have HTR := Lib.hid (And.intro htrim hrtrim)
  clear hcut hrcut htrim hrtrim
  obtain ⟨L, hL⟩ : ∃ L, fieldsB s.data.toList = L := ⟨_, rfl⟩
  have hagain : fieldsB (joinB L) = L := by rw [← hL]; exact fields_again _
  have hjl : ∀ k, k ≤ L.length → (joinN L k).length ≤ s.size + 1 := fun k hk => by
    have := joinN_le s.data.toList k (by rw [hL]; exact hk)
    rw [hL, sizeB] at this
    exact this
  have hLn : L.length ≤ s.size + 1 := by
    have := wordsTotal s.data.toList
    rw [hL, sizeB] at this
    omega
  have hfs : ∀ W, Calls Tryd.prog 20 #[.string s] W fun e w' => ∃ v, e = .returned v ∧ StrsAt w' w'.heap.size v L ∧ Below W.heap.size W w' := fun W => by
    have := fields_any s (by omega) W
    rw [hL] at this
    exact this
  have hrfs : ∀ W, Calls Tryd.prog 24 #[.string s] W fun e w' => ∃ v, e = .returned v ∧ StrsAt w' w'.heap.size v L ∧ Below W.heap.size W w' := fun W => by
    have := rfields_any s (by omega) W
    rw [hL] at this
    exact this
  have hjfs : ∀ W, Calls Tryd.prog 20 #[.string (joinS L L.length)] W fun e w' => ∃ v, e = .returned v ∧ StrsAt w' w'.heap.size v L ∧ Below W.heap.size W w' := fun W => by
    have h1 := hjl L.length (Nat.le_refl _)
    have := fields_any (joinS L L.length) (by rw [joinS_size]; omega) W
    rw [show (joinS L L.length).data.toList = joinB L from by simp [joinS, joinB], hagain] at this
    exact this
  have HJL := Lib.hid hjl
  have HF := Lib.hid (And.intro hfs (And.intro hrfs hjfs))
  clear hjl hfs hrfs hjfs hagain hL
  go_enter Tryd.func5, Tryd.ntmps5
  go_wp2_with (first
    | (go_at_call 9; refine (awake_any w HT.out).mono ?_; rintro e w1 ⟨rfl, hb1⟩)
    | (go_at_call 20; refine (HF.out.1 _).mono ?_; rintro e w2 ⟨v, rfl, hv, hb2⟩; obtain ⟨va, vc, rfl⟩ := hv.slice))
  have hbw2 := bstep hb1 hb2
  clear hb1 hb2
  go_loop [6, 21] (fun v i => ∃ k : Nat, k ≤ L.length ∧ i = .int .i64 k ∧ v = .string (joinS L k)) (fun _ i => L.length - (intOf i).toNat)
  case atStart => exact ⟨0, by omega, rfl, rfl⟩
  case round =>
    obtain ⟨k, hk, rfl, rfl⟩ := hrel
    by_cases hlt : k < L.length
    · obtain ⟨bk, hbk, hce⟩ : ∃ bk, va = some ⟨bk, 0, none⟩ ∧ w2.cell? ⟨bk, k, none⟩ = some (fEnc (L.getD k [])) := by
        rcases hv with ⟨_, e⟩ | ⟨bk, cap, he, _, _, hc⟩
        · rw [e] at hlt; simp at hlt
        · simp only [Value.slice.injEq] at he
          exact ⟨bk, he.1, hc k hlt⟩
      subst hbk
      unfold fEnc at hce
      have z1 := HJL.out k hk
      have z2 := HJL.out (k + 1) (by omega)
      rw [← joinS_size] at z1 z2
      have hst1 := joinS_first L
      have hst2 := joinS_step L k
      obtain ⟨X, hX⟩ : ∃ X : ByteArray, ByteArray.mk (L.getD k []).toArray = X := ⟨_, rfl⟩
      rw [hX] at hce hst2
      by_cases hk0 : 0 < k
      · have hst := hst2 hk0
        have hsz := congrArg ByteArray.size hst
        simp only [ByteArray.size_append] at hsz
        have z3 : (ByteArray.mk #[32]).size = 1 := rfl
        have g1 : ¬ 9223372036854775807 < (joinS L k).size + 1 := by omega
        have g2 : ¬ 9223372036854775807 < (joinS L k).size + 1 + X.size := by omega
        have HST := Lib.hid hst
        clear hst hst1 hst2 hX
        go_wp2
        go_round
        case rel => exact ⟨k + 1, by omega, by simp, by rw [← HST.out]⟩
        case measure => simp [intOf]; omega
      · obtain rfl : k = 0 := by omega
        rw [hX] at hst1
        have hsz := congrArg ByteArray.size hst1
        simp only [ByteArray.size_append] at hsz
        rw [Nat.zero_add] at z2
        have g1 : ¬ 9223372036854775807 < (joinS L 0).size + X.size := by omega
        have HST := Lib.hid hst1
        clear hst1 hst2 hX
        go_wp2
        go_round
        case rel => exact ⟨1, by omega, by simp, by rw [← HST.out]⟩
        case measure => simp [intOf]; omega
    · obtain rfl : k = L.length := by omega
      go_wp2_with fail
      refine (HC.out.1 _).mono ?_
      rintro e w3 ⟨rfl, hb3⟩
      go_wp2_with fail
      refine (HC.out.2 _).mono ?_
      rintro e w4 ⟨rfl, hb4⟩
      go_wp2_with fail
      have hb24 := bstep hb3 hb4
      refine (HF.out.2.1 _).mono ?_
      rintro e w5 ⟨rv, rfl, hrv, hb5⟩
      go_wp2_with fail
      have hb25 := bstep hb24 hb5
      refine (same_any _ _ L (by omega) _ _ _ (hv.below hb25 (Nat.le_refl _)) hrv).mono ?_
      rintro e w6 ⟨rfl, hb6⟩
      go_wp2_with fail
      have hb26 := bstep hb25 hb6
      refine (HF.out.2.2 _).mono ?_
      rintro e w7 ⟨jv, rfl, hjv, hb7⟩
      go_wp2_with fail
      have hb27 := bstep hb26 hb7
      refine (same_any _ _ L (by omega) _ _ _ hjv (hv.below hb27 (Nat.le_refl _))).mono ?_
      rintro e w8 ⟨rfl, hb8⟩
      go_wp2_with fail
      have hb28 := bstep hb27 hb8
      refine (HTR.out.1 _).mono ?_
      rintro e w9 ⟨rfl, hb9⟩
      go_wp2_with fail
      have hb29 := bstep hb28 hb9
      refine (HTR.out.2 _).mono ?_
      rintro e w10 ⟨rfl, rfl⟩
      go_wp2_with fail
      refine (lower_any s (by omega) _).mono ?_
      rintro e w11 ⟨rfl, hb11⟩
      go_wp2_with fail
      have hb211 := bstep hb29 hb11
      refine (rlower_any s (by omega) _).mono ?_
      rintro e w12 ⟨rfl, hb12⟩
      go_wp2
      go_ret
      exact ⟨rfl, bstep hbw2 (bstep hb211 hb12)⟩
end Go.Proofs.YtkopibaoolaelaaDoor
