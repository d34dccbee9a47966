/- Trim of package ascii and of the reference: the same part of the string. -/
import Derived.Test.YtkopibaoolaelaaDoorFieldsB
import Derived.Test.YtkopibaoolaelaaDoorCut
namespace Go.Proofs.YtkopibaoolaelaaDoor
open Go.RowKit

theorem first_ex (p : Nat → Bool) : ∀ n : Nat, ∃ f, f ≤ n ∧ (∀ i, i < f → p i = true) ∧ (f < n → p f = false)
  | 0 => ⟨0, Nat.le_refl _, fun i h => by omega, fun h => by omega⟩
  | n + 1 => by
    obtain ⟨f, h1, h2, h3⟩ := first_ex p n
    by_cases hf : f < n
    · exact ⟨f, by omega, h2, fun _ => h3 hf⟩
    · obtain rfl : f = n := by omega
      cases hp : p f with
      | true => exact ⟨f + 1, by omega, fun i hi => by
          rcases Nat.lt_or_ge i f with h | h
          · exact h2 i h
          · obtain rfl : i = f := by omega
            exact hp, fun h => by omega⟩
      | false => exact ⟨f, by omega, h2, fun _ => hp⟩
theorem last_ex (p : Nat → Bool) (f : Nat) : ∀ n : Nat, f ≤ n → ∃ t, f ≤ t ∧ t ≤ n ∧ (∀ i, t ≤ i → i < n → p i = true) ∧ (∀ m, t = m + 1 → f < t → p m = false)
  | 0, h => ⟨f, Nat.le_refl _, h, fun i h1 h2 => by omega, fun m _ h => by omega⟩
  | n + 1, h => by
    by_cases hf : f = n + 1
    · exact ⟨f, by omega, by omega, fun i h1 h2 => by omega, fun m _ h => by omega⟩
    · cases hp : p n with
      | true =>
        obtain ⟨t, h1, h2, h3, h4⟩ := last_ex p f n (by omega)
        exact ⟨t, h1, by omega, fun i h5 h6 => by
          rcases Nat.lt_or_ge i n with h | h
          · exact h3 i h5 h
          · obtain rfl : i = n := by omega
            exact hp, h4⟩
      | false => exact ⟨n + 1, by omega, by omega, fun i h1 h2 => by omega, fun m e _ => by
          obtain rfl : m = n := by omega
          exact hp⟩

/-- From f to t lies what Trim leaves of s. -/
structure TrimAt (s : ByteArray) (f t : Nat) : Prop where
  le1 : f ≤ t
  le2 : t ≤ s.size
  pre : ∀ i (h : i < s.size), i < f → spcB s[i].toNat = true
  at1 : ∀ h : f < s.size, spcB s[f].toNat = false
  post : ∀ i (h : i < s.size), t ≤ i → spcB s[i].toNat = true
  at2 : ∀ m (h : m < s.size), t = m + 1 → f < t → spcB s[m].toNat = false
theorem trimAt_ex (s : ByteArray) : ∃ f t, TrimAt s f t := by
  obtain ⟨p, hp⟩ : ∃ p : Nat → Bool, ∀ i (h : i < s.size), p i = spcB s[i].toNat := ⟨fun i => if h : i < s.size then spcB s[i].toNat else false, fun i h => by simp [h]⟩
  obtain ⟨f, h1, h2, h3⟩ := first_ex p s.size
  obtain ⟨t, h4, h5, h6, h7⟩ := last_ex p f s.size h1
  exact ⟨f, t, h4, h5, fun i h hi => by rw [← hp i h]; exact h2 i hi, fun h => by rw [← hp f h]; exact h3 h, fun i h hi => by rw [← hp i h]; exact h6 i hi h, fun m h e hf => by rw [← hp m h]; exact h7 m e hf⟩

theorem spc_ne (c : UInt8) (h : spcB c.toNat = true) : (bits BinOp.and IntKind.u8 (↑(cls c.toNat)) 8 != 0) = true := by
  rw [spcB_bits ⟨c.toNat, UInt8.toNat_lt _⟩]
  exact h
theorem spc_eq (c : UInt8) (h : spcB c.toNat = false) : (bits BinOp.and IntKind.u8 (↑(cls c.toNat)) 8 != 0) = false := by
  rw [spcB_bits ⟨c.toNat, UInt8.toNat_lt _⟩]
  exact h

theorem slice_str (s : ByteArray) (k m : Nat) (h1 : k ≤ m + 1) (h2 : m < s.size) (W : World) :
    (Instr.slice 9 (.string s) (some (.int .i64 (k : Int))) (some (.int .i64 ((m : Int) + 1))) none).run Tryd.prog W = .ok (.string (s.extract k (m + 1))) W := by
  have e2 : ((m : Int) + 1).toNat = m + 1 := by omega
  have u := run_underlying Tryd.underlying9
  simp [go_sem, Instr.slice, u, e2]
  rw [if_pos ⟨by omega, by omega⟩, if_pos h1]

set_option maxRecDepth 100000 in
set_option maxHeartbeats 2000000 in
theorem trim_any (s : ByteArray) (f t : Nat) (hs : s.size ≤ 2097152) (h : TrimAt s f t) (w : World) :
    Calls Tryd.prog 25 #[.string s] w fun e w' => e = .returned (.string (s.extract f t)) ∧ Below w.heap.size w w' := by
  have H := Lib.hid h
  have hl1 := h.le1
  have hl2 := h.le2
  clear h
  go_enter Tryd.func25, Tryd.ntmps25
  go_wp2_with (first
    | (go_at_call 33; refine (classes_any _).mono ?_; rintro e w1 ⟨rfl, hb1⟩)
    | (with_reducible refine wpList_store_row rfl 43 (.tmp 3) (.tmp 6) rfl w1.heap.size (rowOf cls) rfl rfl 43 (rowOf fun _ => 0) (by rw [← zeroRow]; exact heap_alloc_new _ _) (by rw [rowOf_size]; exact size43) (by rw [rowOf_size, rowOf_size]) (rowOf_one _) ?_))
  obtain ⟨w2, hw2⟩ : ∃ w2, (w1.alloc (Obj.cells Tryd.zeroCells43 43)).setRow w1.heap.size (rowOf cls) = w2 := ⟨_, rfl⟩
  have hcel : ∀ i, i < 256 → w2.cell? ⟨w1.heap.size, i, none⟩ = some (.int .u8 (cls i)) := fun i hi => by
    rw [← hw2, cell_setRow_same _ _ _ _ _ _ _ (heap_alloc_new _ _), rowOf_get cls i hi]
  have hbel : Below w.heap.size w w2 := by
    rw [← hw2]
    exact below_setRow (hb1.alloc hb1.size _) hb1.size _
  rw [hw2]
  have HCEL := Lib.hid hcel
  clear hw2 hcel
  go_loop [4] (fun i => ∃ k : Nat, k ≤ f ∧ i = .int .i64 k) (fun i => f - (intOf i).toNat)
  case atStart => exact ⟨0, by omega, rfl⟩
  case round =>
    obtain ⟨k, hk, rfl⟩ := hrel
    by_cases hkf : k < f
    · have hlt : k < s.size := by omega
      have hclt := UInt8.toNat_lt s[k]
      have hct := HCEL.out s[k].toNat hclt
      have hb := spc_ne s[k] (H.out.pre k hlt hkf)
      go_wp2
      go_round
      case rel => exact ⟨k + 1, by omega, by simp⟩
      case measure => simp [intOf]; omega
    · obtain rfl : k = f := by omega
      have stage2 : ∀ j : Nat, t ≤ j → j ≤ s.size → k ≤ j := fun j h1 h2 => by omega
      by_cases hlt : k < s.size
      · have hclt := UInt8.toNat_lt s[k]
        have hct := HCEL.out s[k].toNat hclt
        have hb := spc_eq s[k] (H.out.at1 hlt)
        go_wp2
        go_loop [5] (fun i => ∃ j : Nat, t ≤ j ∧ j ≤ s.size ∧ i = .int .i64 j) (fun i => (intOf i).toNat)
        case atStart => exact ⟨s.size, by omega, by omega, rfl⟩
        case round =>
          obtain ⟨j, htj, hj, rfl⟩ := hrel
          clear hb hct hclt
          by_cases hgo : t < j
          · obtain ⟨m, rfl⟩ : ∃ m, j = m + 1 := ⟨j - 1, by omega⟩
            have hmlt : m < s.size := by omega
            have hclt := UInt8.toNat_lt s[m]
            have hct := HCEL.out s[m].toNat hclt
            have hb := spc_ne s[m] (H.out.post m hmlt (by omega))
            go_wp2
            go_round
            case rel => exact ⟨m, by omega, by omega, by simp⟩
            case measure => simp [intOf]
          · obtain rfl : j = t := by omega
            by_cases hkt : k < j
            · obtain ⟨m, rfl⟩ : ∃ m, j = m + 1 := ⟨j - 1, by omega⟩
              have hmlt : m < s.size := by omega
              have hclt := UInt8.toNat_lt s[m]
              have hct := HCEL.out s[m].toNat hclt
              have hb := spc_eq s[m] (H.out.at2 m hmlt rfl hkt)
              have hsl := slice_str s k m (by omega) hmlt
              go_wp2
              go_ret
              exact ⟨rfl, hbel⟩
            · obtain rfl : k = j := by omega
              go_wp2
              go_ret
              exact ⟨rfl, hbel⟩
      · obtain rfl : k = s.size := by omega
        obtain rfl : t = s.size := by omega
        go_wp2
        go_loop [5] (fun i => i = .int .i64 s.size) (fun i => (intOf i).toNat)
        case atStart => rfl
        case round =>
          subst hrel
          go_wp2
          go_ret
          exact ⟨rfl, hbel⟩

set_option maxRecDepth 100000 in
set_option maxHeartbeats 2000000 in
theorem rtrim_any (s : ByteArray) (f t : Nat) (hs : s.size ≤ 2097152) (h : TrimAt s f t) (w : World) :
    Calls Tryd.prog 26 #[.string s] w fun e w' => e = .returned (.string (s.extract f t)) ∧ w = w' := by
  have H := Lib.hid h
  have hl1 := h.le1
  have hl2 := h.le2
  clear h
  go_enter Tryd.func26, Tryd.ntmps26
  go_wp2
  go_loop [3] (fun i => ∃ k : Nat, k ≤ f ∧ i = .int .i64 k) (fun i => f - (intOf i).toNat)
  case atStart => exact ⟨0, by omega, rfl⟩
  case round =>
    obtain ⟨k, hk, rfl⟩ := hrel
    by_cases hkf : k < f
    · have hlt : k < s.size := by omega
      have hb := H.out.pre k hlt hkf
      go_wp2_with (go_at_call 17; refine (rspace_any _ _).mono ?_; rintro e w' ⟨rfl, rfl⟩)
      go_round
      case rel => exact ⟨k + 1, by omega, by simp⟩
      case measure => simp [intOf]; omega
    · obtain rfl : k = f := by omega
      by_cases hlt : k < s.size
      · have hb := H.out.at1 hlt
        go_wp2_with (go_at_call 17; refine (rspace_any _ _).mono ?_; rintro e w' ⟨rfl, rfl⟩)
        go_loop [4] (fun i => ∃ j : Nat, t ≤ j ∧ j ≤ s.size ∧ i = .int .i64 j) (fun i => (intOf i).toNat)
        case atStart => exact ⟨s.size, by omega, by omega, rfl⟩
        case round =>
          obtain ⟨j, htj, hj, rfl⟩ := hrel
          clear hb
          by_cases hgo : t < j
          · obtain ⟨m, rfl⟩ : ∃ m, j = m + 1 := ⟨j - 1, by omega⟩
            have hmlt : m < s.size := by omega
            have hkm : k < m + 1 := by omega
            have hb := H.out.post m hmlt (by omega)
            go_wp2_with (go_at_call 17; refine (rspace_any _ _).mono ?_; rintro e w' ⟨rfl, rfl⟩)
            go_round
            case rel => exact ⟨m, by omega, by omega, by simp⟩
            case measure => simp [intOf]
          · obtain rfl : j = t := by omega
            by_cases hkt : k < j
            · obtain ⟨m, rfl⟩ : ∃ m, j = m + 1 := ⟨j - 1, by omega⟩
              have hmlt : m < s.size := by omega
              have hb := H.out.at2 m hmlt rfl hkt
              have hsl := slice_str s k m (by omega) hmlt
              go_wp2_with (go_at_call 17; refine (rspace_any _ _).mono ?_; rintro e w' ⟨rfl, rfl⟩)
              go_ret
              exact ⟨rfl, rfl⟩
            · obtain rfl : k = j := by omega
              go_wp2
              go_ret
              exact ⟨rfl, rfl⟩
      · obtain rfl : k = s.size := by omega
        obtain rfl : t = s.size := by omega
        go_wp2
        go_loop [4] (fun i => i = .int .i64 s.size) (fun i => (intOf i).toNat)
        case atStart => rfl
        case round =>
          subst hrel
          go_wp2
          go_ret
          exact ⟨rfl, rfl⟩
end Go.Proofs.YtkopibaoolaelaaDoor
