/- The reference's Cut and SameStrings. -/
import Derived.Test.YtkopibaoolaelaaDoorFields2
import Derived.Deep.QuietTactic
import Derived.BigQuiet
namespace Go.Proofs.YtkopibaoolaelaaDoor
open Go.RowKit

theorem get_of (s : ByteArray) (k : Nat) (h : k < s.size) : s.data.toList[k]? = some s[k] := List.getElem?_eq_getElem (l := s.data.toList) (i := k) (by rw [sizeB]; exact h)

set_option maxRecDepth 100000 in
set_option maxHeartbeats 1000000 in
theorem rcut_no (s : ByteArray) (c : UInt8) (w : World) (hs : s.size ≤ 2097152) (h : Lib.indexByte s.data.toList c = -1) :
    Calls Tryd.prog 22 #[.string s, .int .u8 c.toNat] w fun e w' => e = .returned (cutNo s) ∧ w = w' := by
  have hne : ∀ k (hk : k < s.size), s[k] ≠ c := fun k hk e => by
    have h1 := Lib.indexByte_none h k
    rw [get_of s k hk, e] at h1
    exact h1 rfl
  have HN := Lib.hid hne
  clear hne h
  go_enter Tryd.func22, Tryd.ntmps22
  go_wp2
  go_loop [7] (fun i => ∃ k : Nat, k ≤ s.size ∧ i = .int .i64 k) (fun i => s.size - (intOf i).toNat)
  case atStart => exact ⟨0, by omega, rfl⟩
  case round =>
    obtain ⟨k, hk, rfl⟩ := hrel
    by_cases hlt : k < s.size
    · have hclt := UInt8.toNat_lt s[k]
      have hne : s[k].toNat ≠ c.toNat := fun e => HN.out k hlt (UInt8.toNat_inj.1 e)
      have hne2 : ((s[k].toNat : Int) == (c.toNat : Int)) = false := by simp; omega
      go_wp2
      go_round
      case rel => exact ⟨k + 1, by omega, by simp⟩
      case measure => simp [intOf]; omega
    · obtain rfl : k = s.size := by omega
      go_wp2
      go_ret3
      exact ⟨rfl, rfl⟩

set_option maxRecDepth 100000 in
set_option maxHeartbeats 1000000 in
theorem rcut_yes (s : ByteArray) (c : UInt8) (o : Nat) (w : World) (h : Lib.indexByte s.data.toList c = o) (ho : o < s.size) (hs : s.size ≤ 2097152) :
    Calls Tryd.prog 22 #[.string s, .int .u8 c.toNat] w fun e w' => e = .returned (cutYes s o) ∧ Below w.heap.size w w' := by
  have hs2 := Lib.indexByte_some h
  have heq : s[o] = c := by
    have := hs2.1
    rw [get_of s o ho] at this
    exact Option.some.inj this
  have hne : ∀ k (hk : k < s.size), k < o → s[k] ≠ c := fun k hk hko e => by
    have h1 := hs2.2 k hko
    rw [get_of s k hk, e] at h1
    exact h1 rfl
  have HN := Lib.hid hne
  have HE := Lib.hid heq
  clear hne h heq hs2
  have e1 : IntKind.i64.wrap ((o : Int) + 1) = (o : Int) + 1 := IntWalk.i64_in _ (by omega)
  have e2 : (0 : Int) ≤ (o : Int) + 1 := by omega
  have e3 : ((o : Int) + 1).toNat = o + 1 := by omega
  go_enter Tryd.func22, Tryd.ntmps22
  go_wp2
  go_loop [7] (fun i => ∃ k : Nat, k ≤ o ∧ i = .int .i64 k) (fun i => o - (intOf i).toNat)
  case atStart => exact ⟨0, by omega, rfl⟩
  case round =>
    obtain ⟨k, hk, rfl⟩ := hrel
    have hlt : k < s.size := by omega
    have hclt := UInt8.toNat_lt s[k]
    by_cases hko : k < o
    · have hne : s[k].toNat ≠ c.toNat := fun e => HN.out k hlt hko (UInt8.toNat_inj.1 e)
      have hne2 : ((s[k].toNat : Int) == (c.toNat : Int)) = false := by simp; omega
      clear e1 e2 e3
      go_wp2
      go_round
      case rel => exact ⟨k + 1, by omega, by simp⟩
      case measure => simp [intOf]; omega
    · obtain rfl : k = o := by omega
      have hne2 : ((s[k].toNat : Int) == (c.toNat : Int)) = true := by rw [HE.out]; simp
      have e4 : k + 1 ≤ s.size := by omega
      go_wp2_with fail
      go_quiet (fail)
      go_wp2
      go_ret3
      exact ⟨rfl, ⟨rfl, rfl, rfl, Nat.le_refl _, fun _ _ => rfl⟩⟩

set_option maxRecDepth 100000 in
theorem same_nil (a1 a2 : Option Addr) (c1 c2 : Nat) (w : World) :
    Calls Tryd.prog 23 #[.slice a1 0 c1, .slice a2 0 c2] w fun e w' => e = .returned (.bool true) ∧ w = w' := by
  go_enter Tryd.func23, Tryd.ntmps23
  go_wp2
  go_loop [5] (fun i => i = .int .i64 0) (fun _ => 0)
  case atStart => rfl
  case round =>
    subst hrel
    go_wp2
    go_ret
    exact ⟨rfl, rfl⟩

set_option maxRecDepth 100000 in
set_option maxHeartbeats 1000000 in
theorem same_some (b1 b2 c1 c2 : Nat) (L : List (List UInt8)) (hL : L.length ≤ 2097153) (w : World) (h1 : ∀ j, j < L.length → w.cell? ⟨b1, j, none⟩ = some (fEnc (L.getD j []))) (h2 : ∀ j, j < L.length → w.cell? ⟨b2, j, none⟩ = some (fEnc (L.getD j []))) :
    Calls Tryd.prog 23 #[.slice (some ⟨b1, 0, none⟩) L.length c1, .slice (some ⟨b2, 0, none⟩) L.length c2] w fun e w' => e = .returned (.bool true) ∧ Below w.heap.size w w' := by
  have H1 := Lib.hid h1
  have H2 := Lib.hid h2
  clear h1 h2
  go_enter Tryd.func23, Tryd.ntmps23
  go_wp2
  go_loopw [5] (fun i wr => ∃ k : Nat, k ≤ L.length ∧ i = .int .i64 k ∧ Below w.heap.size w wr) (fun i _ => L.length - (intOf i).toNat)
  case atStart => exact ⟨0, by omega, rfl, Below.refl _ _⟩
  case round =>
    obtain ⟨k, hk, rfl, hbr⟩ := hrel
    by_cases hlt : k < L.length
    · have e1 := (hbr.cell (block_lt_of_cell (H1.out k hlt))).trans (H1.out k hlt)
      have e2 := (hbr.cell (block_lt_of_cell (H2.out k hlt))).trans (H2.out k hlt)
      unfold fEnc at e1 e2
      obtain ⟨x, hx⟩ : ∃ x : ByteArray, ByteArray.mk (L.getD k []).toArray = x := ⟨_, rfl⟩
      rw [hx] at e1 e2
      go_wp2_with fail
      go_quiet (fail)
      go_wp2
      go_roundw
      case rel => exact ⟨k + 1, by omega, by simp, hbr.trans ⟨rfl, rfl, rfl, Nat.le_refl _, fun _ _ => rfl⟩⟩
      case measure => simp [intOf]; omega
    · obtain rfl : k = L.length := by omega
      go_wp2
      go_ret
      exact ⟨rfl, hbr⟩
theorem same_any (v1 v2 : Value) (L : List (List UInt8)) (hL : L.length ≤ 2097153) (n1 n2 : Nat) (w : World) (h1 : StrsAt w n1 v1 L) (h2 : StrsAt w n2 v2 L) :
    Calls Tryd.prog 23 #[v1, v2] w fun e w' => e = .returned (.bool true) ∧ Below w.heap.size w w' := by
  by_cases h0 : L = []
  · subst h0
    obtain ⟨a1, c1, rfl⟩ := h1.slice
    obtain ⟨a2, c2, rfl⟩ := h2.slice
    exact (same_nil a1 a2 c1 c2 w).mono fun e w' ⟨he, hw⟩ => ⟨he, by subst hw; exact Below.refl _ _⟩
  · rcases h1 with ⟨_, e⟩ | ⟨b1, c1, rfl, _, _, hc1⟩
    · exact absurd e h0
    · rcases h2 with ⟨_, e⟩ | ⟨b2, c2, rfl, _, _, hc2⟩
      · exact absurd e h0
      · exact same_some b1 b2 c1 c2 L hL w hc1 hc2
end Go.Proofs.YtkopibaoolaelaaDoor
