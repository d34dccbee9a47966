/- Slices that show strings; SameStrings at one list. -/
import Derived.Test.YtdjkemodlbbmaaaDoorKvB
import Derived.Deep.QuietTactic
import Derived.BigQuiet
import Derived.IntWalk
import Derived.WalkSmall
namespace Go.Proofs.YtdjkemodlbbmaaaDoor
open Go.RowKit

/-- A slice that shows these strings, in memory that there is. -/
def StI (w : World) (v : Value) (L : List ByteArray) : Prop :=
  (L = [] ∧ ∃ a c, v = .slice a 0 c) ∨ ∃ g o c, v = .slice (some ⟨g, o, none⟩) L.length c ∧ g < w.heap.size ∧ ∀ i (h : i < L.length), w.cell? ⟨g, o + i, none⟩ = some (.string L[i])
theorem StI.below {w w' : World} {v : Value} {L : List ByteArray} (h : StI w v L) (k : Below w.heap.size w w') : StI w' v L := by
  rcases h with h | ⟨g, o, c, hv, hg, h3⟩
  · exact .inl h
  · exact .inr ⟨g, o, c, hv, Nat.lt_of_lt_of_le hg k.size, fun i hi => (k.cell (p := ⟨g, _, none⟩) hg).trans (h3 i hi)⟩
theorem StI.slice {w : World} {v : Value} {L : List ByteArray} (h : StI w v L) : ∃ a c, v = .slice a L.length c := by
  rcases h with ⟨rfl, a, c, rfl⟩ | ⟨g, o, c, rfl, -⟩
  · exact ⟨a, c, rfl⟩
  · exact ⟨_, c, rfl⟩
theorem StI.cell {w : World} {a : Option Addr} {n c i : Nat} {L : List ByteArray} (h : StI w (.slice a n c) L) (hi : i < L.length) : ∃ g o, a = some ⟨g, o, none⟩ ∧ w.cell? ⟨g, o + i, none⟩ = some (.string L[i]) ∧ g < w.heap.size := by
  rcases h with ⟨rfl, -⟩ | ⟨g, o, c, he, hg, h⟩
  · simp at hi
  · cases he; exact ⟨g, o, rfl, h i hi, hg⟩
set_option maxRecDepth 100000 in
set_option maxHeartbeats 1000000 in
theorem sameS_any (v1 v2 : Value) (L : List ByteArray) (hL : L.length ≤ 2097153) (w : World) (h1 : StI w v1 L) (h2 : StI w v2 L) :
    Calls Tryd.prog 18 #[v1, v2] w fun e w' => e = .returned (.bool true) ∧ Below w.heap.size w w' := by
  obtain ⟨a1, c1, rfl⟩ := h1.slice
  obtain ⟨a2, c2, rfl⟩ := h2.slice
  have H1 := Lib.hid h1
  have H2 := Lib.hid h2
  obtain ⟨n, hn⟩ : ∃ n, L.length = n := ⟨_, rfl⟩
  have HN := Lib.hid hn
  rw [hn] at hL ⊢
  clear h1 h2 hn
  go_enter Tryd.func18, Tryd.ntmps18
  go_wp2
  go_loopw [5] (fun i wr => ∃ k : Nat, k ≤ n ∧ i = .int .i64 k ∧ Below w.heap.size w wr) (fun i _ => n - (intOf i).toNat)
  case atStart => exact ⟨0, by omega, rfl, Below.refl _ _⟩
  case round =>
    obtain ⟨k, hk, rfl, hbr⟩ := hrel
    by_cases hlt : k < n
    · have hkL : k < L.length := by rw [HN.out]; exact hlt
      obtain ⟨g1, o1, rfl, e1, hg1⟩ := H1.out.cell hkL
      obtain ⟨g2, o2, rfl, e2, hg2⟩ := H2.out.cell hkL
      have e1 := (hbr.cell (p := ⟨g1, o1 + k, none⟩) hg1).trans e1
      have e2 := (hbr.cell (p := ⟨g2, o2 + k, none⟩) hg2).trans e2
      obtain ⟨x, hx⟩ : ∃ x : ByteArray, L[k] = x := ⟨_, rfl⟩
      rw [hx] at e1 e2
      have HB := Lib.hid hbr
      clear hx hbr
      go_wp2_with fail
      go_quiet (fail)
      go_wp2
      go_roundw
      case rel => exact ⟨k + 1, by omega, by go_num, below_drewN HB.out _⟩
      case measure => simp [intOf]; omega
    · obtain rfl : k = n := by omega
      go_wp2
      go_ret
      exact ⟨rfl, hbr⟩
end Go.Proofs.YtdjkemodlbbmaaaDoor
