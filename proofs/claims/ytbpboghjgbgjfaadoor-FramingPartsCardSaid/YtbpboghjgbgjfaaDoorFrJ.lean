/- The reference of layer 9: Same of two rows of the same records. -/
import Derived.Test.YtbpboghjgbgjfaaDoorFrI
namespace Go.Proofs.YtbpboghjgbgjfaaDoor
open Go.RowKit

set_option maxRecDepth 100000 in
set_option linter.unusedSimpArgs false in
set_option maxHeartbeats 4000000 in
theorem same_any {b1 b2 : Nat} {w : World} {v1 v2 : Value} {l : List UInt8} {off lim : Int} {sp : List (Nat × Nat)} (h1 : w.ownsRow b1 41 5 v1 sp.length (frL l off lim sp)) (h2 : w.ownsRow b2 41 5 v2 sp.length (frL l off lim sp)) (hb : sp.length ≤ 4000000) :
    Calls Tryd.prog 15 #[v1, v2] w fun e w' => e = .returned (.bool true) ∧ Below w.heap.size w w' := by
  obtain ⟨a1, c1, rfl, hc1, hx1⟩ := fr_form h1
  obtain ⟨a2, c2, rfl, hc2, hx2⟩ := fr_form h2
  obtain ⟨N, hN⟩ : ∃ N, sp.length = N := ⟨_, rfl⟩
  have H := Lib.hid (And.intro hx1 (And.intro hx2 hN))
  rw [hN] at hc1 hc2 hb ⊢
  clear h1 h2 hx1 hx2 hN
  go_enter Tryd.func15, Tryd.ntmps15
  go_wp2_with fail
  go_loopw [5] (fun iv wr => ∃ i m : Nat, i ≤ N ∧ iv = .int .i64 i ∧ wr = w.drewN m) (fun iv _ => N - (intOf iv).toNat)
  case atStart => exact ⟨0, 0, Nat.zero_le _, rfl, rfl⟩
  case round =>
    obtain ⟨i, m, hi, rfl, rfl⟩ := hrel
    by_cases hlt : i < N
    · have e1 : decide ((i : Int) < (N : Int)) = true := by rw [decide_eq_true_iff]; omega
      have i1 : (i : Int) < (N : Int) := by omega
      have i2 : (0 : Int) ≤ (i : Int) := by omega
      obtain ⟨g1, g2, E, P, S, D, B, rfl, rfl, p0, p1, p2, p3, p4, q0, q1, q2, q3, q4⟩ : ∃ (g1 g2 : Nat) (E P : Int) (S : ByteArray) (D : Int) (B : Bool), a1 = some ⟨g1, 0, none⟩ ∧ a2 = some ⟨g2, 0, none⟩ ∧
          w.cell? ⟨g1, i * 5, none⟩ = some (.int .i64 E) ∧ w.cell? ⟨g1, i * 5 + 1, none⟩ = some (.int .i64 P) ∧ w.cell? ⟨g1, i * 5 + 2, none⟩ = some (.string S) ∧ w.cell? ⟨g1, i * 5 + 3, none⟩ = some (.int .i64 D) ∧ w.cell? ⟨g1, i * 5 + 4, none⟩ = some (.bool B) ∧
          w.cell? ⟨g2, i * 5, none⟩ = some (.int .i64 E) ∧ w.cell? ⟨g2, i * 5 + 1, none⟩ = some (.int .i64 P) ∧ w.cell? ⟨g2, i * 5 + 2, none⟩ = some (.string S) ∧ w.cell? ⟨g2, i * 5 + 3, none⟩ = some (.int .i64 D) ∧ w.cell? ⟨g2, i * 5 + 4, none⟩ = some (.bool B) := by
        have hsl : i < sp.length := by rw [H.out.2.2]; exact hlt
        obtain ⟨g1, h1, h2⟩ := H.out.1 i hsl
        obtain ⟨g2, h3, h4⟩ := H.out.2.1 i hsl
        exact ⟨g1, g2, _, _, _, _, _, h1, h3, h2 0 (by omega), h2 1 (by omega), h2 2 (by omega), h2 3 (by omega), h2 4 (by omega), h4 0 (by omega), h4 1 (by omega), h4 2 (by omega), h4 3 (by omega), h4 4 (by omega)⟩
      go_wp2_with fail
      go_quiet (fail)
      go_wp2
      go_roundw
      case rel => exact ⟨i + 1, m + nq, by omega, by congr 1, rfl⟩
      case measure => simp [intOf]; omega
    · obtain rfl : i = N := by omega
      have e1 : decide ((i : Int) < (i : Int)) = false := by simp
      go_wp2
      go_ret
      exact ⟨rfl, bl_drewN (Below.refl _ _) m⟩
end Go.Proofs.YtbpboghjgbgjfaaDoor
