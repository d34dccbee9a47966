/- Both Frames at whatever offset; logtidemake's Mod at whatever number. -/
import Derived.Test.YtbpboghjgbgjfaaDoorFrJ
import Derived.Test.YtbpboghjgbgjfaaDoorFsW
namespace Go.Proofs.YtbpboghjgbgjfaaDoor
open Go.RowKit

theorem frames_any (a : Option Addr) (c : Nat) (L : List UInt8) (off lim : Int) (hL : L.length ≤ 2097152) : ∃ (z oo : Int) (l : List UInt8) (sp : List (Nat × Nat)), sp.length ≤ 4000000 ∧
    (∀ w, Tabs w → BySl w (.slice a L.length c) L → Calls Tryd.prog 13 #[.slice a L.length c, .int .i64 off, .int .i64 lim] w fun e w' => (∃ v, e = .returned (.tuple #[v, .int .i64 z]) ∧ w'.ownsRow w.heap.size 41 5 v sp.length (frL l oo lim sp)) ∧ Below w.heap.size w w') ∧
    (∀ w, BySl w (.slice a L.length c) L → Calls Tryd.prog 14 #[.slice a L.length c, .int .i64 off, .int .i64 lim] w fun e w' => (∃ v, e = .returned (.tuple #[v, .int .i64 z]) ∧ w'.ownsRow w.heap.size 41 5 v sp.length (frL l oo lim sp)) ∧ Below w.heap.size w w') := by
  by_cases h : off < 0 ∨ (L.length : Int) < off
  · refine ⟨off, 0, [], [], by simp, fun w _ _ => ?_, fun w _ => ?_⟩
    · refine (frame_no a L.length c off lim w h).mono ?_
      rintro e w' ⟨rfl, rfl⟩
      exact ⟨⟨_, rfl, World.ownsRow_nil _ _ _ _⟩, Below.refl _ _⟩
    · refine (rframe_no a L.length c off lim w h).mono ?_
      rintro e w' ⟨rfl, rfl⟩
      exact ⟨⟨_, rfl, World.ownsRow_nil _ _ _ _⟩, Below.refl _ _⟩
  · obtain ⟨o, rfl⟩ : ∃ o : Nat, off = (o : Int) := ⟨off.toNat, by omega⟩
    have hlen := spK_len (L.drop o) (L.drop o).length
    have hdl : (L.drop o).length = L.length - o := List.length_drop ..
    exact ⟨_, _, L.drop o, spK (L.drop o) (L.drop o).length, by omega, fun w hT hS => frame_yes a c o L _ rfl lim hL (by omega) w hT hS, fun w hS => rframe_yes a c o L _ rfl lim hL (by omega) w hS⟩
theorem tmod_bd (x n : Int) (hn : 1 ≤ n) : -n < Int.tmod x n ∧ Int.tmod x n < n := by
  by_cases h : 0 ≤ x
  · rw [Int.tmod_eq_emod_of_nonneg h]
    have h1 := Int.emod_nonneg x (show n ≠ 0 by omega)
    have h2 := Int.emod_lt_of_pos x (show 0 < n by omega)
    omega
  · have e : Int.tmod x n = -(Int.tmod (-x) n) := by rw [Int.neg_tmod]; omega
    rw [e, Int.tmod_eq_emod_of_nonneg (by omega)]
    have h1 := Int.emod_nonneg (-x) (show n ≠ 0 by omega)
    have h2 := Int.emod_lt_of_pos (-x) (show 0 < n by omega)
    omega
set_option maxRecDepth 100000 in
theorem modn_any (x n : Int) (w : World) (hn : 1 ≤ n) (hn2 : n ≤ 9223372036854775807) : Calls Tryd.prog 12 #[.int .i64 x, .int .i64 n] w fun e w' => (∃ m : Int, e = .returned (.int .i64 m) ∧ 0 ≤ m ∧ m < n) ∧ w' = w := by
  have hb := tmod_bd x n hn
  have d0 : decide (n < 1) = false := decide_eq_false (by omega)
  have hnz : (n == 0) = false := by rw [beq_eq_false_iff_ne]; omega
  obtain ⟨r, hr⟩ : ∃ r, Int.tmod x n = r := ⟨_, rfl⟩
  have hw : IntKind.i64.wrap (Int.tmod x n) = r := by rw [hr] at hb ⊢; exact IntWalk.i64_in _ (by omega)
  rw [hr] at hb
  by_cases hneg : r < 0
  · have d1 : decide (r < 0) = true := decide_eq_true hneg
    go_enter Tryd.func12, Tryd.ntmps12
    go_wp2
    go_ret
    exact ⟨⟨_, rfl, by omega, by omega⟩, rfl⟩
  · have d1 : decide (r < 0) = false := decide_eq_false hneg
    go_enter Tryd.func12, Tryd.ntmps12
    go_wp2
    go_ret
    exact ⟨⟨_, rfl, by omega, by omega⟩, rfl⟩
end Go.Proofs.YtbpboghjgbgjfaaDoor
