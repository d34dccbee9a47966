/- A []api.Field argument opened. -/
import Derived.Test.YtdjkemodlbbmaaaDoorArgS
import Derived.Deep.SlicePairs
namespace Go.Proofs.YtdjkemodlbbmaaaDoor
open Go.ChangeShapes Go.WideShapes Go.ChangeAt Go.RowKit

theorem cells2f : Tryd.prog.cellsOf 31 = 2 := by kernel_rfl
theorem opened_fields {H : Type} {enc : TypeId × Value → H} {W : World} {a : Option Addr} {n c : Nat} {d : DataW H} {ps : List MemPlace} (h : DataW.Trod enc Tryd.prog W 0 (fun _ => true) true 22 (.slice a n c) d ps) :
    ∃ L, FsI W (.slice a n c) L ∧ ∀ x ∈ L, x.1.size ≤ maxLen := by
  obtain ⟨f, hf⟩ := h
  rcases Go.Deep.open_slice_pairs Tryd.underlying22 Tryd.underlying31 cells2f rfl rfl cells1s cells1s hf with ⟨hcs, hx⟩ | ⟨ad, len, cap, m, n', V0, V1, D0, D1, P0, P1, hcs, _, hl, hm, hmm, hx, hcell⟩
  · simp [Value.cells] at hcs
    obtain ⟨rfl, rfl, rfl⟩ := hcs
    exact ⟨[], .inl ⟨rfl, _, _, rfl⟩, fun x hx => by cases hx⟩
  · simp [Value.cells] at hcs
    obtain ⟨rfl, rfl, rfl⟩ := hcs
    simp only [if_true] at hmm
    have each : ∀ i, i < n → ∃ p : FldV, V0 i = .string p.1 ∧ V1 i = .string p.2 ∧ p.1.size ≤ maxLen := fun i hi => by
      obtain ⟨-, -, h0, h1⟩ := hcell i (by omega)
      obtain ⟨s0, e0, -, hs0⟩ := DataW.trod_string Tryd.underlying9 h0
      obtain ⟨s1, e1, -, hs1⟩ := DataW.trod_string Tryd.underlying9 h1
      exact ⟨(s0, s1), by simpa using e0, by simpa using e1, hs0⟩
    by_cases h0 : n = 0
    · subst h0
      exact ⟨[], .inl ⟨rfl, _, _, rfl⟩, fun x hx => by cases hx⟩
    · obtain ⟨b, off, spot⟩ := ad
      have hspot : spot = none := by simpa [Addr.add] using World.cell?_spot (hcell 0 (by omega)).1
      subst hspot
      obtain ⟨F, hF⟩ : ∃ F : Nat → FldV, ∀ i, i < n → V0 i = .string (F i).1 ∧ V1 i = .string (F i).2 ∧ (F i).1.size ≤ maxLen := by
        refine ⟨fun i => if hi : i < n then (each i hi).choose else (⟨#[]⟩, ⟨#[]⟩), fun i hi => ?_⟩
        simp only [hi, dite_true]
        exact (each i hi).choose_spec
      have hc : ∀ j, j < n → W.cell? ⟨b, off + j * 2, none⟩ = some (.string (F j).1) ∧ W.cell? ⟨b, off + j * 2 + 1, none⟩ = some (.string (F j).2) := fun j hj => by
        obtain ⟨c0, c1, -, -⟩ := hcell j (by omega)
        rw [Go.WideShapes.add_plain] at c0 c1
        rw [c0, (hF j hj).1, ← (hF j hj).2.1]
        refine ⟨rfl, ?_⟩
        rw [← c1, Nat.add_assoc]
      refine ⟨(List.range n).map F, .inr ⟨b, off, c, by simp, block_lt_of_cell (a := ⟨b, off + 0 * 2, none⟩) (hc 0 (by omega)).1, by simpa using hl, hm, fun i hi => ?_⟩, fun x hx => ?_⟩
      · have hi2 : i < n := by simpa using hi
        simpa using hc i hi2
      · obtain ⟨i, hi, rfl⟩ := List.mem_map.1 hx
        exact (hF i (List.mem_range.1 hi)).2.2
end Go.Proofs.YtdjkemodlbbmaaaDoor
