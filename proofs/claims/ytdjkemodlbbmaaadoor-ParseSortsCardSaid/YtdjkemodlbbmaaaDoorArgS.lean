/- A []string argument and a []api.Field argument opened. -/
import Derived.Test.YtdjkemodlbbmaaaDoorArgs
import Derived.Test.YtdjkemodlbbmaaaDoorKvK
import Derived.Test.YtdjkemodlbbmaaaDoorKvA
import Derived.SliceStrings
import Derived.Deep.SlicePairs
namespace Go.Proofs.YtdjkemodlbbmaaaDoor
open Go.ChangeShapes Go.WideShapes Go.ChangeAt Go.RowKit

theorem cells1s : Tryd.prog.cellsOf 9 = 1 := by kernel_rfl
theorem opened_strings {H : Type} {enc : TypeId × Value → H} {W : World} {a : Option Addr} {n c : Nat} {d : DataW H} {ps : List MemPlace} (h : DataW.Trod enc Tryd.prog W 0 (fun _ => true) true 37 (.slice a n c) d ps) :
    ∃ L, StI W (.slice a n c) L := by
  obtain ⟨f, hf⟩ := h
  rcases open_strings Tryd.underlying37 Tryd.underlying9 cells1s hf with ⟨hcs, hx⟩ | ⟨ad, len, cap, ss, hcs, _, hl, hm, hz, hx, hcell, hwz⟩
  · simp [Value.cells] at hcs
    obtain ⟨rfl, rfl, rfl⟩ := hcs
    exact ⟨[], .inl ⟨rfl, _, _, rfl⟩⟩
  · simp [Value.cells] at hcs
    obtain ⟨rfl, rfl, rfl⟩ := hcs
    simp only [if_true] at hz
    have hn : (ss.take n).length = n := by simp; omega
    by_cases h0 : n = 0
    · subst h0
      exact ⟨[], .inl ⟨rfl, _, _, rfl⟩⟩
    · obtain ⟨b, off, spot⟩ := ad
      have hspot : spot = none := by simpa [Addr.add] using World.cell?_spot (hcell 0 (by omega))
      subst hspot
      have hc : ∀ j, j < ss.length → W.cell? ⟨b, off + j, none⟩ = some (.string (ss.getD j ByteArray.empty)) := fun j hj => by rw [← Go.WideShapes.add_plain]; exact hcell j hj
      refine ⟨ss.take n, .inr ⟨b, off, c, by rw [hn], block_lt_of_cell (a := ⟨b, off + 0, none⟩) (hc 0 (by omega)), fun i hi => ?_⟩⟩
      have hi2 : i < ss.length := by rw [hn] at hi; omega
      rw [hc i hi2]
      simp [hi2]
end Go.Proofs.YtdjkemodlbbmaaaDoor
