/- Bytes that are read alone, as a string. -/
import Derived.Test.YtfihnmfbgdjkpaaBys
import Derived.Laws.IdiomStrings
namespace Go.Proofs.Ytfihnmfbgdjkpaa
open Go.RowKit

/-- Bytes as a string. -/
theorem conv_by {W : World} {v : Value} {l : List UInt8} (h : BySl W v l) : (convert 22 9 v).run Try.prog W = .ok (.string ⟨l.toArray⟩) W := by
  obtain ⟨a, c, rfl, hlc, hx⟩ := h
  cases a with
  | none =>
    by_cases h0 : l.length = 0
    · obtain rfl := List.eq_nil_of_length_eq_zero h0
      exact run_convert_bytes_nil W 22 5 Try.underlying22 Try.underlying5 0 c 9 Try.underlying9
    · obtain ⟨g, o, e, -⟩ := hx 0 (by omega)
      cases e
  | some ad =>
    refine run_convert_bytes_back W 22 9 5 ad c l Try.underlying22 Try.underlying5 Try.underlying9 (fun j hj => ?_)
    obtain ⟨g, o, e, -, hc⟩ := hx j hj
    cases e
    have hadd : (⟨g, o, none⟩ : Addr).add j = ⟨g, o + j, none⟩ := by
      unfold Addr.add
      split
      · rename_i hz; rw [hz]; rfl
      · rfl
    rw [hadd]; exact hc
end Go.Proofs.Ytfihnmfbgdjkpaa
