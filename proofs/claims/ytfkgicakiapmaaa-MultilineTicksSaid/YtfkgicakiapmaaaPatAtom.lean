/- The contract of the parser's atom, where choice and brackets keep theirs. -/
import Derived.Test.YtfkgicakiapmaaaPatParen
namespace Go.Proofs.Ytfkgicakiapmaaa
open Go.RowKit

theorem class_node (lo : Nat) (w : World) (v : Value) (rs : List (Nat × Nat)) (h : RangesIn lo w v rs) :
    NodeIn lo w (ndClass rs) (.agg #[.int .i64 1, v, .string ⟨#[]⟩, .slice none 0 0, .int .i64 0, .int .i64 0]) := by
  unfold ndClass NodeIn
  exact ⟨v, none, 0, rfl, small64 (by omega), small64 (by omega), small64 (by omega), by simp [noName, maxLen, ByteArray.size], by simp, h, .inl rfl⟩
theorem leaf_node (lo : Nat) (w : World) (o : Int) (ho : 0 ≤ o ∧ o ≤ 7) : NodeIn lo w (ndLeaf o) (.agg #[.int .i64 o, .slice none 0 0, .string ⟨#[]⟩, .slice none 0 0, .int .i64 0, .int .i64 0]) := by
  unfold ndLeaf NodeIn
  exact ⟨_, none, 0, rfl, small64 (by omega), small64 (by omega), small64 (by omega), by simp [noName, maxLen, ByteArray.size], by simp, no_ranges _ _, .inl rfl⟩
theorem dot_ranges : ∀ x ∈ [((0 : Nat), (9 : Nat)), (11, 255)], x.1 < 256 ∧ x.2 < 256 := by decide

end Go.Proofs.Ytfkgicakiapmaaa
