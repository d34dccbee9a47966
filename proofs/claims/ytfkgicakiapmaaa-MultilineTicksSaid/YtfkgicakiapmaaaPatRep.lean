/- The contract of the parser's repeat, where choice, brackets and bounds keep theirs. -/
import Derived.Test.YtfkgicakiapmaaaPatAtom
namespace Go.Proofs.Ytfkgicakiapmaaa
open Go.RowKit

theorem rep_node (lo : Nat) (w : World) (k : Nd) (b : Nat) (a c : Int) (ha : i64In a) (hc : i64In c) (hlo : lo ≤ b) (h : KidsIn lo w [k] b 0) :
    NodeIn lo w (ndRep k a c) (.agg #[.int .i64 4, .slice none 0 0, .string ⟨#[]⟩, .slice (some ⟨b, 0, none⟩) 1 1, .int .i64 a, .int .i64 c]) := by
  unfold ndRep NodeIn
  exact ⟨_, some ⟨b, 0, none⟩, 1, rfl, small64 (by omega), ha, hc, by simp [noName, maxLen, ByteArray.size], by simp [maxLen], no_ranges _ _, .inr ⟨b, 0, rfl, hlo, h⟩⟩

end Go.Proofs.Ytfkgicakiapmaaa
