/- The contract of the reference's padded. -/
import Derived.Test.YtofomlbhbbhdjaaDoorPadd
namespace Go.Proofs.YtofomlbhbbhdjaaDoor
open Go.RowKit

def lenOf : Value → Nat
  | .string s => s.size
  | _ => 0
theorem sizeOf_list (l : List UInt8) : (ByteArray.mk l.toArray).size = l.length := by simp [ByteArray.size]
theorem zero_str (j : Nat) (L : List UInt8) : (ByteArray.mk #[48]) ++ (ByteArray.mk (List.replicate j 48 ++ L).toArray) = ⟨(List.replicate (j + 1) 48 ++ L).toArray⟩ := by
  have := str_two [48] (List.replicate j 48 ++ L)
  rw [show (ByteArray.mk #[48]) = ⟨[48].toArray⟩ from rfl, this, List.replicate_succ]; rfl

end Go.Proofs.YtofomlbhbbhdjaaDoor
