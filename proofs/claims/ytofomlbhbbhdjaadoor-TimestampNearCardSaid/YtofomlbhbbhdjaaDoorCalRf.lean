/- The contract of the reference's Format. -/
import Derived.Test.YtofomlbhbbhdjaaDoorCalRt
import Derived.Test.YtofomlbhbbhdjaaDoorRpadd
import Derived.Test.YtofomlbhbbhdjaaDoorCalAw
namespace Go.Proofs.YtofomlbhbbhdjaaDoor
open Go.RowKit

theorem str_zone (G sg A C : List UInt8) : Ending.returned (.tuple #[.string ((((ByteArray.mk G.toArray) ++ (ByteArray.mk sg.toArray)) ++ (ByteArray.mk A.toArray)) ++ (ByteArray.mk [58].toArray) ++ (ByteArray.mk C.toArray)), .int .i64 0]) = .returned (.tuple #[.string ⟨(G ++ zoneP sg A C).toArray⟩, .int .i64 0]) := by
  rw [str_two, str_two, str_two, str_two]
  simp [zoneP]

end Go.Proofs.YtofomlbhbbhdjaaDoor
