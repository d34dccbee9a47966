/-
  DERIVED. GIVEN WITH THE SEED: THE CARDS: each row of YtpbfgafkoodeoaaDoorRows.lean that lists a variable, with what it lists TIED to the program's text (the seventh form; the later family's looks); each row that meets fmt, with fmt's text TOLD by the authors' own Lean function (tested against real Go, not proved from fmt's source: count such statements apart). THE CARD IS WHAT COUNTS. Prove the row's statement (the work); the ties are given (YtpbfgafkoodeoaaDoorTie.lean); close each card by the builder's one call (the guide's Derived/Test/ToyasCard.lean, 'card_holds'). Laid BY PROGRAM, IN A SANDBOX (cutbox-door.mjs). By AI agents, Wed Nov 11 2026. No macro, syntax, notation, axiom, sorry.
-/
import Derived.Test.YtpbfgafkoodeoaaDoorRows
import GoSem.ClaimSeven
namespace Go.Proofs.YtpbfgafkoodeoaaDoor
namespace Rows

/-- THE TIED CARD OF 'logtidelaw06.TimestampRecovers'. -/
def timestampRecoversCard : Claim7 := { stood := { row := timestampRecoversRow, standIns := [], harness := (true, "4f7b126166f37761bfd05e886c62447ad755a20ed2348581a9fd8360f2a274ac"), looks := false }, kinds := [], alts := [], laidByText := true, laidKinds := [.data, .data], laidTests := true, laidLooks := .later }
def TimestampRecoversCardSaid : Prop := Claim7.holds Tryd.pinned (.plain (OpenSpec.ofChange timestampRecoversSpec)) timestampRecoversCard

/-- THE SECOND FORM's CARD OF 'logtidelaw06.TimestampRecovers'. -/
def timestampRecoversUptoCard : Claim7 := { stood := { row := timestampRecoversUptoRow, standIns := [], harness := (true, "4f7b126166f37761bfd05e886c62447ad755a20ed2348581a9fd8360f2a274ac"), looks := false }, kinds := [], alts := [], laidByText := true, laidKinds := [.data, .data], laidTests := true, laidLooks := .later }
def TimestampRecoversUptoCardSaid : Prop := Claim7.holds Tryd.pinned (.plain (OpenSpec.upto timestampRecoversSpec)) timestampRecoversUptoCard
end Rows
end Go.Proofs.YtpbfgafkoodeoaaDoor
