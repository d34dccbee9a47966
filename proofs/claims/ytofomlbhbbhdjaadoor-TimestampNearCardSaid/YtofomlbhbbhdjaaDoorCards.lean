/-
  DERIVED. GIVEN WITH THE SEED: THE CARDS: each row of YtofomlbhbbhdjaaDoorRows.lean that lists a variable, with what it lists TIED to the program's text (the seventh form; the later family's looks); each row that meets fmt, with fmt's text TOLD by the authors' own Lean function (tested against real Go, not proved from fmt's source: count such statements apart). THE CARD IS WHAT COUNTS. Prove the row's statement (the work); the ties are given (YtofomlbhbbhdjaaDoorTie.lean); close each card by the builder's one call (the guide's Derived/Test/ToyasCard.lean, 'card_holds'). Laid BY PROGRAM, IN A SANDBOX (cutbox-door.mjs). By AI agents, Wed Nov 11 2026. No macro, syntax, notation, axiom, sorry.
-/
import Derived.Test.YtofomlbhbbhdjaaDoorRows
import GoSem.ClaimSeven
namespace Go.Proofs.YtofomlbhbbhdjaaDoor
namespace Rows

/-- THE TIED CARD OF 'logtidelaw06.TimestampRecovers'. -/
def timestampRecoversCard : Claim7 := { stood := { row := timestampRecoversRow, standIns := [], harness := (true, "89cc611476cb96450a6e263b6e3f5425cea3eeeabd9dd3a006168dc0e72f44ce"), looks := false }, kinds := [], alts := [], laidByText := true, laidKinds := [.data, .data], laidTests := true, laidLooks := .later }
def TimestampRecoversCardSaid : Prop := Claim7.holds Tryd.pinned (.plain (OpenSpec.ofChange timestampRecoversSpec)) timestampRecoversCard

/-- THE TIED CARD OF 'logtidelaw06.TimestampYears'. -/
def timestampYearsCard : Claim7 := { stood := { row := timestampYearsRow, standIns := [], harness := (true, "89cc611476cb96450a6e263b6e3f5425cea3eeeabd9dd3a006168dc0e72f44ce"), looks := false }, kinds := [], alts := [], laidByText := true, laidKinds := [.data, .data], laidTests := true, laidLooks := .later }
def TimestampYearsCardSaid : Prop := Claim7.holds Tryd.pinned (.plain (OpenSpec.ofChange timestampYearsSpec)) timestampYearsCard

/-- THE TIED CARD OF 'logtidelaw06.TimestampReturns'. -/
def timestampReturnsCard : Claim7 := { stood := { row := timestampReturnsRow, standIns := [], harness := (true, "89cc611476cb96450a6e263b6e3f5425cea3eeeabd9dd3a006168dc0e72f44ce"), looks := false }, kinds := [], alts := [], laidByText := true, laidKinds := [.data, .data, .data, .data, .data], laidTests := true, laidLooks := .later }
def TimestampReturnsCardSaid : Prop := Claim7.holds Tryd.pinned (.plain (OpenSpec.ofChange timestampReturnsSpec)) timestampReturnsCard

/-- THE TIED CARD OF 'logtidelaw06.TimestampNear'. -/
def timestampNearCard : Claim7 := { stood := { row := timestampNearRow, standIns := [], harness := (true, "89cc611476cb96450a6e263b6e3f5425cea3eeeabd9dd3a006168dc0e72f44ce"), looks := false }, kinds := [], alts := [], laidByText := true, laidKinds := [.data, .data, .data, .data, .data], laidTests := true, laidLooks := .later }
def TimestampNearCardSaid : Prop := Claim7.holds Tryd.pinned (.plain (OpenSpec.ofChange timestampNearSpec)) timestampNearCard

/-- THE SECOND FORM's CARD OF 'logtidelaw06.TimestampRecovers'. -/
def timestampRecoversUptoCard : Claim7 := { stood := { row := timestampRecoversUptoRow, standIns := [], harness := (true, "89cc611476cb96450a6e263b6e3f5425cea3eeeabd9dd3a006168dc0e72f44ce"), looks := false }, kinds := [], alts := [], laidByText := true, laidKinds := [.data, .data], laidTests := true, laidLooks := .later }
def TimestampRecoversUptoCardSaid : Prop := Claim7.holds Tryd.pinned (.plain (OpenSpec.upto timestampRecoversSpec)) timestampRecoversUptoCard

/-- THE SECOND FORM's CARD OF 'logtidelaw06.TimestampYears'. -/
def timestampYearsUptoCard : Claim7 := { stood := { row := timestampYearsUptoRow, standIns := [], harness := (true, "89cc611476cb96450a6e263b6e3f5425cea3eeeabd9dd3a006168dc0e72f44ce"), looks := false }, kinds := [], alts := [], laidByText := true, laidKinds := [.data, .data], laidTests := true, laidLooks := .later }
def TimestampYearsUptoCardSaid : Prop := Claim7.holds Tryd.pinned (.plain (OpenSpec.upto timestampYearsSpec)) timestampYearsUptoCard

/-- THE SECOND FORM's CARD OF 'logtidelaw06.TimestampReturns'. -/
def timestampReturnsUptoCard : Claim7 := { stood := { row := timestampReturnsUptoRow, standIns := [], harness := (true, "89cc611476cb96450a6e263b6e3f5425cea3eeeabd9dd3a006168dc0e72f44ce"), looks := false }, kinds := [], alts := [], laidByText := true, laidKinds := [.data, .data, .data, .data, .data], laidTests := true, laidLooks := .later }
def TimestampReturnsUptoCardSaid : Prop := Claim7.holds Tryd.pinned (.plain (OpenSpec.upto timestampReturnsSpec)) timestampReturnsUptoCard

/-- THE SECOND FORM's CARD OF 'logtidelaw06.TimestampNear'. -/
def timestampNearUptoCard : Claim7 := { stood := { row := timestampNearUptoRow, standIns := [], harness := (true, "89cc611476cb96450a6e263b6e3f5425cea3eeeabd9dd3a006168dc0e72f44ce"), looks := false }, kinds := [], alts := [], laidByText := true, laidKinds := [.data, .data, .data, .data, .data], laidTests := true, laidLooks := .later }
def TimestampNearUptoCardSaid : Prop := Claim7.holds Tryd.pinned (.plain (OpenSpec.upto timestampNearSpec)) timestampNearUptoCard
end Rows
end Go.Proofs.YtofomlbhbbhdjaaDoor
