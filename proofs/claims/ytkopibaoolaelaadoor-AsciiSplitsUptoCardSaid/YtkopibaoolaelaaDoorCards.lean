/-
  DERIVED. GIVEN WITH THE SEED: THE CARDS: each row of YtkopibaoolaelaaDoorRows.lean that lists a variable, with what it lists TIED to the program's text (the seventh form; the later family's looks); each row that meets fmt, with fmt's text TOLD by the authors' own Lean function (tested against real Go, not proved from fmt's source: count such statements apart). THE CARD IS WHAT COUNTS. Prove the row's statement (the work); the ties are given (YtkopibaoolaelaaDoorTie.lean); close each card by the builder's one call (the guide's Derived/Test/ToyasCard.lean, 'card_holds'). Laid BY PROGRAM, IN A SANDBOX (cutbox-door.mjs). By AI agents, Wed Nov 11 2026. No macro, syntax, notation, axiom, sorry.
-/
import Derived.Test.YtkopibaoolaelaaDoorRows
import GoSem.ClaimSeven
namespace Go.Proofs.YtkopibaoolaelaaDoor
namespace Rows

/-- THE TIED CARD OF 'logtidelaw01.AsciiClasses'. -/
def asciiClassesCard : Claim7 := { stood := { row := asciiClassesRow, standIns := [], harness := (true, "f012caf02507196e5dff1cfd24be9d04f6636e8b3a95531f9e5803a017d56516"), looks := false }, kinds := [], alts := [], laidByText := true, laidKinds := [.data, .pinned], laidTests := true, laidLooks := .later }
def AsciiClassesCardSaid : Prop := Claim7.holds Tryd.pinned (.plain (OpenSpec.ofChange asciiClassesSpec)) asciiClassesCard

/-- THE TIED CARD OF 'logtidelaw01.AsciiRepairs'. -/
def asciiRepairsCard : Claim7 := { stood := { row := asciiRepairsRow, standIns := [], harness := (true, "f012caf02507196e5dff1cfd24be9d04f6636e8b3a95531f9e5803a017d56516"), looks := false }, kinds := [], alts := [], laidByText := true, laidKinds := [.data, .pinned], laidTests := true, laidLooks := .later }
def AsciiRepairsCardSaid : Prop := Claim7.holds Tryd.pinned (.plain (OpenSpec.ofChange asciiRepairsSpec)) asciiRepairsCard

/-- THE TIED CARD OF 'logtidelaw01.AsciiSplits'. -/
def asciiSplitsCard : Claim7 := { stood := { row := asciiSplitsRow, standIns := [], harness := (true, "f012caf02507196e5dff1cfd24be9d04f6636e8b3a95531f9e5803a017d56516"), looks := false }, kinds := [], alts := [], laidByText := true, laidKinds := [.data, .pinned], laidTests := true, laidLooks := .later }
def AsciiSplitsCardSaid : Prop := Claim7.holds Tryd.pinned (.plain (OpenSpec.ofChange asciiSplitsSpec)) asciiSplitsCard

/-- THE TIED CARD OF 'logtidelaw01.AsciiNumbers'. -/
def asciiNumbersCard : Claim7 := { stood := { row := asciiNumbersRow, standIns := [], harness := (true, "f012caf02507196e5dff1cfd24be9d04f6636e8b3a95531f9e5803a017d56516"), looks := false }, kinds := [], alts := [], laidByText := true, laidKinds := [.data, .data, .data, .data, .pinned], laidTests := true, laidLooks := .later }
def AsciiNumbersCardSaid : Prop := Claim7.holds Tryd.pinned (.plain (OpenSpec.ofChange asciiNumbersSpec)) asciiNumbersCard

/-- THE TIED CARD OF 'logtidelaw01.AsciiReturns'. -/
def asciiReturnsCard : Claim7 := { stood := { row := asciiReturnsRow, standIns := [], harness := (true, "f012caf02507196e5dff1cfd24be9d04f6636e8b3a95531f9e5803a017d56516"), looks := false }, kinds := [], alts := [], laidByText := true, laidKinds := [.data, .data, .data, .data, .pinned], laidTests := true, laidLooks := .later }
def AsciiReturnsCardSaid : Prop := Claim7.holds Tryd.pinned (.plain (OpenSpec.ofChange asciiReturnsSpec)) asciiReturnsCard

/-- THE TIED CARD OF 'logtidelaw01.AsciiCuts'. -/
def asciiCutsCard : Claim7 := { stood := { row := asciiCutsRow, standIns := [], harness := (true, "f012caf02507196e5dff1cfd24be9d04f6636e8b3a95531f9e5803a017d56516"), looks := false }, kinds := [], alts := [], laidByText := true, laidKinds := [.data, .pinned], laidTests := true, laidLooks := .later }
def AsciiCutsCardSaid : Prop := Claim7.holds Tryd.pinned (.plain (OpenSpec.ofChange asciiCutsSpec)) asciiCutsCard

/-- THE SECOND FORM's CARD OF 'logtidelaw01.AsciiClasses'. -/
def asciiClassesUptoCard : Claim7 := { stood := { row := asciiClassesUptoRow, standIns := [], harness := (true, "f012caf02507196e5dff1cfd24be9d04f6636e8b3a95531f9e5803a017d56516"), looks := false }, kinds := [], alts := [], laidByText := true, laidKinds := [.data, .pinned], laidTests := true, laidLooks := .later }
def AsciiClassesUptoCardSaid : Prop := Claim7.holds Tryd.pinned (.plain (OpenSpec.upto asciiClassesSpec)) asciiClassesUptoCard

/-- THE SECOND FORM's CARD OF 'logtidelaw01.AsciiRepairs'. -/
def asciiRepairsUptoCard : Claim7 := { stood := { row := asciiRepairsUptoRow, standIns := [], harness := (true, "f012caf02507196e5dff1cfd24be9d04f6636e8b3a95531f9e5803a017d56516"), looks := false }, kinds := [], alts := [], laidByText := true, laidKinds := [.data, .pinned], laidTests := true, laidLooks := .later }
def AsciiRepairsUptoCardSaid : Prop := Claim7.holds Tryd.pinned (.plain (OpenSpec.upto asciiRepairsSpec)) asciiRepairsUptoCard

/-- THE SECOND FORM's CARD OF 'logtidelaw01.AsciiSplits'. -/
def asciiSplitsUptoCard : Claim7 := { stood := { row := asciiSplitsUptoRow, standIns := [], harness := (true, "f012caf02507196e5dff1cfd24be9d04f6636e8b3a95531f9e5803a017d56516"), looks := false }, kinds := [], alts := [], laidByText := true, laidKinds := [.data, .pinned], laidTests := true, laidLooks := .later }
def AsciiSplitsUptoCardSaid : Prop := Claim7.holds Tryd.pinned (.plain (OpenSpec.upto asciiSplitsSpec)) asciiSplitsUptoCard

/-- THE SECOND FORM's CARD OF 'logtidelaw01.AsciiNumbers'. -/
def asciiNumbersUptoCard : Claim7 := { stood := { row := asciiNumbersUptoRow, standIns := [], harness := (true, "f012caf02507196e5dff1cfd24be9d04f6636e8b3a95531f9e5803a017d56516"), looks := false }, kinds := [], alts := [], laidByText := true, laidKinds := [.data, .data, .data, .data, .pinned], laidTests := true, laidLooks := .later }
def AsciiNumbersUptoCardSaid : Prop := Claim7.holds Tryd.pinned (.plain (OpenSpec.upto asciiNumbersSpec)) asciiNumbersUptoCard

/-- THE SECOND FORM's CARD OF 'logtidelaw01.AsciiReturns'. -/
def asciiReturnsUptoCard : Claim7 := { stood := { row := asciiReturnsUptoRow, standIns := [], harness := (true, "f012caf02507196e5dff1cfd24be9d04f6636e8b3a95531f9e5803a017d56516"), looks := false }, kinds := [], alts := [], laidByText := true, laidKinds := [.data, .data, .data, .data, .pinned], laidTests := true, laidLooks := .later }
def AsciiReturnsUptoCardSaid : Prop := Claim7.holds Tryd.pinned (.plain (OpenSpec.upto asciiReturnsSpec)) asciiReturnsUptoCard

/-- THE SECOND FORM's CARD OF 'logtidelaw01.AsciiCuts'. -/
def asciiCutsUptoCard : Claim7 := { stood := { row := asciiCutsUptoRow, standIns := [], harness := (true, "f012caf02507196e5dff1cfd24be9d04f6636e8b3a95531f9e5803a017d56516"), looks := false }, kinds := [], alts := [], laidByText := true, laidKinds := [.data, .pinned], laidTests := true, laidLooks := .later }
def AsciiCutsUptoCardSaid : Prop := Claim7.holds Tryd.pinned (.plain (OpenSpec.upto asciiCutsSpec)) asciiCutsUptoCard
end Rows
end Go.Proofs.YtkopibaoolaelaaDoor
