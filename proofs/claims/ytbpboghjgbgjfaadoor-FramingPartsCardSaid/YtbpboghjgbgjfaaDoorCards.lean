/-
  DERIVED. GIVEN WITH THE SEED: THE CARDS: each row of YtbpboghjgbgjfaaDoorRows.lean that lists a variable, with what it lists TIED to the program's text (the seventh form; the later family's looks); each row that meets fmt, with fmt's text TOLD by the authors' own Lean function (tested against real Go, not proved from fmt's source: count such statements apart). THE CARD IS WHAT COUNTS. Prove the row's statement (the work); the ties are given (YtbpboghjgbgjfaaDoorTie.lean); close each card by the builder's one call (the guide's Derived/Test/ToyasCard.lean, 'card_holds'). Laid BY PROGRAM, IN A SANDBOX (cutbox-door.mjs). By AI agents, Wed Nov 11 2026. No macro, syntax, notation, axiom, sorry.
-/
import Derived.Test.YtbpboghjgbgjfaaDoorRows
import GoSem.ClaimSeven
namespace Go.Proofs.YtbpboghjgbgjfaaDoor
namespace Rows

/-- THE TIED CARD OF 'logtidelaw09.FramingLines'. -/
def framingLinesCard : Claim7 := { stood := { row := framingLinesRow, standIns := [], harness := (true, "eb1a3eadd8a4e9031e181c972dde99b76dd47c1eb5cca6ba0068f93656368927"), looks := false }, kinds := [], alts := [], laidByText := true, laidKinds := [.data, .pinned], laidTests := true, laidLooks := .later }
def FramingLinesCardSaid : Prop := Claim7.holds Tryd.pinned (.plain (OpenSpec.ofChange framingLinesSpec)) framingLinesCard

/-- THE TIED CARD OF 'logtidelaw09.FramingParts'. -/
def framingPartsCard : Claim7 := { stood := { row := framingPartsRow, standIns := [], harness := (true, "eb1a3eadd8a4e9031e181c972dde99b76dd47c1eb5cca6ba0068f93656368927"), looks := false }, kinds := [], alts := [], laidByText := true, laidKinds := [.data, .pinned], laidTests := true, laidLooks := .later }
def FramingPartsCardSaid : Prop := Claim7.holds Tryd.pinned (.plain (OpenSpec.ofChange framingPartsSpec)) framingPartsCard

/-- THE TIED CARD OF 'logtidelaw09.FramingCovers'. -/
def framingCoversCard : Claim7 := { stood := { row := framingCoversRow, standIns := [], harness := (true, "eb1a3eadd8a4e9031e181c972dde99b76dd47c1eb5cca6ba0068f93656368927"), looks := false }, kinds := [], alts := [], laidByText := true, laidKinds := [.data, .pinned], laidTests := true, laidLooks := .later }
def FramingCoversCardSaid : Prop := Claim7.holds Tryd.pinned (.plain (OpenSpec.ofChange framingCoversSpec)) framingCoversCard

/-- THE SECOND FORM's CARD OF 'logtidelaw09.FramingLines'. -/
def framingLinesUptoCard : Claim7 := { stood := { row := framingLinesUptoRow, standIns := [], harness := (true, "eb1a3eadd8a4e9031e181c972dde99b76dd47c1eb5cca6ba0068f93656368927"), looks := false }, kinds := [], alts := [], laidByText := true, laidKinds := [.data, .pinned], laidTests := true, laidLooks := .later }
def FramingLinesUptoCardSaid : Prop := Claim7.holds Tryd.pinned (.plain (OpenSpec.upto framingLinesSpec)) framingLinesUptoCard

/-- THE SECOND FORM's CARD OF 'logtidelaw09.FramingParts'. -/
def framingPartsUptoCard : Claim7 := { stood := { row := framingPartsUptoRow, standIns := [], harness := (true, "eb1a3eadd8a4e9031e181c972dde99b76dd47c1eb5cca6ba0068f93656368927"), looks := false }, kinds := [], alts := [], laidByText := true, laidKinds := [.data, .pinned], laidTests := true, laidLooks := .later }
def FramingPartsUptoCardSaid : Prop := Claim7.holds Tryd.pinned (.plain (OpenSpec.upto framingPartsSpec)) framingPartsUptoCard

/-- THE SECOND FORM's CARD OF 'logtidelaw09.FramingCovers'. -/
def framingCoversUptoCard : Claim7 := { stood := { row := framingCoversUptoRow, standIns := [], harness := (true, "eb1a3eadd8a4e9031e181c972dde99b76dd47c1eb5cca6ba0068f93656368927"), looks := false }, kinds := [], alts := [], laidByText := true, laidKinds := [.data, .pinned], laidTests := true, laidLooks := .later }
def FramingCoversUptoCardSaid : Prop := Claim7.holds Tryd.pinned (.plain (OpenSpec.upto framingCoversSpec)) framingCoversUptoCard
end Rows
end Go.Proofs.YtbpboghjgbgjfaaDoor
