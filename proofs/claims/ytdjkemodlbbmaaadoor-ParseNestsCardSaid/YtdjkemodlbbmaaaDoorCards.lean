/-
  DERIVED. GIVEN WITH THE SEED: THE CARDS: each row of YtdjkemodlbbmaaaDoorRows.lean that lists a variable, with what it lists TIED to the program's text (the seventh form; the later family's looks); each row that meets fmt, with fmt's text TOLD by the authors' own Lean function (tested against real Go, not proved from fmt's source: count such statements apart). THE CARD IS WHAT COUNTS. Prove the row's statement (the work); the ties are given (YtdjkemodlbbmaaaDoorTie.lean); close each card by the builder's one call (the guide's Derived/Test/ToyasCard.lean, 'card_holds'). Laid BY PROGRAM, IN A SANDBOX (cutbox-door.mjs). By AI agents, Wed Nov 11 2026. No macro, syntax, notation, axiom, sorry.
-/
import Derived.Test.YtdjkemodlbbmaaaDoorRows
import GoSem.ClaimSeven
namespace Go.Proofs.YtdjkemodlbbmaaaDoor
namespace Rows

/-- THE TIED CARD OF 'logtidelaw11.ParseSorts'. -/
def parseSortsCard : Claim7 := { stood := { row := parseSortsRow, standIns := [], harness := (true, "b2bf7a9be30e596a896f8518b192c78453b70e2e8ba0bd2b7765b30263708193"), looks := false }, kinds := [], alts := [], laidByText := true, laidKinds := [.data, .pinned], laidTests := true, laidLooks := .later }
def ParseSortsCardSaid : Prop := Claim7.holds Tryd.pinned (.plain (OpenSpec.ofChange parseSortsSpec)) parseSortsCard

/-- THE TIED CARD OF 'logtidelaw11.ParseQuotes'. -/
def parseQuotesCard : Claim7 := { stood := { row := parseQuotesRow, standIns := [], harness := (true, "b2bf7a9be30e596a896f8518b192c78453b70e2e8ba0bd2b7765b30263708193"), looks := false }, kinds := [], alts := [], laidByText := true, laidKinds := [.data, .pinned], laidTests := true, laidLooks := .later }
def ParseQuotesCardSaid : Prop := Claim7.holds Tryd.pinned (.plain (OpenSpec.ofChange parseQuotesSpec)) parseQuotesCard

/-- THE TIED CARD OF 'logtidelaw11.ParsePairs'. -/
def parsePairsCard : Claim7 := { stood := { row := parsePairsRow, standIns := [], harness := (true, "b2bf7a9be30e596a896f8518b192c78453b70e2e8ba0bd2b7765b30263708193"), looks := false }, kinds := [], alts := [], laidByText := true, laidKinds := [.data, .pinned], laidTests := true, laidLooks := .later }
def ParsePairsCardSaid : Prop := Claim7.holds Tryd.pinned (.plain (OpenSpec.ofChange parsePairsSpec)) parsePairsCard

/-- THE TIED CARD OF 'logtidelaw11.ParseNests'. -/
def parseNestsCard : Claim7 := { stood := { row := parseNestsRow, standIns := [], harness := (true, "b2bf7a9be30e596a896f8518b192c78453b70e2e8ba0bd2b7765b30263708193"), looks := false }, kinds := [], alts := [], laidByText := true, laidKinds := [.data, .pinned], laidTests := true, laidLooks := .later }
def ParseNestsCardSaid : Prop := Claim7.holds Tryd.pinned (.plain (OpenSpec.ofChange parseNestsSpec)) parseNestsCard

/-- THE SECOND FORM's CARD OF 'logtidelaw11.ParseSorts'. -/
def parseSortsUptoCard : Claim7 := { stood := { row := parseSortsUptoRow, standIns := [], harness := (true, "b2bf7a9be30e596a896f8518b192c78453b70e2e8ba0bd2b7765b30263708193"), looks := false }, kinds := [], alts := [], laidByText := true, laidKinds := [.data, .pinned], laidTests := true, laidLooks := .later }
def ParseSortsUptoCardSaid : Prop := Claim7.holds Tryd.pinned (.plain (OpenSpec.upto parseSortsSpec)) parseSortsUptoCard

/-- THE SECOND FORM's CARD OF 'logtidelaw11.ParseQuotes'. -/
def parseQuotesUptoCard : Claim7 := { stood := { row := parseQuotesUptoRow, standIns := [], harness := (true, "b2bf7a9be30e596a896f8518b192c78453b70e2e8ba0bd2b7765b30263708193"), looks := false }, kinds := [], alts := [], laidByText := true, laidKinds := [.data, .pinned], laidTests := true, laidLooks := .later }
def ParseQuotesUptoCardSaid : Prop := Claim7.holds Tryd.pinned (.plain (OpenSpec.upto parseQuotesSpec)) parseQuotesUptoCard

/-- THE SECOND FORM's CARD OF 'logtidelaw11.ParsePairs'. -/
def parsePairsUptoCard : Claim7 := { stood := { row := parsePairsUptoRow, standIns := [], harness := (true, "b2bf7a9be30e596a896f8518b192c78453b70e2e8ba0bd2b7765b30263708193"), looks := false }, kinds := [], alts := [], laidByText := true, laidKinds := [.data, .pinned], laidTests := true, laidLooks := .later }
def ParsePairsUptoCardSaid : Prop := Claim7.holds Tryd.pinned (.plain (OpenSpec.upto parsePairsSpec)) parsePairsUptoCard

/-- THE SECOND FORM's CARD OF 'logtidelaw11.ParseNests'. -/
def parseNestsUptoCard : Claim7 := { stood := { row := parseNestsUptoRow, standIns := [], harness := (true, "b2bf7a9be30e596a896f8518b192c78453b70e2e8ba0bd2b7765b30263708193"), looks := false }, kinds := [], alts := [], laidByText := true, laidKinds := [.data, .pinned], laidTests := true, laidLooks := .later }
def ParseNestsUptoCardSaid : Prop := Claim7.holds Tryd.pinned (.plain (OpenSpec.upto parseNestsSpec)) parseNestsUptoCard
end Rows
end Go.Proofs.YtdjkemodlbbmaaaDoor
