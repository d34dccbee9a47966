/-
  DERIVED. GIVEN WITH THE SEED: THE CARDS: each row of YtnegfiiecegbbaaDoorRows.lean that lists a variable, with what it lists TIED to the program's text (the seventh form; the later family's looks); each row that meets fmt, with fmt's text TOLD by the authors' own Lean function (tested against real Go, not proved from fmt's source: count such statements apart). THE CARD IS WHAT COUNTS. Prove the row's statement (the work); the ties are given (YtnegfiiecegbbaaDoorTie.lean); close each card by the builder's one call (the guide's Derived/Test/ToyasCard.lean, 'card_holds'). Laid BY PROGRAM, IN A SANDBOX (cutbox-door.mjs). By AI agents, Wed Nov 11 2026. No macro, syntax, notation, axiom, sorry.
-/
import Derived.Test.YtnegfiiecegbbaaDoorRows
import GoSem.ClaimSeven
namespace Go.Proofs.YtnegfiiecegbbaaDoor
namespace Rows

/-- THE TIED CARD OF 'logtidelaw05.CalendarTimes'. -/
def calendarTimesCard : Claim7 := { stood := { row := calendarTimesRow, standIns := [], harness := (true, "17a857938e78a674d709f2ed185f833ddc0a3c63cdeff72cec9b07928a061183"), looks := false }, kinds := [], alts := [], laidByText := true, laidKinds := [.data, .data, .data, .data], laidTests := true, laidLooks := .later }
def CalendarTimesCardSaid : Prop := Claim7.holds Tryd.pinned (.plain (OpenSpec.ofChange calendarTimesSpec)) calendarTimesCard

/-- THE TIED CARD OF 'logtidelaw05.CalendarReturns'. -/
def calendarReturnsCard : Claim7 := { stood := { row := calendarReturnsRow, standIns := [], harness := (true, "17a857938e78a674d709f2ed185f833ddc0a3c63cdeff72cec9b07928a061183"), looks := false }, kinds := [], alts := [], laidByText := true, laidKinds := [.data, .data, .data, .data], laidTests := true, laidLooks := .later }
def CalendarReturnsCardSaid : Prop := Claim7.holds Tryd.pinned (.plain (OpenSpec.ofChange calendarReturnsSpec)) calendarReturnsCard

/-- THE TIED CARD OF 'logtidelaw05.CalendarFollows'. -/
def calendarFollowsCard : Claim7 := { stood := { row := calendarFollowsRow, standIns := [], harness := (true, "17a857938e78a674d709f2ed185f833ddc0a3c63cdeff72cec9b07928a061183"), looks := false }, kinds := [], alts := [], laidByText := true, laidKinds := [.data, .data, .data, .data], laidTests := true, laidLooks := .later }
def CalendarFollowsCardSaid : Prop := Claim7.holds Tryd.pinned (.plain (OpenSpec.ofChange calendarFollowsSpec)) calendarFollowsCard

/-- THE SECOND FORM's CARD OF 'logtidelaw05.CalendarTimes'. -/
def calendarTimesUptoCard : Claim7 := { stood := { row := calendarTimesUptoRow, standIns := [], harness := (true, "17a857938e78a674d709f2ed185f833ddc0a3c63cdeff72cec9b07928a061183"), looks := false }, kinds := [], alts := [], laidByText := true, laidKinds := [.data, .data, .data, .data], laidTests := true, laidLooks := .later }
def CalendarTimesUptoCardSaid : Prop := Claim7.holds Tryd.pinned (.plain (OpenSpec.upto calendarTimesSpec)) calendarTimesUptoCard

/-- THE SECOND FORM's CARD OF 'logtidelaw05.CalendarReturns'. -/
def calendarReturnsUptoCard : Claim7 := { stood := { row := calendarReturnsUptoRow, standIns := [], harness := (true, "17a857938e78a674d709f2ed185f833ddc0a3c63cdeff72cec9b07928a061183"), looks := false }, kinds := [], alts := [], laidByText := true, laidKinds := [.data, .data, .data, .data], laidTests := true, laidLooks := .later }
def CalendarReturnsUptoCardSaid : Prop := Claim7.holds Tryd.pinned (.plain (OpenSpec.upto calendarReturnsSpec)) calendarReturnsUptoCard

/-- THE SECOND FORM's CARD OF 'logtidelaw05.CalendarFollows'. -/
def calendarFollowsUptoCard : Claim7 := { stood := { row := calendarFollowsUptoRow, standIns := [], harness := (true, "17a857938e78a674d709f2ed185f833ddc0a3c63cdeff72cec9b07928a061183"), looks := false }, kinds := [], alts := [], laidByText := true, laidKinds := [.data, .data, .data, .data], laidTests := true, laidLooks := .later }
def CalendarFollowsUptoCardSaid : Prop := Claim7.holds Tryd.pinned (.plain (OpenSpec.upto calendarFollowsSpec)) calendarFollowsUptoCard
end Rows
end Go.Proofs.YtnegfiiecegbbaaDoor
