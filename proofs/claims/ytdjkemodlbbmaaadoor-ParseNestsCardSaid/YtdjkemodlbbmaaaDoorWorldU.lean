/- What the rows' lists of library tables give (the two tables of unicode/utf8 lie as the decoder wants them), and a world that holds all the listed tables. -/
import Derived.Test.YtdjkemodlbbmaaaDoorArgs
import Derived.Test.YtdjkemodlbbmaaaDoorShelf
import Derived.WalkKit
import Derived.ProofKit
import Derived.OpenShut
import Derived.Deep.DeepHandedRow
import Derived.Lib.LaidTab
import Derived.Lib.LaidU8T
namespace Go.Proofs.YtdjkemodlbbmaaaDoor
open Go.ChangeShapes Go.WideShapes Go.ChangeAt Go.RowKit

def uRen : Go.Shelf.Ren := ⟨fun n => n, fun | 5 => 5 | 119 => 125 | 138 => 127 | 139 => 128 | n => n, fun | 3 => 0 | 4 => 1 | n => n⟩
theorem uTypes : U8Types Tryd.prog uRen := ⟨by kernel_rfl, by kernel_rfl, by kernel_rfl, by kernel_rfl⟩
theorem uExtra : U8Extra Tryd.prog uRen := ⟨by kernel_rfl, by kernel_rfl, by kernel_rfl, by kernel_rfl, by kernel_rfl, by kernel_rfl, by kernel_rfl⟩
theorem firstSame : Rows.laid_unicode_utf8_first = Lib.firstData := by kernel_rfl
theorem acceptSame : (Rows.laid_unicode_utf8_acceptRanges : DataW Unit) = Lib.acceptData := by kernel_rfl
theorem tabs_of_laid {L : List (String × DataW Unit)} {W : World} (h : laidMet Tryd.prog L W)
    (h1 : ("unicode/utf8.first", Rows.laid_unicode_utf8_first) ∈ L) (h2 : ("unicode/utf8.acceptRanges", Rows.laid_unicode_utf8_acceptRanges) ∈ L) : Lib.Utf8Tabs 0 1 W := by
  have r1 := Lib.laidMet.reads h h1
  have r2 := Lib.laidMet.reads h h2
  rw [firstSame] at r1
  rw [acceptSame] at r2
  exact utf8Tabs_of_readsT uTypes uExtra r1 r2

def putCells (h : Array Obj) (g : Nat) (cs : Array Value) : Array Obj := h.modify g fun
  | .cells _ t frozen => .cells cs t frozen
  | o => o
/-- A WORLD FOR THE WITNESSES: the settled one, the tables holding what their initialisers lay. -/
noncomputable def laidHeap (h : Array Obj) : Array Obj :=
  putCells (putCells h 0 (Lib.firstTab.map fun z => Value.int .u8 z).toArray)
    1 ((List.range 16).flatMap fun i => [Value.int .u8 (Lib.accLo i), Value.int .u8 (Lib.accHi i)]).toArray
noncomputable def laidWorld (os : Os) : World :=
  { World.holding Tryd.prog os ⟨#[], #[], []⟩ with heap := laidHeap (World.holding Tryd.prog os ⟨#[], #[], []⟩).heap }
end Go.Proofs.YtdjkemodlbbmaaaDoor
