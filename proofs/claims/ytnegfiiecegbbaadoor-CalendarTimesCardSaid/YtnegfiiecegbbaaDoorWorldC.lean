/- What layer 5's rows' lists of tables give (strconv's powers of ten, the calendar's days before a month), and a world that holds all the listed tables. -/
import Derived.Test.YtnegfiiecegbbaaDoorArgs
import Derived.Test.YtnegfiiecegbbaaDoorCalA
import Derived.WalkKit
import Derived.ProofKit
import Derived.OpenShut
import Derived.Deep.DeepHandedRow
import Derived.Lib.LaidTab
import Derived.Lib.LaidU8T
import Derived.Lib.ItoaNum
namespace Go.Proofs.YtnegfiiecegbbaaDoor
open Go.ChangeShapes Go.WideShapes Go.ChangeAt Go.RowKit

theorem pow10Same : (Rows.laid_internal_strconv_uint64pow10 : DataW Unit) = Lib.tabData .u64 Lib.pow10Tab := by kernel_rfl
theorem pow10_of_laid {L : List (String × DataW Unit)} {W : World} (h : laidMet Tryd.prog L W) (h1 : ("internal/strconv.uint64pow10", Rows.laid_internal_strconv_uint64pow10) ∈ L) : Lib.TabIs Tryd.prog W "internal/strconv.uint64pow10" .u64 Lib.pow10Tab := by
  obtain ⟨g, t, cs, fuel, p, hg, hty, hvar, hd⟩ := Lib.laidMet.reads h h1
  rw [pow10Same] at hd
  have hg0 : Tryd.prog.globalNamed "internal/strconv.uint64pow10" = some 2 := by kernel_rfl
  have hty0 : (Tryd.prog.globals[2]?).map (·.type) = some 83 := by kernel_rfl
  obtain rfl := Option.some.inj (hg0.symm.trans hg)
  obtain rfl := Option.some.inj (hty0.symm.trans hty)
  show W.var? _ _ = _
  rw [hvar, ← Lib.cells_of_tab Tryd.underlying83 Tryd.underlying72 (by kernel_rfl) (by kernel_rfl) hd]

theorem daysSame : (Rows.laid_logtide_calendar_daysBefore : DataW Unit) = Lib.tabData .i64 daysTab := by kernel_rfl
theorem days_of_laid {L : List (String × DataW Unit)} {W : World} (h : laidMet Tryd.prog L W) (h1 : ("logtide/calendar.daysBefore", Rows.laid_logtide_calendar_daysBefore) ∈ L) : DaysT W := by
  obtain ⟨g, t, cs, fuel, p, hg, hty, hvar, hd⟩ := Lib.laidMet.reads h h1
  rw [daysSame] at hd
  have hg0 : Tryd.prog.globalNamed "logtide/calendar.daysBefore" = some 0 := by kernel_rfl
  have hty0 : (Tryd.prog.globals[0]?).map (·.type) = some 60 := by kernel_rfl
  obtain rfl := Option.some.inj (hg0.symm.trans hg)
  obtain rfl := Option.some.inj (hty0.symm.trans hty)
  show W.var? _ _ = _
  rw [hvar, ← Lib.cells_of_tab Tryd.underlying60 Tryd.underlying3 (by kernel_rfl) (by kernel_rfl) hd]

/-- What a datum's numbers are as cells. -/
def u8Cells (l : List Nat) : Array Value := (l.map fun (n : Nat) => Value.int .u8 (n : Int)).toArray
def putCells (h : Array Obj) (g : Nat) (cs : Array Value) : Array Obj := h.modify g fun
  | .cells _ t frozen => .cells cs t frozen
  | o => o
def deb32 : List Nat := [0, 1, 28, 2, 29, 14, 24, 3, 30, 22, 20, 15, 25, 17, 4, 8, 31, 27, 13, 23, 21, 19, 16, 7, 26, 12, 18, 6, 11, 5, 10, 9]
def deb64 : List Nat := [0, 1, 56, 2, 57, 49, 28, 3, 61, 58, 42, 50, 38, 29, 17, 4, 62, 47, 59, 36, 45, 43, 51, 22, 53, 39, 33, 30, 24, 18, 12, 5, 63, 55, 48, 27, 60, 41, 37, 16, 46, 35, 44, 21, 52, 32, 23, 11, 54, 26, 40, 15, 34, 20, 31, 10, 25, 14, 19, 9, 13, 8, 7, 6]
def pow10s : Array Value := ((List.range 20).map fun n => Value.int .u64 ((10 ^ n : Nat) : Int)).toArray
/-- A WORLD FOR THE WITNESSES: the settled one, the tables holding what their initialisers lay. -/
noncomputable def laidHeap (h : Array Obj) : Array Obj :=
  putCells (putCells (putCells (putCells h 2 pow10s) 3 (u8Cells deb32)) 4 (u8Cells deb64)) 0 (daysTab.map fun z => Value.int .i64 z).toArray
noncomputable def laidWorld (os : Os) : World :=
  { World.holding Tryd.prog os ⟨#[], #[], []⟩ with heap := laidHeap (World.holding Tryd.prog os ⟨#[], #[], []⟩).heap }
end Go.Proofs.YtnegfiiecegbbaaDoor
