/- What layer 6's rows' lists of tables give (strconv's powers of ten, the calendar's days before a month, the names of the months), and a world that holds all the listed tables. -/
import Derived.Test.YtpbfgafkoodeoaaDoorRvP
import Derived.Test.YtpbfgafkoodeoaaDoorRvC
import Derived.Test.YtpbfgafkoodeoaaDoorRvB
import Derived.WalkKit
import Derived.ProofKit
import Derived.OpenShut
import Derived.Deep.DeepHandedRow
import Derived.Lib.LaidTab
import Derived.Lib.LaidU8T
import Derived.Lib.ItoaNum
namespace Go.Proofs.YtpbfgafkoodeoaaDoor
open Go.ChangeShapes Go.WideShapes Go.ChangeAt Go.RowKit

theorem daysSame : (Rows.laid_logtide_calendar_daysBefore : DataW Unit) = Lib.tabData .i64 daysTab := by kernel_rfl
theorem days_of_laid {L : List (String × DataW Unit)} {W : World} (h : laidMet Tryd.prog L W) (h1 : ("logtide/calendar.daysBefore", Rows.laid_logtide_calendar_daysBefore) ∈ L) : DaysT W := by
  obtain ⟨g, t, cs, fuel, p, hg, hty, hvar, hd⟩ := Lib.laidMet.reads h h1
  rw [daysSame] at hd
  have hg0 : Tryd.prog.globalNamed "logtide/calendar.daysBefore" = some 0 := by kernel_rfl
  have hty0 : (Tryd.prog.globals[0]?).map (·.type) = some 91 := by kernel_rfl
  obtain rfl := Option.some.inj (hg0.symm.trans hg)
  obtain rfl := Option.some.inj (hty0.symm.trans hty)
  show W.var? _ _ = _
  rw [hvar, ← Lib.cells_of_tab Tryd.underlying91 Tryd.underlying3 (by kernel_rfl) (by kernel_rfl) hd]

/-- An array of strings that reads as a list of strings holds them, cell for cell. -/
theorem cells_of_strs {H : Type} {enc : TypeId × Value → H} {P : Program} {w : World} {base : Nat} {sp : Nat → Bool} {held : Bool} {fuel : Nat} {t e : TypeId} {n : Nat} {cs : List Value} {zs : List (List UInt8)} {p : List MemPlace}
    (ht : P.underlying t = some (.array n e)) (he : P.underlying e = some .string) (hce : P.cellsOf e = 1) (hct : P.cellsOf t = n)
    (h : DataW.trod enc P w base sp held fuel t cs = some (.agg (zs.map fun z => (DataW.lit (.string z) : DataW H)), p)) : cs = zs.map fun z => Value.string ⟨z.toArray⟩ := by
  cases fuel with
  | zero => simp [DataW.trod] at h
  | succ fuel =>
    simp only [DataW.trod, ht, hce, hct, Nat.mul_one] at h
    split at h
    · rename_i hl
      obtain ⟨xs, hm, hx⟩ := Option.map_eq_some_iff.1 h
      have hxs : xs.map (·.1) = zs.map fun z => (DataW.lit (.string z) : DataW H) := by
        have := congrArg Prod.fst hx
        simpa using this
      have hxl : xs.length = n := by simpa using Lib.mapM_length hm
      have hzl : zs.length = n := by
        have := congrArg List.length hxs
        simp at this
        omega
      apply List.ext_getElem?
      intro i
      by_cases hi : i < n
      · obtain ⟨b, hb, hf⟩ := Lib.mapM_at hm i i (by simp [hi])
        obtain ⟨s, hc, rfl, _⟩ := DataW.trod_string he hf
        have h1 : cs[i]? = some (.string s) := by
          have := congrArg (·[0]?) hc
          simpa [List.getElem?_take, List.getElem?_drop] using this
        have h2 : (xs.map (·.1))[i]? = some (DataW.lit (.string s.data.toList) : DataW H) := by simp [hb]
        rw [hxs] at h2
        simp only [List.getElem?_map, Option.map_eq_some_iff, DataW.lit.injEq, Lit.string.injEq] at h2
        obtain ⟨z', hz', hz2⟩ := h2
        rw [h1, List.getElem?_map, hz', Option.map_some, hz2]
      · rw [List.getElem?_eq_none (by omega), List.getElem?_eq_none (by simp; omega)]
    · cases h
theorem monSame : (Rows.laid_logtide_timestamp_monthNames : DataW Unit) = .agg (monL.map fun z => DataW.lit (.string z)) := by kernel_rfl
theorem mon_of_laid {L : List (String × DataW Unit)} {W : World} (h : laidMet Tryd.prog L W) (h1 : ("logtide/timestamp.monthNames", Rows.laid_logtide_timestamp_monthNames) ∈ L) : MonT W := by
  obtain ⟨g, t, cs, fuel, p, hg, hty, hvar, hd⟩ := Lib.laidMet.reads h h1
  rw [monSame] at hd
  have hty0 : (Tryd.prog.globals[1]?).map (·.type) = some 101 := by kernel_rfl
  obtain rfl := Option.some.inj (monG.symm.trans hg)
  obtain rfl := Option.some.inj (hty0.symm.trans hty)
  have hc := cells_of_strs Tryd.underlying101 Tryd.underlying9 (by kernel_rfl) (by kernel_rfl) hd
  show W.var? _ _ = _
  rw [hvar]
  congr 1
  apply Array.ext'
  rw [hc]
  rfl

/-- What a datum's numbers are as cells. -/
def u8Cells (l : List Nat) : Array Value := (l.map fun (n : Nat) => Value.int .u8 (n : Int)).toArray
def putCells (h : Array Obj) (g : Nat) (cs : Array Value) : Array Obj := h.modify g fun
  | .cells _ t frozen => .cells cs t frozen
  | o => o
def deb32 : List Nat := [0, 1, 28, 2, 29, 14, 24, 3, 30, 22, 20, 15, 25, 17, 4, 8, 31, 27, 13, 23, 21, 19, 16, 7, 26, 12, 18, 6, 11, 5, 10, 9]
def deb64 : List Nat := [0, 1, 56, 2, 57, 49, 28, 3, 61, 58, 42, 50, 38, 29, 17, 4, 62, 47, 59, 36, 45, 43, 51, 22, 53, 39, 33, 30, 24, 18, 12, 5, 63, 55, 48, 27, 60, 41, 37, 16, 46, 35, 44, 21, 52, 32, 23, 11, 54, 26, 40, 15, 34, 20, 31, 10, 25, 14, 19, 9, 13, 8, 7, 6]
def pow10s : Array Value := ((List.range 20).map fun n => Value.int .u64 ((10 ^ n : Nat) : Int)).toArray
/-- A WORLD FOR THE WITNESSES: the settled one, the tables holding what their initialisers lay. -/
noncomputable def laidHeap6 (h : Array Obj) : Array Obj := putCells (putCells h 0 (daysTab.map fun z => Value.int .i64 z).toArray) 1 monRow
noncomputable def laidWorld (os : Os) : World :=
  { World.holding Tryd.prog os ⟨#[], #[], []⟩ with heap := laidHeap6 (World.holding Tryd.prog os ⟨#[], #[], []⟩).heap }
end Go.Proofs.YtpbfgafkoodeoaaDoor
