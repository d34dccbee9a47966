/- The table of byte classes that package ascii fills: the contract of classes, and of Digit, Letter, Word, Space and their references. -/
import Derived.Test.YtbpboghjgbgjfaaDoorProg
import Derived.WalkKit
import Derived.ProofKit
import Derived.Laws.Rows
import Derived.Laws.NewBlocks
import Derived.Outline
import Derived.Below
import Derived.Laws.CopyOwn
import Derived.Lib.Hide
namespace Go.Proofs.YtbpboghjgbgjfaaDoor
open Go.RowKit

/-- A row of 256 bytes. -/
def rowOf (f : Nat → Nat) : Array Value := ((List.range 256).map fun i => Value.int .u8 (f i)).toArray
theorem rowOf_size (f : Nat → Nat) : (rowOf f).size = 256 := by simp [rowOf]
theorem rowOf_get (f : Nat → Nat) (i : Nat) (h : i < 256) : (rowOf f)[i]? = some (.int .u8 (f i)) := by simp [rowOf, h]
theorem rowOf_set (f : Nat → Nat) (k v : Nat) : (rowOf f).setIfInBounds k (.int .u8 v) = rowOf fun i => if i = k then v else f i := by
  apply Array.ext
  · simp [rowOf]
  · intro i h1 h2
    have h3 : i < 256 := by simpa [rowOf] using h2
    rw [Array.getElem_setIfInBounds]
    · by_cases e : k = i
      · simp [rowOf, e]
      · simp [rowOf, e, Ne.symm e]
    · simpa [rowOf] using h3
theorem rowOf_congr {f g : Nat → Nat} (h : ∀ i, f i = g i) : rowOf f = rowOf g := by
  have : f = g := funext h
  rw [this]

def clsDig (k i : Nat) : Nat := if 48 ≤ i ∧ i < k then 1 else 0
def clsLow (k i : Nat) : Nat := if 97 ≤ i ∧ i < k then 2 else clsDig 58 i
def clsUp (k i : Nat) : Nat := if 65 ≤ i ∧ i < k then 2 else clsLow 123 i
def cls1 (i : Nat) : Nat := if i = 95 then 4 else clsUp 91 i
def cls2 (i : Nat) : Nat := if i = 32 then 8 else cls1 i
def cls (i : Nat) : Nat := if i = 9 then 8 else cls2 i

theorem rowOf_one (f : Nat → Nat) : (rowOf f).all (·.oneCell') = true := by simp [rowOf, Value.oneCell']

def digB (c : Nat) : Bool := decide (48 ≤ c ∧ c ≤ 57)
def letB (c : Nat) : Bool := decide (97 ≤ c ∧ c ≤ 122 ∨ 65 ≤ c ∧ c ≤ 90)
def wrdB (c : Nat) : Bool := digB c || letB c || decide (c = 95)
def spcB (c : Nat) : Bool := decide (c = 32 ∨ c = 9)
theorem digB_bits : ∀ c : Fin 256, (bits BinOp.and IntKind.u8 (↑(cls c.1)) 1 != 0) = digB c.1 := by decide +kernel
theorem letB_bits : ∀ c : Fin 256, (bits BinOp.and IntKind.u8 (↑(cls c.1)) 2 != 0) = letB c.1 := by decide +kernel
theorem wrdB_bits : ∀ c : Fin 256, (bits BinOp.and IntKind.u8 (↑(cls c.1)) 7 != 0) = wrdB c.1 := by decide +kernel
theorem spcB_bits : ∀ c : Fin 256, (bits BinOp.and IntKind.u8 (↑(cls c.1)) 8 != 0) = spcB c.1 := by decide +kernel

theorem ret_bool {a b : Bool} (h : a = b) : Ending.returned (.bool a) = .returned (.bool b) := by rw [h]
end Go.Proofs.YtbpboghjgbgjfaaDoor
