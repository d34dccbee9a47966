/- FilesystemCopies: the region that makes the changes and calls Run, operation by operation. -/
import Derived.Test.YtbpboghjgbgjfaaReg
import Derived.Test.YtbpboghjgbgjfaaFuA
import Derived.Test.YtbpboghjgbgjfaaFsT
import Derived.Great.BuildSlice
import Derived.Deep.MidRow
namespace Go.Proofs.Ytbpboghjgbgjfaa
open Go.RowKit

def moreA : Array Value := #[.int .u8 109, .int .u8 111, .int .u8 114, .int .u8 101, .int .u8 10]
def newA : Array Value := #[.int .u8 110, .int .u8 101, .int .u8 119, .int .u8 10]
def agC (k : Int) (t t2 : ByteArray) (dv : Value) : Value := .agg #[.int .i64 k, .string t, .string t2, dv, .int .i64 0]
abbrev nilS : Value := .slice none 0 0
theorem info3 : (Try.prog.info? 33).map (·.size) = some 3 := by kernel_rfl
theorem info5 : (Try.prog.info? 39).map (·.size) = some 5 := by kernel_rfl
section
variable (ρ : Operand → Value) (hc : ∀ v, ρ (.const v) = v) (w : World)
variable {d : Option Tmp} {ty : TypeId} {p : String} {af : Array Edge} {gd : Option (Nat × Bool)}
theorem ex_build (T : TypeId) (parts : Array (Nat × Operand)) (cells : Array Value) (h : Try.prog.built T (parts.map fun (i, x) => (i, ρ x)).toList = some cells) : (execOp ρ ⟨d, .build T parts, ty, p, af, gd⟩).run Try.prog w = .ok (.value (.agg cells)) w := by
  unfold execOp
  simp only [Sem.run_bind, run_build w T _ cells h, Result.andThen_ok]
  rfl
theorem ex_buildS (T e : TypeId) (len : Nat) (parts : Array (Nat × Operand)) (cells : Array Value) (sz : Nat) (z : Value)
    (hu : Try.prog.underlying T = some (.slice e)) (hie : (Try.prog.info? e).map (fun i => (i.zero, i.size)) = some (some z, sz)) (hsmall : ¬ len * sz > 2 ^ 24) (hpos : ¬ len * sz = 0)
    (h : Instr.fill (fun i => some (i * sz, sz)) ((Array.range (len * sz)).map (z.cells[· % z.cells.size]!)) (parts.map fun (i, x) => (i, ρ x)).toList = some cells) :
    (execOp ρ ⟨d, .buildSlice T len parts, ty, p, af, gd⟩).run Try.prog w = .ok (.value (.slice (some ⟨w.heap.size, 0, none⟩) len len)) (w.alloc (.cells cells e)) := by
  cases hq : Try.prog.info? e with
  | none => rw [hq] at hie; cases hie
  | some ie =>
    rw [hq] at hie
    simp only [Option.map_some, Option.some.injEq, Prod.mk.injEq] at hie
    obtain ⟨hz, rfl⟩ := hie
    unfold execOp
    simp only [Sem.run_bind, run_buildSlice w T e len _ cells ie z hu hq hz hsmall hpos h, Result.andThen_ok]
    rfl
theorem ex_move (x : Operand) (v : Value) (h : ρ x = v) : (execOp ρ ⟨d, .move x, ty, p, af, gd⟩).run Try.prog w = .ok (.value v) w := by subst h; rfl
theorem ex_assign (x : Operand) (v : Value) (h : ρ x = v) : (execOp ρ ⟨d, .assign x, ty, p, af, gd⟩).run Try.prog w = .ok (.value v) w := by subst h; rfl
theorem ex_extract (x : Operand) (vs : Array Value) (i : Nat) (v : Value) (h : ρ x = .tuple vs) (hv : vs[i]? = some v) : (execOp ρ ⟨d, .extract x i, ty, p, af, gd⟩).run Try.prog w = .ok (.value v) w := by
  unfold execOp
  simp [h, Instr.extract, hv]
theorem ex_conv (x : Operand) (g n : Nat) (cs : Array Value) (fz : Nat × Nat) (h : ρ x = .slice (some ⟨g, 0, none⟩) n n) (hg : w.heap[g]? = some (.cells cs 5 fz)) :
    (execOp ρ ⟨d, .convert 22 22 x, ty, p, af, gd⟩).run Try.prog w = .ok (.value (.slice (some ⟨g, 0, none⟩) n n)) (w.freeze ⟨g, cs.size, none⟩ 1) := by
  have hsh : w.shape? g = some (5, cs.size) := by
    unfold World.shape?
    rw [hg]
  unfold execOp
  simp [h, convert, run_underlying Try.underlying22, run_underlying Try.underlying5, markStringish, hsh]
theorem ex_rem (x : Operand) (q : Int) (h : ρ x = .int .u8 q) (hc4 : ρ (.const (.int .u8 4)) = .int .u8 4) :
    (execOp ρ ⟨d, .binOp .rem 5 x (.const (.int .u8 4)) 5, ty, p, af, gd⟩).run Try.prog w = .ok (.value (.int .u8 (q.tmod 4))) w := by
  unfold execOp
  simp only [h, hc4]
  go_simp
theorem ex_index (x y : Operand) (g n : Nat) (m : Nat) (hm : m < n) (h : ρ x = .slice (some ⟨g, 0, none⟩) n n) (h2 : ρ y = .int .u8 (m : Int)) :
    (execOp ρ ⟨d, .indexAddr 40 x y, ty, p, af, gd⟩).run Try.prog w = .ok (.value (.pointer (some ⟨g, m * 5, none⟩))) w := by
  unfold execOp
  have hu := Try.underlying40
  have e1 : (0 : Int) ≤ (m : Int) ∧ (m : Int) < (n : Int) := by omega
  simp only [h, h2, Sem.run_bind]
  go_simp
theorem ex_load (x : Operand) (g o : Nat) (cs : List Value) (h : ρ x = .pointer (some ⟨g, o, none⟩)) (hl : cs.length = 5) (hr : w.rangeAt g o cs) :
    (execOp ρ ⟨d, .load 39 x, ty, p, af, gd⟩).run Try.prog w = .ok (.value (.agg cs.toArray)) w := by
  unfold execOp
  simp only [h, Sem.run_bind, run_loadAt_mid w g o 39 cs _ hr Try.underlying39 rfl (info5.trans (by rw [hl])), Result.andThen_ok]
  rfl
theorem ex_alloc : (execOp ρ ⟨d, .alloc 33, ty, p, af, gd⟩).run Try.prog w = .ok (.value (.pointer (some ⟨w.heap.size, 0, none⟩))) (w.alloc (.cells #[nilS, nilS, nilS] 33)) := by
  unfold execOp
  go_simp
theorem ex_store (x y : Operand) (g : Nat) (cells : Array Value) (hx : ρ x = .pointer (some ⟨g, 0, none⟩)) (hy : ρ y = .agg cells) (hs : cells.size = 3) (h1 : cells.all (·.oneCell') = true) (ht : w.there g 0 cells.size) :
    (execOp ρ ⟨d, .store 33 x y, ty, p, af, gd⟩).run Try.prog w = .ok .skip (w.setCells g 0 cells.toList) := by
  unfold execOp
  simp only [hx, hy, Sem.run_bind, run_storeAt_mid w g 0 33 cells ht (info3.trans (by rw [hs])) h1, Result.andThen_ok]
  rfl
end
end Go.Proofs.Ytbpboghjgbgjfaa
