/- FilesystemCopies: the region that makes the changes and calls Run, operation by operation. FilesystemCopies: the region that makes the changes and calls Run: what holds of each operation. -/
import Derived.Test.YtfihnmfbgdjkpaaReg
import Derived.Test.YtfihnmfbgdjkpaaFuA
import Derived.Test.YtfihnmfbgdjkpaaFsT
import Derived.Great.BuildSlice
import Derived.Deep.MidRow
namespace Go.Proofs.Ytfihnmfbgdjkpaa
open Go.RowKit

noncomputable def opsC : Array Oper := match Try.f3.body with | some (.seq _ (.seq _ (.seq _ (.seq (.region _ ops _) _)))) => ops | _ => #[]
theorem opsC_size : opsC.size = 25 := by kernel_rfl
def moreA : Array Value := #[.int .u8 109, .int .u8 111, .int .u8 114, .int .u8 101, .int .u8 10]
def newA : Array Value := #[.int .u8 110, .int .u8 101, .int .u8 119, .int .u8 10]
def agC (k : Int) (t t2 : ByteArray) (dv : Value) : Value := .agg #[.int .i64 k, .string t, .string t2, dv, .int .i64 0]
abbrev nilS : Value := .slice none 0 0
theorem info3 : (Try.prog.info? 31).map (·.size) = some 3 := by kernel_rfl
theorem info5 : (Try.prog.info? 37).map (·.size) = some 5 := by kernel_rfl
section
variable (ρ : Operand → Value) (hc : ∀ v, ρ (.const v) = v) (w : World)
variable {d : Option Tmp} {ty : TypeId} {p : String} {af : Array Edge} {gd : Option (Nat × Bool)}
theorem ex_build (T : TypeId) (parts : Array (Nat × Operand)) (cells : Array Value) (h : Try.prog.built T (parts.map fun (i, x) => (i, ρ x)).toList = some cells) : (execOp ρ ⟨d, .build T parts, ty, p, af, gd⟩).run Try.prog w = .ok (.value (.agg cells)) w := by
  unfold execOp
  simp only [Sem.run_bind, run_build w T _ cells h, Result.andThen_ok]
  rfl
theorem ex_buildS (T e : TypeId) (len : Nat) (parts : Array (Nat × Operand)) (cells : Array Value) (sz : Nat) (z : Value)
    (hu : Try.prog.underlying T = some (.slice e)) (hie : (Try.prog.info? e).map (fun i => (i.zero, i.size)) = some (some z, sz)) (hsmall : ¬ len * sz > 2 ^ 24) (hpos : ¬ len * sz = 0)
    (h : Instr.fill (fun i => some (i * sz, sz)) ((Array.range (len * sz)).map (z.cells[· % z.cells.size]!)) (parts.map fun (i, x) => (i, ρ x)).toList = some cells) :
    (execOp ρ ⟨d, .buildSlice T len parts, ty, p, af, gd⟩).run Try.prog w = .ok (.value (.slice (some ⟨w.heap.size, 0, none⟩) len len)) (w.alloc (.cells cells e)) := by
  cases hq : Try.prog.info? e with
  | none => rw [hq] at hie; cases hie
  | some ie =>
    rw [hq] at hie
    simp only [Option.map_some, Option.some.injEq, Prod.mk.injEq] at hie
    obtain ⟨hz, rfl⟩ := hie
    unfold execOp
    simp only [Sem.run_bind, run_buildSlice w T e len _ cells ie z hu hq hz hsmall hpos h, Result.andThen_ok]
    rfl
theorem ex_move (x : Operand) (v : Value) (h : ρ x = v) : (execOp ρ ⟨d, .move x, ty, p, af, gd⟩).run Try.prog w = .ok (.value v) w := by subst h; rfl
theorem ex_assign (x : Operand) (v : Value) (h : ρ x = v) : (execOp ρ ⟨d, .assign x, ty, p, af, gd⟩).run Try.prog w = .ok (.value v) w := by subst h; rfl
theorem ex_extract (x : Operand) (vs : Array Value) (i : Nat) (v : Value) (h : ρ x = .tuple vs) (hv : vs[i]? = some v) : (execOp ρ ⟨d, .extract x i, ty, p, af, gd⟩).run Try.prog w = .ok (.value v) w := by
  unfold execOp
  simp [h, Instr.extract, hv]
theorem ex_conv (x : Operand) (g n : Nat) (cs : Array Value) (fz : Nat × Nat) (h : ρ x = .slice (some ⟨g, 0, none⟩) n n) (hg : w.heap[g]? = some (.cells cs 5 fz)) :
    (execOp ρ ⟨d, .convert 22 22 x, ty, p, af, gd⟩).run Try.prog w = .ok (.value (.slice (some ⟨g, 0, none⟩) n n)) (w.freeze ⟨g, cs.size, none⟩ 1) := by
  have hsh : w.shape? g = some (5, cs.size) := by
    unfold World.shape?
    rw [hg]
  unfold execOp
  simp [h, convert, run_underlying Try.underlying22, run_underlying Try.underlying5, markStringish, hsh]
theorem ex_rem (x : Operand) (q : Int) (h : ρ x = .int .u8 q) (hc4 : ρ (.const (.int .u8 4)) = .int .u8 4) :
    (execOp ρ ⟨d, .binOp .rem 5 x (.const (.int .u8 4)) 5, ty, p, af, gd⟩).run Try.prog w = .ok (.value (.int .u8 (q.tmod 4))) w := by
  unfold execOp
  simp only [h, hc4]
  go_simp
theorem ex_index (x y : Operand) (g n : Nat) (m : Nat) (hm : m < n) (h : ρ x = .slice (some ⟨g, 0, none⟩) n n) (h2 : ρ y = .int .u8 (m : Int)) :
    (execOp ρ ⟨d, .indexAddr 38 x y, ty, p, af, gd⟩).run Try.prog w = .ok (.value (.pointer (some ⟨g, m * 5, none⟩))) w := by
  unfold execOp
  have hu := Try.underlying38
  have e1 : (0 : Int) ≤ (m : Int) ∧ (m : Int) < (n : Int) := by omega
  simp only [h, h2, Sem.run_bind]
  go_simp
theorem ex_load (x : Operand) (g o : Nat) (cs : List Value) (h : ρ x = .pointer (some ⟨g, o, none⟩)) (hl : cs.length = 5) (hr : w.rangeAt g o cs) :
    (execOp ρ ⟨d, .load 37 x, ty, p, af, gd⟩).run Try.prog w = .ok (.value (.agg cs.toArray)) w := by
  unfold execOp
  simp only [h, Sem.run_bind, run_loadAt_mid w g o 37 cs _ hr Try.underlying37 rfl (info5.trans (by rw [hl])), Result.andThen_ok]
  rfl
theorem ex_alloc : (execOp ρ ⟨d, .alloc 31, ty, p, af, gd⟩).run Try.prog w = .ok (.value (.pointer (some ⟨w.heap.size, 0, none⟩))) (w.alloc (.cells #[nilS, nilS, nilS] 31)) := by
  unfold execOp
  go_simp
theorem ex_store (x y : Operand) (g : Nat) (cells : Array Value) (hx : ρ x = .pointer (some ⟨g, 0, none⟩)) (hy : ρ y = .agg cells) (hs : cells.size = 3) (h1 : cells.all (·.oneCell') = true) (ht : w.there g 0 cells.size) :
    (execOp ρ ⟨d, .store 31 x y, ty, p, af, gd⟩).run Try.prog w = .ok .skip (w.setCells g 0 cells.toList) := by
  unfold execOp
  simp only [hx, hy, Sem.run_bind, run_storeAt_mid w g 0 31 cells ht (info3.trans (by rw [hs])) h1, Result.andThen_ok]
  rfl
end
end Go.Proofs.Ytfihnmfbgdjkpaa

namespace Go.Proofs.Ytfihnmfbgdjkpaa
open Go.RowKit

noncomputable def dsC : List (Option Tmp) := opsC.toList.map (·.dst)
def dsL : List (Option Tmp) := [some 28, some 29, some 30, some 31, some 32, some 33, some 34, some 35, some 36, some 37, some 38, some 39, some 40, some 41, some 42, some 43, some 44, some 45, some 46, some 27, some 47, some 48, some 8, none, some 9]
theorem dst_of : ∀ (j : Nat) (o : Oper), opsC[j]? = some o → dsL[j]? = some o.dst := fun j o h => by
  have h2 : dsL = opsC.toList.map (·.dst) := by kernel_rfl
  rw [h2, List.getElem?_map, Array.getElem?_toList, h]; rfl
theorem guard_of : ∀ (j : Nat) (o : Oper), opsC[j]? = some o → o.guard = none := fun j o h => by
  have h2 : (opsC.toList.all fun o => o.guard.isNone) = true := by kernel_rfl
  have h3 := List.all_eq_true.1 h2 o (by rw [Array.mem_toList_iff]; exact Array.mem_of_getElem? h)
  simpa using h3
theorem top_of : ∀ (j : Nat) (o : Oper), opsC[j]? = some o → ∀ e ∈ o.after, Region.binds .any e = true → e.on < j := fun j o h e he _ => by
  have h2 : (opsC.toList.zipIdx.all fun p => p.1.after.toList.all fun e => e.on < p.2 || !Region.binds .any e) = true := by kernel_rfl
  have h3 := List.all_eq_true.1 h2 (o, j) (List.mem_zipIdx_iff_getElem?.2 (by rw [Array.getElem?_toList]; exact h))
  have h4 := List.all_eq_true.1 h3 e (by simpa using he)
  simp_all
theorem apartL : Apart dsL := by
  unfold Apart dsL
  have h : ([some 28, some 29, some 30, some 31, some 32, some 33, some 34, some 35, some 36, some 37, some 38, some 39, some 40, some 41, some 42, some 43, some 44, some 45, some 46, some 27, some 47, some 48, some 8, none, some 9] : List (Option Nat)).Pairwise (fun a b => a = none ∨ a ≠ b) := by decide
  exact h.imp fun hab t ht e => by rcases hab with q | q <;> simp_all
/-- The frame with the operations' values. -/
def FC (a : Act) (x : Nat → Value) : Act := chainA x dsL 0 a
theorem FC_put (a : Act) (x : Nat → Value) (j : Nat) (o : Oper) (v : Value) (h : opsC[j]? = some o) : (FC a x).put o.dst v = FC a (updX x j v) := by
  have := chain_put x v dsL 0 a j o.dst apartL (dst_of j o h)
  rwa [Nat.zero_add] at this
theorem FC_eval {a : Act} (hs : a.tmps.size = 171) (x : Nat → Value) (j t : Nat) (h : dsL[j]? = some (some t)) (ht : t < 171) : (FC a x).eval (.tmp t) = x j := by
  have := chain_eval x t dsL 0 a j apartL h (by rw [hs]; exact ht)
  rwa [Nat.zero_add] at this
theorem FC_other {a : Act} (x : Nat → Value) (t : Nat) (h : ∀ e ∈ dsL, e ≠ some t) : (FC a x).eval (.tmp t) = a.eval (.tmp t) := chain_other x t dsL 0 a h
theorem FC_const {a : Act} (v : Value) : a.eval (.const v) = v := rfl
/-- Blocks keep what they hold; a block of bytes may get the run-time's mark. -/
def RM (B0 : Nat) (a b : World) : Prop := Below B0 a b ∧ ∀ (g : Nat) (cs : Array Value) (ty : TypeId) (fz : Nat × Nat), a.heap[g]? = some (.cells cs ty fz) → ∃ fz', b.heap[g]? = some (.cells cs ty fz') ∧ (ty ≠ 5 → fz' = fz)
theorem RM.refl (B0 : Nat) (a : World) : RM B0 a a := ⟨Below.refl _ _, fun _ _ _ fz h => ⟨fz, h, fun _ => rfl⟩⟩
theorem RM.trans {B0 : Nat} {a b c : World} (h : RM B0 a b) (k : RM B0 b c) : RM B0 a c := ⟨h.1.trans k.1, fun g cs ty fz q => by
  obtain ⟨f1, q1, e1⟩ := h.2 g cs ty fz q
  obtain ⟨f2, q2, e2⟩ := k.2 g cs ty f1 q1
  exact ⟨f2, q2, fun hn => (e2 hn).trans (e1 hn)⟩⟩
theorem RM.of_below {B0 : Nat} {a b : World} (h : Below a.heap.size a b) (hB : B0 ≤ a.heap.size) : RM B0 a b := ⟨h.mono hB, fun g _ _ fz q => ⟨fz, (h.block g (Array.getElem?_eq_some_iff.1 q).1).trans q, fun _ => rfl⟩⟩
theorem RM.freeze {B0 : Nat} {a : World} {g n : Nat} {cs : Array Value} {fz : Nat × Nat} (hg : a.heap[g]? = some (.cells cs 5 fz)) (hB : B0 ≤ g) : RM B0 a (a.freeze ⟨g, n, none⟩ 1) ∧ ∃ fz', (a.freeze ⟨g, n, none⟩ 1).heap[g]? = some (.cells cs 5 fz') := by
  have hh : ∀ i, (a.freeze ⟨g, n, none⟩ 1).heap[i]? = if g = i then (a.heap[i]?).map (fun | .cells c elem (lo, hi) => .cells c elem (if lo == hi then (n, n + 1) else (min lo n, max hi (n + 1))) | o => o) else a.heap[i]? := fun i => by
    unfold World.freeze
    rw [if_neg (by decide)]
    exact Array.getElem?_modify
  have hsz : (a.freeze ⟨g, n, none⟩ 1).heap.size = a.heap.size := by
    unfold World.freeze
    rw [if_neg (by decide)]
    exact Array.size_modify
  have ho : (a.freeze ⟨g, n, none⟩ 1).os = a.os ∧ (a.freeze ⟨g, n, none⟩ 1).tape = a.tape ∧ (a.freeze ⟨g, n, none⟩ 1).output = a.output := by
    unfold World.freeze
    rw [if_neg (by decide)]
    exact ⟨rfl, rfl, rfl⟩
  have hself : ∃ fz', (a.freeze ⟨g, n, none⟩ 1).heap[g]? = some (.cells cs 5 fz') := by
    obtain ⟨lo, hi⟩ := fz
    rw [hh g, if_pos rfl, hg]
    exact ⟨_, rfl⟩
  refine ⟨⟨⟨ho.1, ho.2.1, ho.2.2, Nat.le_of_eq hsz.symm, fun k hk => by rw [hh k, if_neg (by omega)]⟩, fun i cs' ty fz' q => ?_⟩, hself⟩
  by_cases e : g = i
  · subst e
    rw [hg] at q
    injection q with q
    injection q with q1 q2 q3
    subst q1; subst q2
    obtain ⟨f, hf⟩ := hself
    exact ⟨f, hf, fun hn => absurd rfl hn⟩
  · exact ⟨fz', by rw [hh i, if_neg e]; exact q, fun _ => rfl⟩
def LitAt (B0 : Nat) (A : Array Value) (w : World) (v : Value) : Prop := ∃ g fz, B0 ≤ g ∧ v = .slice (some ⟨g, 0, none⟩) A.size A.size ∧ w.heap[g]? = some (.cells A 5 fz)
theorem LitAt.keep {B0 B1 : Nat} {A : Array Value} {w w' : World} {v : Value} (h : LitAt B0 A w v) (k : RM B1 w w') : LitAt B0 A w' v := by
  obtain ⟨g, fz, h1, h2, h3⟩ := h
  obtain ⟨f, h4, -⟩ := k.2 _ _ _ _ h3
  exact ⟨g, f, h1, h2, h4⟩
theorem KB.keepM {B1 : Nat} {w w' : World} {v : Value} {l : List UInt8} (h : KB w v l) (k : RM B1 w w') : KB w' v l := by
  obtain ⟨g, c, cs, fz, h1, h0, hm, h2, h3⟩ := h
  obtain ⟨f, h4, -⟩ := k.2 _ _ _ _ h2
  exact ⟨g, c, cs, f, h1, h0, hm, h4, h3⟩
theorem BkAt.keepM {B1 g : Nat} {T : TypeId} {cs : Array Value} {w w' : World} (h : BkAt g T cs w) (hT : T ≠ 5) (k : RM B1 w w') : BkAt g T cs w' := by
  obtain ⟨f, h4, h5⟩ := k.2 _ _ _ _ h
  rw [h5 hT] at h4; exact h4
def moreL : List UInt8 := [109, 111, 114, 101, 10]
def newL : List UInt8 := [110, 101, 119, 10]
theorem lit_more {B0 : Nat} {w : World} {v : Value} (h : LitAt B0 moreA w v) : KB w v moreL := by
  obtain ⟨g, fz, h1, h2, h3⟩ := h
  exact ⟨g, 5, _, fz, h2, Nat.le_refl _, by decide, h3, fun j u hj => by rw [show moreA = (byC moreL).toArray from rfl, List.getElem?_toArray]; exact hj⟩
theorem lit_new {B0 : Nat} {w : World} {v : Value} (h : LitAt B0 newA w v) : KB w v newL := by
  obtain ⟨g, fz, h1, h2, h3⟩ := h
  exact ⟨g, 4, _, fz, h2, Nat.le_refl _, by decide, h3, fun j u hj => by rw [show newA = (byC newL).toArray from rfl, List.getElem?_toArray]; exact hj⟩
def row4 (u1 u2 : Value) : Array Value := #[.int .i64 3, .string bsA, .string ⟨#[]⟩, nilS, .int .i64 0, .int .i64 2, .string bsA, .string ⟨#[]⟩, u1, .int .i64 0, .int .i64 7, .string bsA, .string ⟨#[]⟩, nilS, .int .i64 0, .int .i64 8, .string bsA, .string ⟨#[]⟩, u2, .int .i64 0]
def row3 (dV : Value) (C : ChF) : Array Value := #[.int .i64 1, .string bsA, .string ⟨#[]⟩, dV, .int .i64 0, .int .i64 5, .string bsA, .string bsB, nilS, .int .i64 0, .int .i64 C.kind, .string C.t, .string C.t2, C.dv, .int .i64 C.n]
def bsE : ByteArray := ⟨#[]⟩
/-- What holds of each operation's value before Run. -/
def phi1 (B0 : Nat) (dV : Value) (q : Int) (m : Nat) : Nat → Value → World → Prop
  | 0, v, _ => v = .agg #[nilS, nilS, nilS]
  | 1, v, _ => v = dV
  | 2, v, _ => v = agC 1 bsA bsE dV
  | 3, v, _ => v = agC 5 bsA bsB nilS
  | 4, v, _ => v = agC 3 bsA bsE nilS
  | 5, v, w => LitAt B0 moreA w v
  | 6, v, w => LitAt B0 moreA w v
  | 7, v, w => ∃ u, LitAt B0 moreA w u ∧ v = agC 2 bsA bsE u
  | 8, v, _ => v = agC 7 bsA bsE nilS
  | 9, v, w => LitAt B0 newA w v
  | 10, v, w => LitAt B0 newA w v
  | 11, v, w => ∃ u, LitAt B0 newA w u ∧ v = agC 8 bsA bsE u
  | 12, v, w => ∃ g u1 u2, LitAt B0 moreA w u1 ∧ LitAt B0 newA w u2 ∧ v = .slice (some ⟨g, 0, none⟩) 4 4 ∧ BkAt g 37 (row4 u1 u2) w
  | 13, v, _ => v = .int .u8 q
  | 14, v, _ => v = .int .u8 (m : Int)
  | 15, v, w => ∃ g u1 u2, LitAt B0 moreA w u1 ∧ LitAt B0 newA w u2 ∧ v = .pointer (some ⟨g, m * 5, none⟩) ∧ BkAt g 37 (row4 u1 u2) w
  | 16, v, w => ∃ u lx, KB w u lx ∧ lx.length ≤ 5 ∧ v = (third u m).C.ag
  | 17, v, w => ∃ g u lx, KB w u lx ∧ lx.length ≤ 5 ∧ v = .slice (some ⟨g, 0, none⟩) 3 3 ∧ BkAt g 37 (row3 dV (third u m).C) w
  | 22, v, w => ∃ g, B0 ≤ g ∧ v = .pointer (some ⟨g, 0, none⟩) ∧ BkAt g 31 #[nilS, nilS, nilS] w
  | _, _, _ => False
theorem phi1_keep (B0 : Nat) (dV : Value) (q : Int) (m : Nat) : ∀ (j : Nat) (v : Value) (w w' : World), RM B0 w w' → phi1 B0 dV q m j v w → phi1 B0 dV q m j v w'
  | 0, _, _, _, _, h => h
  | 1, _, _, _, _, h => h
  | 2, _, _, _, _, h => h
  | 3, _, _, _, _, h => h
  | 4, _, _, _, _, h => h
  | 5, _, _, _, k, h => LitAt.keep h k
  | 6, _, _, _, k, h => LitAt.keep h k
  | 7, _, _, _, k, ⟨u, h1, h2⟩ => ⟨u, h1.keep k, h2⟩
  | 8, _, _, _, _, h => h
  | 9, _, _, _, k, h => LitAt.keep h k
  | 10, _, _, _, k, h => LitAt.keep h k
  | 11, _, _, _, k, ⟨u, h1, h2⟩ => ⟨u, h1.keep k, h2⟩
  | 12, _, _, _, k, ⟨g, u1, u2, h1, h2, h3, h4⟩ => ⟨g, u1, u2, h1.keep k, h2.keep k, h3, h4.keepM (by decide) k⟩
  | 13, _, _, _, _, h => h
  | 14, _, _, _, _, h => h
  | 15, _, _, _, k, ⟨g, u1, u2, h1, h2, h3, h4⟩ => ⟨g, u1, u2, h1.keep k, h2.keep k, h3, h4.keepM (by decide) k⟩
  | 16, _, _, _, k, ⟨u, lx, h1, h2, h3⟩ => ⟨u, lx, h1.keepM k, h2, h3⟩
  | 17, _, _, _, k, ⟨g, u, lx, h1, h2, h3, h4⟩ => ⟨g, u, lx, h1.keepM k, h2, h3, h4.keepM (by decide) k⟩
  | 18, _, _, _, _, h => h
  | 19, _, _, _, _, h => h
  | 20, _, _, _, _, h => h
  | 21, _, _, _, _, h => h
  | 22, _, _, _, k, ⟨g, h1, h2, h3⟩ => ⟨g, h1, h2, h3.keepM (by decide) k⟩
  | _ + 23, _, _, _, _, h => h
end Go.Proofs.Ytfihnmfbgdjkpaa
