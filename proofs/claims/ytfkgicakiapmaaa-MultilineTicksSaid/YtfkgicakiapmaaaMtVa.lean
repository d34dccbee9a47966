/- Package matcher: a search in memory, the number of a state, a set of bytes. Package matcher: a set of bytes. -/
import Derived.Test.YtfkgicakiapmaaaProg
import Derived.WalkKit
import Derived.ProofKit
import Derived.Below
import Derived.Lib.Hide
import Derived.Outline
import Derived.BigQuiet
import Derived.Deep.QuietTactic
import Derived.LoopTactic
import Derived.IntWalk
import Derived.Test.YtfkgicakiapmaaaBk
import Derived.Deep.DeepCutAuto
import Derived.Laws.Bits64b
namespace Go.Proofs.Ytfkgicakiapmaaa
open Go.RowKit

/-- An instruction. -/
structure InsV where
  op : Nat
  next : Nat
  other : Nat
  set : Nat → Nat
  cap : Int
def insC (x : InsV) : List Value := [.int .i64 (x.op : Int), .int .i64 (x.next : Int), .int .i64 (x.other : Int), .int .u64 (x.set 0 : Int), .int .u64 (x.set 1 : Int), .int .u64 (x.set 2 : Int), .int .u64 (x.set 3 : Int), .int .i64 x.cap]
/-- The code of a program. -/
def CodeAt (W : World) (g : Nat) (code : List InsV) : Prop := ∀ i (h : i < code.length) j v, (insC code[i])[j]? = some v → W.cell? ⟨g, i * 8 + j, none⟩ = some v
/-- A search. -/
def srA (cv nv tv pv : Value) (text : ByteArray) (start fr : Nat) : Array Value := #[cv, .int .i64 (start : Int), nv, .string text, .int .i64 (fr : Int), tv, pv]
/-- The number of a state. -/
def numS (n fr pc p : Nat) (mv : Bool) : Nat := 2 * ((p - fr) * n + pc) + if mv then 1 else 0
set_option maxRecDepth 100000 in
theorem number_any (sb g c n fr pc p start : Nat) (mv : Bool) (nv tv pv : Value) (text : ByteArray) (w : World) (h : BkAt sb 121 (srA (.slice (some ⟨g, 0, none⟩) n c) nv tv pv text start fr) w) (hf : fr ≤ p) (hp : p ≤ 1000000) (hn : n ≤ 1000000) (hpc : pc ≤ 1000000) :
    Calls Try.prog 66 #[.pointer (some ⟨sb, 0, none⟩), .agg #[.int .i64 (pc : Int), .int .i64 (p : Int), .bool mv]] w fun e w' => e = .returned (.int .i64 (numS n fr pc p mv : Int)) ∧ Below w.heap.size w w' := by
  have hbn := below_new w (.cells #[.int .i64 (pc : Int), .int .i64 (p : Int), .bool mv] 131)
  have hb := h.below hbn
  have hk := BkAt.new 131 #[.int .i64 (pc : Int), .int .i64 (p : Int), .bool mv] w
  obtain ⟨W, hW⟩ : ∃ W, w.alloc (.cells #[.int .i64 (pc : Int), .int .i64 (p : Int), .bool mv] 131) = W := ⟨_, rfl⟩
  rw [hW] at hb hk hbn
  obtain ⟨c0, c4⟩ : W.cell? ⟨sb, 0, none⟩ = some (.slice (some ⟨g, 0, none⟩) n c) ∧ W.cell? ⟨sb, 4, none⟩ = some (.int .i64 (fr : Int)) := ⟨hb.cell 0, hb.cell 4⟩
  obtain ⟨k0, k1, k2⟩ : W.cell? ⟨w.heap.size, 0, none⟩ = some (.int .i64 (pc : Int)) ∧ W.cell? ⟨w.heap.size, 1, none⟩ = some (.int .i64 (p : Int)) ∧ W.cell? ⟨w.heap.size, 2, none⟩ = some (.bool mv) := ⟨hk.cell 0, hk.cell 1, hk.cell 2⟩
  have hlt := h.lt
  have hmul : (p - fr) * n ≤ 1000000 * 1000000 := Nat.mul_le_mul (by omega) hn
  obtain ⟨m, hm⟩ : ∃ m, (p - fr) * n = m := ⟨_, rfl⟩
  have hmi : ((p : Int) - (fr : Int)) * (n : Int) = (m : Int) := by rw [← hm]; push_cast; rw [Int.ofNat_sub hf]
  rw [hm] at hmul
  have w1 : IntKind.i64.wrap ((p : Int) - (fr : Int)) = (p : Int) - (fr : Int) := IntWalk.i64_in _ (by omega)
  have w2 : IntKind.i64.wrap (((p : Int) - (fr : Int)) * (n : Int)) = (m : Int) := by rw [hmi]; exact IntWalk.i64_in _ (by omega)
  have w3 : IntKind.i64.wrap ((m : Int) + (pc : Int)) = (m : Int) + (pc : Int) := IntWalk.i64_in _ (by omega)
  have HN := Lib.hid (show (numS n fr pc p mv : Int) = 2 * ((m : Int) + (pc : Int)) + (if mv then 1 else 0) by unfold numS; rw [hm]; cases mv <;> simp)
  have HB := Lib.hid hbn
  have HW := Lib.hid hW
  clear hbn h hb hk hmi hW
  go_enter Try.func66, Try.ntmps66
  go_upto_region 1 with (fail)
  rw [HW.out]
  go_quiet (fail)
  cases mv with
  | false =>
    go_wp2
    go_ret
    exact ⟨by rw [HN.out]; simp, HB.out.trans ⟨rfl, rfl, rfl, Nat.le_refl _, fun _ _ => rfl⟩⟩
  | true =>
    go_wp2
    go_ret
    exact ⟨by rw [HN.out]; simp, HB.out.trans ⟨rfl, rfl, rfl, Nat.le_refl _, fun _ _ => rfl⟩⟩
end Go.Proofs.Ytfkgicakiapmaaa

namespace Go.Proofs.Ytfkgicakiapmaaa
open Go.RowKit

theorem bit_has (a r : Nat) (ha : a < 18446744073709551616) : (bits .and .u64 ((a : Int) / 2 ^ r) 1 == 1) = a.testBit r := by
  have e1 : (a : Int) / 2 ^ r = ((a / 2 ^ r : Nat) : Int) := by push_cast; rfl
  have h1 : a / 2 ^ r < 18446744073709551616 := Nat.lt_of_le_of_lt (Nat.div_le_self ..) ha
  rw [e1, show (1 : Int) = ((1 : Nat) : Int) from rfl, bits_and_u64_nat _ _ h1 (by omega), Nat.and_one_is_mod, Nat.testBit_eq_decide_div_mod_eq, Bool.eq_iff_iff]
  simp only [beq_iff_eq, decide_eq_true_eq]
  omega
set_option maxRecDepth 100000 in
theorem has_any (g o : Nat) (ws : Nat → Nat) (x : Nat) (hx : x < 256) (w : World) (hw : ∀ k, ws k < 18446744073709551616) (h : ∀ k, k < 4 → w.cell? ⟨g, o + k, none⟩ = some (.int .u64 (ws k : Int))) :
    Calls Try.prog 81 #[.pointer (some ⟨g, o, none⟩), .int .u8 (x : Int)] w fun e w' => e = .returned (.bool ((ws (x / 64)).testBit (x % 64))) ∧ w = w' := by
  obtain ⟨q, hq⟩ : ∃ q, x / 64 = q := ⟨_, rfl⟩
  obtain ⟨r, hr⟩ : ∃ r, x % 64 = r := ⟨_, rfl⟩
  have c0 := h q (by omega)
  have q1 : (x : Int) / 64 = (q : Int) := by omega
  have r1 : (x : Int) % 64 = (r : Int) := by omega
  have q2 : (q : Int) < 4 := by omega
  have r2 : (r : Int) < 64 := by omega
  have HX := Lib.hid (And.intro hq hr)
  rw [hq, hr]
  clear h hq hr
  go_enter Try.func81, Try.ntmps81
  go_wp2
  go_ret
  exact ⟨by rw [bit_has _ _ (hw q)]; rfl, rfl⟩
end Go.Proofs.Ytfkgicakiapmaaa
