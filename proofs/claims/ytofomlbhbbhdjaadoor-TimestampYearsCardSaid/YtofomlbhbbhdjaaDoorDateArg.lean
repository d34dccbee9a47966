/- An api.Date that a law's argument holds is seven ints. -/
import Derived.Test.YtofomlbhbbhdjaaDoorArgs
import Derived.Deep.Slices
import Derived.Deep.Fields
import Derived.ChangeSame
namespace Go.Proofs.YtofomlbhbbhdjaaDoor
open Go.ChangeShapes Go.WideShapes Go.Deep Go.RowKit

section
variable {H : Type} {enc : TypeId × Value → H} {W : World} {spare : Nat → Bool} {held : Bool}
theorem fields_of {t : TypeId} {fs : Array Field} {fuel : Nat} {cs : List Value} {x : DataW H × List MemPlace} (ht : Tryd.prog.underlying t = some (.struct fs)) (hone : oneCellFields Tryd.prog fs = true) (hC : Tryd.prog.cellsOf t = fs.size)
    (h : DataW.trod enc Tryd.prog W 0 spare held fuel t cs = some x) :
    ∃ n, cs.length = fs.size ∧ ∀ (j : Nat) (f : Field), fs[j]? = some f → ∃ (c : Value) (y : DataW H × List MemPlace), cs[j]? = some c ∧ DataW.trod enc Tryd.prog W 0 spare held n f.type [c] = some y := by
  obtain ⟨xs, n, _, -, hcl, hxl, hf⟩ := DataW.trod_struct ht h
  rw [hC] at hcl
  refine ⟨n, hcl, fun j f hj => ?_⟩
  obtain ⟨ho, hk⟩ := hone_of hone j f hj
  have hjl : j < fs.size := (Array.getElem?_eq_some_iff.1 hj).1
  have h1 := hf j f hj
  rw [ho, hk] at h1
  have e : (cs.drop j).take 1 = [cs[j]'(by omega)] := by rw [List.drop_eq_getElem_cons (by omega)]; rfl
  rw [e] at h1
  have hx : xs[j]? = some (xs[j]'(by omega)) := List.getElem?_eq_getElem (by omega)
  exact ⟨cs[j]'(by omega), xs[j]'(by omega), List.getElem?_eq_getElem (by omega), h1.trans hx⟩
theorem dateSeven : Tryd.prog.cellsOf 36 = 7 := by kernel_rfl
def intIn (n : Int) : Prop := -9223372036854775808 ≤ n ∧ n ≤ 9223372036854775807
theorem int_cell {n : Nat} {c : Value} {y : DataW H × List MemPlace} (h : DataW.trod enc Tryd.prog W 0 spare held n 3 [c] = some y) : ∃ k : Int, c = .int .i64 k ∧ intIn k := by
  obtain ⟨k, e, -, w⟩ := DataW.trod_int Tryd.underlying3 h
  exact ⟨k, by simpa using e, by simpa [Lit.wf, IntKind.min, IntKind.max, IntKind.signed, IntKind.bits, intIn] using w⟩
set_option maxRecDepth 100000 in
theorem date_trod (fuel : Nat) (cs : List Value) (x : DataW H × List MemPlace) (h : DataW.trod enc Tryd.prog W 0 spare held fuel 36 cs = some x) :
    ∃ y m d a i s c : Int, cs = [.int .i64 y, .int .i64 m, .int .i64 d, .int .i64 a, .int .i64 i, .int .i64 s, .int .i64 c] ∧ intIn y ∧ intIn m ∧ intIn d ∧ intIn a ∧ intIn i ∧ intIn s ∧ intIn c := by
  obtain ⟨n, hl, hf⟩ := fields_of Tryd.underlying36 (by kernel_rfl) dateSeven h
  obtain ⟨c0, _, e0, g0⟩ := hf 0 _ rfl
  obtain ⟨c1, _, e1, g1⟩ := hf 1 _ rfl
  obtain ⟨c2, _, e2, g2⟩ := hf 2 _ rfl
  obtain ⟨c3, _, e3, g3⟩ := hf 3 _ rfl
  obtain ⟨c4, _, e4, g4⟩ := hf 4 _ rfl
  obtain ⟨c5, _, e5, g5⟩ := hf 5 _ rfl
  obtain ⟨c6, _, e6, g6⟩ := hf 6 _ rfl
  obtain ⟨k0, rfl, w0⟩ := int_cell g0
  obtain ⟨k1, rfl, w1⟩ := int_cell g1
  obtain ⟨k2, rfl, w2⟩ := int_cell g2
  obtain ⟨k3, rfl, w3⟩ := int_cell g3
  obtain ⟨k4, rfl, w4⟩ := int_cell g4
  obtain ⟨k5, rfl, w5⟩ := int_cell g5
  obtain ⟨k6, rfl, w6⟩ := int_cell g6
  match cs, hl with
  | [a0, a1, a2, a3, a4, a5, a6], _ =>
    simp only [List.getElem?_cons_zero, List.getElem?_cons_succ, Option.some.injEq] at e0 e1 e2 e3 e4 e5 e6
    subst e0 e1 e2 e3 e4 e5 e6
    exact ⟨k0, k1, k2, k3, k4, k5, k6, rfl, w0, w1, w2, w3, w4, w5, w6⟩
end
end Go.Proofs.YtofomlbhbbhdjaaDoor
