/- An api.Node that a law's argument holds is some tree in memory. -/
import Derived.Test.YtfmoidhpafpgnaaPatNode
import Derived.Test.YtfmoidhpafpgnaaArgs
import Derived.Deep.Slices
import Derived.Deep.Fields
import Derived.ChangeSame
namespace Go.Proofs.Ytfmoidhpafpgnaa
open Go.ChangeShapes Go.WideShapes Go.Deep Go.RowKit

section
variable {H : Type} {enc : TypeId × Value → H} {W : World} {spare : Nat → Bool} {held : Bool}
theorem fields_at {t : TypeId} {fs : Array Field} {fuel : Nat} {cs : List Value} {x : DataW H × List MemPlace} (ht : Try.prog.underlying t = some (.struct fs)) (hone : oneCellFields Try.prog fs = true) (hC : Try.prog.cellsOf t = fs.size)
    (h : DataW.trod enc Try.prog W 0 spare held fuel t cs = some x) :
    ∃ n, fuel = n + 1 ∧ cs.length = fs.size ∧ ∀ (j : Nat) (f : Field), fs[j]? = some f → ∃ (c : Value) (y : DataW H × List MemPlace), cs[j]? = some c ∧ DataW.trod enc Try.prog W 0 spare held n f.type [c] = some y := by
  obtain ⟨xs, n, hn, -, hcl, hxl, hf⟩ := DataW.trod_struct ht h
  rw [hC] at hcl
  refine ⟨n, hn, hcl, fun j f hj => ?_⟩
  obtain ⟨ho, hk⟩ := hone_of hone j f hj
  have hjl : j < fs.size := (Array.getElem?_eq_some_iff.1 hj).1
  have h1 := hf j f hj
  rw [ho, hk] at h1
  have e : (cs.drop j).take 1 = [cs[j]'(by omega)] := by rw [List.drop_eq_getElem_cons (by omega)]; rfl
  rw [e] at h1
  have hx : xs[j]? = some (xs[j]'(by omega)) := List.getElem?_eq_getElem (by omega)
  exact ⟨cs[j]'(by omega), xs[j]'(by omega), List.getElem?_eq_getElem (by omega), h1.trans hx⟩
theorem nodeSix : Try.prog.cellsOf 25 = 6 := by kernel_rfl
theorem rangeTwo : Try.prog.cellsOf 46 = 2 := by kernel_rfl
theorem spot_of {W : World} {a : Addr} {v : Value} (h : W.cell? a = some v) : ∃ b o, a = ⟨b, o, none⟩ := by
  obtain ⟨b, off, spot⟩ := a
  have hs : spot = none := by simpa using World.cell?_spot h
  subst hs
  exact ⟨b, off, rfl⟩
theorem add_at (b o k : Nat) : (⟨b, o, none⟩ : Addr).add k = ⟨b, o + k, none⟩ := by
  unfold Addr.add; split
  · rename_i h; rw [h]; rfl
  · rfl
set_option maxRecDepth 100000 in
/-- Six cells read as a node's: what each is. -/
theorem node_cells {fuel : Nat} {cs : List Value} {x : DataW H × List MemPlace} (h : DataW.trod enc Try.prog W 0 spare held (fuel + 1) 25 cs = some x) :
    ∃ (op mn mx : Int) (rv kv : Value) (nm : ByteArray) (y1 y3 : DataW H × List MemPlace), cs = [.int .i64 op, rv, .string nm, kv, .int .i64 mn, .int .i64 mx] ∧ i64In op ∧ i64In mn ∧ i64In mx ∧ nm.size ≤ maxLen ∧
      DataW.trod enc Try.prog W 0 spare held fuel 22 [rv] = some y1 ∧ DataW.trod enc Try.prog W 0 spare held fuel 23 [kv] = some y3 := by
  obtain ⟨n, hn, hcl, hf⟩ := fields_at Try.underlying25 (by kernel_rfl) (by kernel_rfl) h
  obtain rfl : n = fuel := by omega
  have hcl : cs.length = 6 := hcl
  match cs, hcl, hf with
  | [c0, c1, c2, c3, c4, c5], _, hf =>
    obtain ⟨d0, x0, q0, g0⟩ := hf 0 _ rfl
    obtain ⟨d1, x1, q1, g1⟩ := hf 1 _ rfl
    obtain ⟨d2, x2, q2, g2⟩ := hf 2 _ rfl
    obtain ⟨d3, x3, q3, g3⟩ := hf 3 _ rfl
    obtain ⟨d4, x4, q4, g4⟩ := hf 4 _ rfl
    obtain ⟨d5, x5, q5, g5⟩ := hf 5 _ rfl
    simp only [List.getElem?_cons_zero, List.getElem?_cons_succ, Option.some.injEq] at q0 q1 q2 q3 q4 q5
    subst q0 q1 q2 q3 q4 q5
    obtain ⟨op, e0, -, w0⟩ := DataW.trod_int Try.underlying3 g0
    obtain ⟨nm, e2, -, w2⟩ := DataW.trod_string Try.underlying9 g2
    obtain ⟨mn, e4, -, w4⟩ := DataW.trod_int Try.underlying3 g4
    obtain ⟨mx, e5, -, w5⟩ := DataW.trod_int Try.underlying3 g5
    simp only [List.cons.injEq, and_true] at e0 e2 e4 e5
    subst e0 e2 e4 e5
    have hi : ∀ z : Int, (Lit.int .i64 z).wf = true → i64In z := fun z hz => by
      have : -9223372036854775808 ≤ z ∧ z ≤ 9223372036854775807 := by simpa [Lit.wf, IntKind.min, IntKind.max, IntKind.signed, IntKind.bits] using hz
      exact this
    exact ⟨op, mn, mx, _, _, nm, x1, x3, rfl, hi _ w0, hi _ w4, hi _ w5, w2, g1, g3⟩
set_option maxRecDepth 100000 in
/-- A slice of ranges that an argument holds. -/
theorem ranges_trod {fuel : Nat} {v : Value} {x : DataW H × List MemPlace} (h : DataW.trod enc Try.prog W 0 spare held fuel 22 [v] = some x) : ∃ rs, RangesIn 0 W v rs := by
  rcases DataW.trod_slice Try.underlying22 h with ⟨hcs, -⟩ | ⟨a, len, cap, elems, rest, n, rfl, hcs, -, -, hlc, hcm, hel, hi, -, -⟩
  · simp only [List.cons.injEq, and_true] at hcs
    subst hcs
    exact ⟨[], none, 0, rfl, by simp [maxLen], by simp, fun i hi => absurd hi (by simp)⟩
  · simp only [List.cons.injEq, and_true] at hcs
    subst hcs
    rw [rangeTwo] at hi
    have hr : ∀ i, i < len → ∃ (p q : Nat) (b o : Nat), p < 256 ∧ q < 256 ∧ a = ⟨b, o, none⟩ ∧ W.cell? ⟨b, o + i * 2, none⟩ = some (.int .u8 (p : Int)) ∧ W.cell? ⟨b, o + i * 2 + 1, none⟩ = some (.int .u8 (q : Int)) := fun i hlt => by
      have h1 := hi i hlt
      have he : elems[i]? = some (elems[i]'(by omega)) := List.getElem?_eq_getElem (by omega)
      rw [he] at h1
      obtain ⟨cs, hc, ht⟩ := Option.bind_eq_some_iff.1 h1
      obtain ⟨-, hcl, hat⟩ := World.cells?_some hc
      obtain ⟨n', -, -, hf⟩ := fields_at Try.underlying46 (by kernel_rfl) (by kernel_rfl) ht
      match cs, hcl, hf, hat with
      | [c0, c1], _, hf, hat =>
          obtain ⟨d0, x0, q0, g0⟩ := hf 0 _ rfl
          obtain ⟨d1, x1, q1, g1⟩ := hf 1 _ rfl
          simp only [List.getElem?_cons_zero, List.getElem?_cons_succ, Option.some.injEq] at q0 q1
          subst q0 q1
          obtain ⟨p, e0, -, w0⟩ := DataW.trod_int Try.underlying5 g0
          obtain ⟨q, e1, -, w1⟩ := DataW.trod_int Try.underlying5 g1
          simp only [List.cons.injEq, and_true] at e0 e1
          subst e0 e1
          have a0 := hat 0 (by omega)
          have a1 := hat 1 (by omega)
          have w0' : 0 ≤ p ∧ p ≤ 255 := by simpa [Lit.wf, IntKind.min, IntKind.max, IntKind.signed, IntKind.bits] using w0
          have w1' : 0 ≤ q ∧ q ≤ 255 := by simpa [Lit.wf, IntKind.min, IntKind.max, IntKind.signed, IntKind.bits] using w1
          have ha : ∃ b o, a = ⟨b, o, none⟩ := by
            by_cases hz : i = 0
            · subst hz
              have : W.cell? a = some (.int .u8 p) := by simpa [Addr.add] using a0
              exact spot_of this
            · have hb := hi 0 (by omega)
              have he0 : elems[0]? = some (elems[0]'(by omega)) := List.getElem?_eq_getElem (by omega)
              rw [he0] at hb
              obtain ⟨cs, hc, -⟩ := Option.bind_eq_some_iff.1 hb
              obtain ⟨-, hcl, hat⟩ := World.cells?_some hc
              have b0 := hat 0 (by omega)
              have : cs[0]? = some (cs[0]'(by omega)) := List.getElem?_eq_getElem (by omega)
              rw [this] at b0
              exact spot_of (a := a) (by simpa [Addr.add] using b0)
          obtain ⟨b, o, rfl⟩ := ha
          rw [add_at, add_at] at a0 a1
          refine ⟨p.toNat, q.toNat, b, o, by omega, by omega, rfl, ?_, ?_⟩
          · have e : ((p.toNat : Nat) : Int) = p := by omega
            rw [e]; simpa using a0
          · have e : ((q.toNat : Nat) : Int) = q := by omega
            rw [e]; simpa using a1
    have hcho : ∃ f : Nat → Nat × Nat, ∀ i, i < len → (f i).1 < 256 ∧ (f i).2 < 256 ∧ ∃ b o, a = ⟨b, o, none⟩ ∧ W.cell? ⟨b, o + i * 2, none⟩ = some (.int .u8 ((f i).1 : Int)) ∧ W.cell? ⟨b, o + i * 2 + 1, none⟩ = some (.int .u8 ((f i).2 : Int)) := by
      refine ⟨fun i => if hl : i < len then (Classical.choose (hr i hl), Classical.choose (Classical.choose_spec (hr i hl))) else (0, 0), fun i hl => ?_⟩
      simp only [dif_pos hl]
      obtain ⟨b, o, h1, h2, h3, h4, h5⟩ := Classical.choose_spec (Classical.choose_spec (hr i hl))
      exact ⟨h1, h2, b, o, h3, h4, h5⟩
    obtain ⟨f, hf⟩ := hcho
    refine ⟨(List.range len).map f, some a, cap, by simp, by simp only [List.length_map, List.length_range]; omega, fun x hx => ?_, fun i hil => ?_⟩
    · obtain ⟨i, hi, rfl⟩ := List.mem_map.1 hx
      have := hf i (List.mem_range.1 hi)
      exact ⟨this.1, this.2.1⟩
    · simp only [List.length_map, List.length_range] at hil
      obtain ⟨-, -, b, o, h3, h4, h5⟩ := hf i hil
      refine ⟨b, o, by rw [h3], Nat.zero_le _, ?_, ?_⟩
      · simpa using h4
      · simpa using h5
set_option maxRecDepth 100000 in
/-- A node that an argument holds is some tree. -/
theorem node_trod : ∀ (fuel : Nat) (cs : List Value) (x : DataW H × List MemPlace), DataW.trod enc Try.prog W 0 spare held fuel 25 cs = some x → ∃ t : Nd, NodeIn 0 W t (.agg cs.toArray) := by
  intro fuel
  induction fuel using Nat.strongRecOn with
  | ind fuel ih =>
    intro cs x h
    obtain ⟨xs0, n0, rfl, -⟩ := DataW.trod_struct Try.underlying25 h
    obtain ⟨op, mn, mx, rv, kv, nm, y1, y3, rfl, ho, hmn, hmx, hnm, h1, h3⟩ := node_cells h
    obtain ⟨rs, hrs⟩ := ranges_trod h1
    rcases DataW.trod_slice Try.underlying23 h3 with ⟨hcs, -⟩ | ⟨a, len, cap, elems, rest, n, rfl, hcs, -, -, hlc, hcm, hel, hi, -, -⟩
    · simp only [List.cons.injEq, and_true] at hcs
      subst hcs
      refine ⟨.mk op rs nm [] mn mx, ?_⟩
      unfold NodeIn
      exact ⟨rv, none, 0, rfl, ho, hmn, hmx, hnm, by simp [maxLen], hrs, .inl rfl⟩
    · simp only [List.cons.injEq, and_true] at hcs
      subst hcs
      rw [nodeSix] at hi
      have hk : ∀ i, i < len → ∃ (t : Nd) (b o : Nat) (op mn mx : Int) (rv kv : Value) (nm : ByteArray), a = ⟨b, o, none⟩ ∧ NodeIn 0 W t (.agg (ndVals op rv nm kv mn mx)) ∧ W.cell? ⟨b, o + i * 6, none⟩ = some (.int .i64 op) ∧ W.cell? ⟨b, o + i * 6 + 1, none⟩ = some rv ∧
          W.cell? ⟨b, o + i * 6 + 2, none⟩ = some (.string nm) ∧ W.cell? ⟨b, o + i * 6 + 3, none⟩ = some kv ∧ W.cell? ⟨b, o + i * 6 + 4, none⟩ = some (.int .i64 mn) ∧ W.cell? ⟨b, o + i * 6 + 5, none⟩ = some (.int .i64 mx) := fun i hlt => by
        have h1 := hi i hlt
        have he : elems[i]? = some (elems[i]'(by omega)) := List.getElem?_eq_getElem (by omega)
        rw [he] at h1
        obtain ⟨cs, hc, ht⟩ := Option.bind_eq_some_iff.1 h1
        obtain ⟨-, hcl, hat⟩ := World.cells?_some hc
        obtain ⟨t, hnt⟩ := ih n (by omega) cs _ ht
        obtain ⟨xs1, n1, rfl, -⟩ := DataW.trod_struct Try.underlying25 ht
        obtain ⟨op, mn, mx, rv, kv, nm, z1, z3, rfl, -, -, -, -, -, -⟩ := node_cells ht
        have ha : ∃ b o, a = ⟨b, o, none⟩ := by
          have hb := hi 0 (by omega)
          have he0 : elems[0]? = some (elems[0]'(by omega)) := List.getElem?_eq_getElem (by omega)
          rw [he0] at hb
          obtain ⟨cs, hc, -⟩ := Option.bind_eq_some_iff.1 hb
          obtain ⟨-, hcl, hat⟩ := World.cells?_some hc
          have b0 := hat 0 (by omega)
          have : cs[0]? = some (cs[0]'(by omega)) := List.getElem?_eq_getElem (by omega)
          rw [this] at b0
          exact spot_of (a := a) (by simpa [Addr.add] using b0)
        obtain ⟨b, o, rfl⟩ := ha
        have a0 := hat 0 (by omega)
        have a1 := hat 1 (by omega)
        have a2 := hat 2 (by omega)
        have a3 := hat 3 (by omega)
        have a4 := hat 4 (by omega)
        have a5 := hat 5 (by omega)
        rw [add_at, add_at] at a0 a1 a2 a3 a4 a5
        exact ⟨t, b, o, op, mn, mx, rv, kv, nm, rfl, hnt, by simpa using a0, by simpa using a1, by simpa using a2, by simpa using a3, by simpa using a4, by simpa using a5⟩
      have hcho : ∃ f : Nat → Nd, ∀ i, i < len → ∃ (b o : Nat) (op mn mx : Int) (rv kv : Value) (nm : ByteArray), a = ⟨b, o, none⟩ ∧ NodeIn 0 W (f i) (.agg (ndVals op rv nm kv mn mx)) ∧ W.cell? ⟨b, o + i * 6, none⟩ = some (.int .i64 op) ∧ W.cell? ⟨b, o + i * 6 + 1, none⟩ = some rv ∧
          W.cell? ⟨b, o + i * 6 + 2, none⟩ = some (.string nm) ∧ W.cell? ⟨b, o + i * 6 + 3, none⟩ = some kv ∧ W.cell? ⟨b, o + i * 6 + 4, none⟩ = some (.int .i64 mn) ∧ W.cell? ⟨b, o + i * 6 + 5, none⟩ = some (.int .i64 mx) := by
        refine ⟨fun i => if hl : i < len then Classical.choose (hk i hl) else .mk 0 [] noName [] 0 0, fun i hl => ?_⟩
        simp only [dif_pos hl]
        exact Classical.choose_spec (hk i hl)
      obtain ⟨f, hf⟩ := hcho
      have hkids : ∀ (m j : Nat) (b o : Nat), a = ⟨b, o, none⟩ → j + m = len → KidsIn 0 W ((List.range m).map fun i => f (j + i)) b (o + j * 6) := by
        intro m
        induction m with
        | zero => intro j b o _ _; unfold KidsIn; trivial
        | succ m ihm =>
          intro j b o hab hj
          obtain ⟨b', o', op, mn, mx, rv, kv, nm, ha', hn', c0, c1, c2, c3, c4, c5⟩ := hf j (by omega)
          rw [hab] at ha'
          simp only [Addr.mk.injEq, and_true] at ha'
          obtain ⟨rfl, rfl⟩ := ha'
          have e : (List.range (m + 1)).map (fun i => f (j + i)) = f j :: (List.range m).map fun i => f (j + 1 + i) := by
            rw [List.range_succ_eq_map, List.map_cons, List.map_map]
            simp only [Nat.add_zero, List.cons.injEq, true_and]
            refine List.map_congr_left fun i _ => ?_
            show f (j + (i + 1)) = f (j + 1 + i)
            congr 1
            omega
          rw [e]
          unfold KidsIn
          refine ⟨⟨op, rv, nm, kv, mn, mx, hn', c0, c1, c2, c3, c4, c5⟩, ?_⟩
          have := ihm (j + 1) b o hab (by omega)
          rw [show o + j * 6 + 6 = o + (j + 1) * 6 from by omega]
          exact this
      refine ⟨.mk op rs nm ((List.range len).map f) mn mx, ?_⟩
      unfold NodeIn
      refine ⟨rv, some a, cap, by simp [ndVals], ho, hmn, hmx, hnm, by simp only [List.length_map, List.length_range]; omega, hrs, ?_⟩
      by_cases hz : len = 0
      · left; rw [hz]; rfl
      · obtain ⟨b, o, -, -, -, -, -, -, ha, -⟩ := hf 0 (by omega)
        refine .inr ⟨b, o, by rw [ha], Nat.zero_le _, ?_⟩
        have := hkids len 0 b o ha (by omega)
        simpa using this
end
end Go.Proofs.Ytfmoidhpafpgnaa
