/- What every form of package timestamp keeps while it reads: the cursor, the date, the hints. -/
import Derived.Test.YtofomlbhbbhdjaaDoorTsNst
namespace Go.Proofs.YtofomlbhbbhdjaaDoor
open Go.RowKit

theorem DaysT.frp {w w' : World} {P : Nat → Prop} (h : DaysT w) (k : FrP P w w') (hn : ¬ P 1) : DaysT w' := by
  unfold DaysT Lib.TabIs World.var? at *
  have hg : Tryd.prog.globalNamed "logtide/calendar.daysBefore" = some 1 := by kernel_rfl
  rw [hg] at h ⊢
  simp only [Option.bind_some] at h ⊢
  have hlt : 1 < w.heap.size := by
    rcases Nat.lt_or_ge 1 w.heap.size with l | l
    · exact l
    · rw [Array.getElem?_eq_none (by omega)] at h; cases h
  rw [k.block _ hlt hn]
  exact h
/-- The tables, and that the cursor is none of them. -/
structure Glob (B : Nat) (w : World) : Prop where
  days : DaysT w
  mon : MonT w
  nd : B ≠ 1
  nm : B ≠ 0
theorem Glob.fr {B : Nat} {w w' : World} (h : Glob B w) (k : Fr B w w') : Glob B w' := ⟨h.days.frp k (fun e => h.nd e.symm), h.mon.frp k (fun e => h.nm e.symm), h.nd, h.nm⟩
def hintsA (ref year zone : Int) (first : Bool) : Array Value := #[.int .i64 ref, .int .i64 year, .int .i64 zone, .bool first]
structure St (s : ByteArray) (B D H : Nat) (q : CS) (x : D7) (hv : Array Value) (w0 w : World) : Prop where
  c : CAt s B q w
  d : RowAt D 36 x.cs w
  h : RowAt H 56 hv w
  f : Fr B w0 w
  hD : w0.heap.size ≤ D
  hH : w0.heap.size ≤ H
  hB : B < w0.heap.size
  hne : D ≠ H
variable {s : ByteArray} {B D H : Nat} {q q' : CS} {x x' : D7} {hv : Array Value} {w0 w w' : World}
theorem St.step (h : St s B D H q x hv w0 w) (c : CAt s B q' w') (k : Fr B w w') : St s B D H q' x hv w0 w' := by
  have h1 := h.hD; have h2 := h.hH; have h3 := h.hB
  exact ⟨c, h.d.frp k (by omega), h.h.frp k (by omega), h.f.trans k, h1, h2, h3, h.hne⟩
theorem St.clk (h : St s B D H q x hv w0 w) (c : CAt s B q' w') (d : DtAt D x'.cs w') (k : FrD B D w w') : St s B D H q' x' hv w0 w' := by
  have h1 := h.hD; have h2 := h.hH; have h3 := h.hB; have h4 := h.hne
  exact ⟨c, d, h.h.frp k (by omega), h.f.wide k (fun i hi => by omega), h1, h2, h3, h.hne⟩
theorem St.set (h : St s B D H q x hv w0 w) (i : Nat) (v : Value) (e : x.cs.setIfInBounds i v = x'.cs) : St s B D H q x' hv w0 (w.setCell ⟨D, i, none⟩ v) := by
  have h1 := h.hD; have h2 := h.hH; have h3 := h.hB; have h4 := h.hne
  have k : FrP (fun j => j = D) w (w.setCell ⟨D, i, none⟩ v) := (FrP.refl _ w).setCell D i v rfl
  exact ⟨h.c.frp k (by omega), e ▸ h.d.set i v, h.h.frp k (by omega), h.f.wide k (fun i hi => by omega), h1, h2, h3, h4⟩
theorem St.s0 (h : St s B D H q x hv w0 w) (v : Int) : St s B D H q ⟨v, x.m, x.d, x.h, x.i, x.s, x.c⟩ hv w0 (w.setCell ⟨D, 0, none⟩ (.int .i64 v)) := h.set 0 _ rfl
theorem St.s1 (h : St s B D H q x hv w0 w) (v : Int) : St s B D H q ⟨x.y, v, x.d, x.h, x.i, x.s, x.c⟩ hv w0 (w.setCell ⟨D, 1, none⟩ (.int .i64 v)) := h.set 1 _ rfl
theorem St.s2 (h : St s B D H q x hv w0 w) (v : Int) : St s B D H q ⟨x.y, x.m, v, x.h, x.i, x.s, x.c⟩ hv w0 (w.setCell ⟨D, 2, none⟩ (.int .i64 v)) := h.set 2 _ rfl
theorem St.start {p : CS} (h : CAt s B p w) (ref year zone : Int) (first : Bool) :
    St s B (w.heap.size + 1) w.heap.size p ⟨0, 0, 0, 0, 0, 0, 0⟩ (hintsA ref year zone first) w ((w.alloc (.cells #[.int .i64 ref, .int .i64 year, .int .i64 zone, .bool first] 56)).alloc (.cells #[.int .i64 0, .int .i64 0, .int .i64 0, .int .i64 0, .int .i64 0, .int .i64 0, .int .i64 0] 36)) := by
  refine ⟨(h.alloc _).alloc _, ?_, (RowAt.new _ _ w).below (below_alloc _ _), ((FrP.refl _ w).alloc _).alloc _, by omega, Nat.le_refl _, h.lt, by omega⟩
  have := RowAt.new 36 #[.int .i64 0, .int .i64 0, .int .i64 0, .int .i64 0, .int .i64 0, .int .i64 0, .int .i64 0] (w.alloc (.cells #[.int .i64 ref, .int .i64 year, .int .i64 zone, .bool first] 56))
  rw [show (w.alloc (.cells #[.int .i64 ref, .int .i64 year, .int .i64 zone, .bool first] 56)).heap.size = w.heap.size + 1 by simp] at this
  exact this
theorem St.glob (h : St s B D H q x hv w0 w) (g : Glob B w0) : Glob B w := g.fr h.f
theorem St.dcell (h : St s B D H q x hv w0 w) : w.cell? ⟨D, 0, none⟩ = some (.int .i64 x.y) ∧ w.cell? ⟨D, 1, none⟩ = some (.int .i64 x.m) ∧ w.cell? ⟨D, 2, none⟩ = some (.int .i64 x.d) ∧ w.cell? ⟨D, 3, none⟩ = some (.int .i64 x.h) ∧ w.cell? ⟨D, 4, none⟩ = some (.int .i64 x.i) ∧ w.cell? ⟨D, 5, none⟩ = some (.int .i64 x.s) ∧ w.cell? ⟨D, 6, none⟩ = some (.int .i64 x.c) :=
  ⟨h.d.cell 0, h.d.cell 1, h.d.cell 2, h.d.cell 3, h.d.cell 4, h.d.cell 5, h.d.cell 6⟩
theorem St.hcell {ref year zone : Int} {first : Bool} (h : St s B D H q x (hintsA ref year zone first) w0 w) : w.cell? ⟨H, 0, none⟩ = some (.int .i64 ref) ∧ w.cell? ⟨H, 1, none⟩ = some (.int .i64 year) ∧ w.cell? ⟨H, 2, none⟩ = some (.int .i64 zone) ∧ w.cell? ⟨H, 3, none⟩ = some (.bool first) :=
  ⟨h.h.cell 0, h.h.cell 1, h.h.cell 2, h.h.cell 3⟩
theorem St.clock (h : St s B D H q x hv w0 w) : Calls Tryd.prog 76 #[cPtr B, .pointer (some ⟨D, 0, none⟩)] w fun e w' => e = .returned (.tuple #[]) ∧ St s B D H (clockC s q) ⟨x.y, x.m, x.d, clkH s q, clkI s q, clkS s q, clkM s q⟩ hv w0 w' := by
  have h1 := h.hD; have h3 := h.hB
  exact (clock_any s B D q x.y x.m x.d x.h x.i x.s x.c w h.c h.d (by omega)).mono fun e w' ⟨he, hc, hd, hf⟩ => ⟨he, h.clk hc hd hf⟩
/-- What a form hands back. -/
def FmOut (s : ByteArray) (B : Nat) (V E : Int) (P : Nat) (w : World) (e : Ending) (w' : World) : Prop :=
  e = .returned (.tuple #[.int .i64 V, .int .i64 E]) ∧ (∃ b, CAt s B ⟨P, b⟩ w') ∧ Fr B w w'
end Go.Proofs.YtofomlbhbbhdjaaDoor
