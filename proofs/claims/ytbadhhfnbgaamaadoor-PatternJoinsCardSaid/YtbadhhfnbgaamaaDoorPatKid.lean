/- The contract of the formatter's kid, given that of node on the same node; and the plain facts that node's walk needs. -/
import Derived.Test.YtbadhhfnbgaamaaDoorPatFmi
import Derived.Test.YtbadhhfnbgaamaaDoorPatTrip
import Derived.Test.YtbadhhfnbgaamaaDoorPatParen
import Derived.Test.YtbadhhfnbgaamaaDoorPatVis
namespace Go.Proofs.YtbadhhfnbgaamaaDoor
open Go.RowKit

structure FCtx (B b : Nat) (l : List UInt8) (er : Int) (w0 w : World) : Prop where
  fm : Fm B b l er w
  bel : Below w0.heap.size w0 w
  hB : w0.heap.size ≤ B
  pow : Pow10 w0
theorem FCtx.step {B b : Nat} {l m : List UInt8} {er er' : Int} {w0 w w' : World} (h : FCtx B b l er w0 w) (k : WOut B b m er' w w') : FCtx B b m er' w0 w' :=
  ⟨k.1, h.bel.trans (k.2.1.mono h.hB), h.hB, h.pow⟩
theorem FCtx.size {B b : Nat} {l : List UInt8} {er : Int} {w0 w : World} (h : FCtx B b l er w0 w) : B ≤ w.heap.size ∧ b < w.heap.size := by have := h.fm.lo; have := h.fm.lt; omega
theorem FCtx.alloc {B b : Nat} {l : List UInt8} {er : Int} {w0 w : World} (h : FCtx B b l er w0 w) (o : Obj) : FCtx B b l er w0 (w.alloc o) :=
  ⟨h.fm.alloc o, h.bel.alloc (Nat.le_trans h.hB h.size.1) o, h.hB, h.pow⟩
theorem powBelow {w W : World} (h : Pow10 w) (hb : Below w.heap.size w W) : Pow10 W := (Lib.tabBelow_of_tabIs h) W hb
theorem FCtx.pows {B b : Nat} {l : List UInt8} {er : Int} {w0 w : World} (h : FCtx B b l er w0 w) : ∀ w', Below B w w' → Pow10 w' := fun _ hb => powBelow h.pow (h.bel.trans (hb.mono h.hB))
theorem FCtx.ranges {B b lo : Nat} {l : List UInt8} {er : Int} {w0 w : World} {v : Value} {rs : List (Nat × Nat)} (h : FCtx B b l er w0 w) (hr : RangesIn lo w0 v rs) : RgKept B b lo w v rs :=
  fun _ hb _ => hr.keeps (keeps_below (h.bel.trans (hb.mono h.hB)))
theorem FCtx.cell {B b : Nat} {l : List UInt8} {er : Int} {w0 w : World} (h : FCtx B b l er w0 w) {g o : Nat} {v : Value} (hc : w0.cell? ⟨g, o, none⟩ = some v) : w.cell? ⟨g, o, none⟩ = some v :=
  keeps_below h.bel (lo := 0) g o v (Nat.zero_le _) hc
theorem WOut.alloc0 {B b : Nat} {l : List UInt8} {er : Int} {w w1 : World} (h : WOut B b l er w w1) (o : Obj) : WOut B b l er w (w1.alloc o) :=
  ⟨h.1.alloc o, h.2.1.alloc h.2.2.2 o, h.2.2.1.alloc o, Nat.le_trans h.2.2.2 (by simp)⟩

def NodeW (t : Nd) : Prop := ∀ (B b lo : Nat) (l : List UInt8) (er : Int) (v : Value) (w0 w : World), NodeIn lo w0 t v → FCtx B b l er w0 w → okT t → l.length + (fmtN t).length + 5000 ≤ 1000000 →
  Calls Tryd.prog 14 #[.pointer (some ⟨b, 0, none⟩), v] w fun e w' => e = .returned (.tuple #[]) ∧ WOut B b (l ++ fmtN t) (errF (errN t) er) w w'

def NBox (w : World) (X : Nat) (v0 v1 v2 v3 v4 v5 : Value) : Prop := w.heap[X]? = some (.cells #[v0, v1, v2, v3, v4, v5] 27 (0, 0))
theorem NBox.cells {w : World} {X : Nat} {v0 v1 v2 v3 v4 v5 : Value} (h : NBox w X v0 v1 v2 v3 v4 v5) :
    w.cell? ⟨X, 0, none⟩ = some v0 ∧ w.cell? ⟨X, 1, none⟩ = some v1 ∧ w.cell? ⟨X, 2, none⟩ = some v2 ∧ w.cell? ⟨X, 3, none⟩ = some v3 ∧ w.cell? ⟨X, 4, none⟩ = some v4 ∧ w.cell? ⟨X, 5, none⟩ = some v5 := by
  unfold NBox at h
  refine ⟨?_, ?_, ?_, ?_, ?_, ?_⟩ <;> (rw [Lib.cell_of_heap h]; rfl)
theorem NBox.new (w : World) (v0 v1 v2 v3 v4 v5 : Value) : NBox (w.alloc (.cells #[v0, v1, v2, v3, v4, v5] 27)) w.heap.size v0 v1 v2 v3 v4 v5 := heap_alloc_new _ _
theorem NBox.others {w w' : World} {X b : Nat} {v0 v1 v2 v3 v4 v5 : Value} (h : NBox w X v0 v1 v2 v3 v4 v5) (ho : Others b w w') (hX : X ≠ b) : NBox w' X v0 v1 v2 v3 v4 v5 :=
  ho X _ h (by simpa using hX) (by intro c fz e; simp at e)
theorem NBox.alloc {w : World} {X : Nat} {v0 v1 v2 v3 v4 v5 : Value} (h : NBox w X v0 v1 v2 v3 v4 v5) (o : Obj) : NBox (w.alloc o) X v0 v1 v2 v3 v4 v5 :=
  (Lib.alloc_old w o X (Array.getElem?_eq_some_iff.1 h).1).trans h
/-- The node's value, opened. -/
theorem NodeIn.open {lo : Nat} {w : World} {t : Nd} {v : Value} (h : NodeIn lo w t v) : ∃ rv kv, v = .agg #[.int .i64 t.op, rv, .string t.nm, kv, .int .i64 t.mn, .int .i64 t.mx] := by
  cases t
  unfold NodeIn at h
  obtain ⟨rv, ka, kc, hv, -⟩ := h
  exact ⟨_, _, hv⟩
theorem piece_len (lo : List Int) (t : Nd) : (fmtN t).length ≤ (piece lo t).length ∧ (piece lo t).length ≤ (fmtN t).length + 2 := by
  unfold piece parF
  split
  · simp only [List.length_append, List.length_cons, List.length_nil]; omega
  · omega

set_option maxRecDepth 100000 in
set_option maxHeartbeats 8000000 in
theorem kid_fm (t : Nd) (hn : NodeW t) (L : List Int) (g c : Nat) (B b lo : Nat) (l : List UInt8) (er : Int) (v : Value) (w0 w : World) (hin : NodeIn lo w0 t v) (hx : FCtx B b l er w0 w) (ho : okT t)
    (hlen : l.length + (piece L t).length + 5000 ≤ 1000000) (hL : L.length ≤ 100) (hc : ∀ i (h : i < L.length), w.cell? ⟨g, i, none⟩ = some (.int .i64 L[i])) :
    Calls Tryd.prog 24 #[.pointer (some ⟨b, 0, none⟩), v, .slice (some ⟨g, 0, none⟩) L.length c] w fun e w' => e = .returned (.tuple #[]) ∧ WOut B b (l ++ piece L t) (errF (errN t) er) w w' := by
  obtain ⟨rv, kv, rfl⟩ := hin.open
  have hpl := piece_len L t
  have hctx1 := hx.alloc (.cells #[.int .i64 t.op, rv, .string t.nm, kv, .int .i64 t.mn, .int .i64 t.mx] 27)
  have hc1 : ∀ i (h : i < L.length), (w.alloc (.cells #[.int .i64 t.op, rv, .string t.nm, kv, .int .i64 t.mn, .int .i64 t.mx] 27)).cell? ⟨g, i, none⟩ = some (.int .i64 L[i]) := fun i h => keeps_alloc 0 w _ g i _ (Nat.zero_le _) (hc i h)
  have hcon := contains_int L t.op g c _ hL hc1
  have hbox := NBox.new w (.int .i64 t.op) rv (.string t.nm) kv (.int .i64 t.mn) (.int .i64 t.mx)
  have hX : w.heap.size ≠ b := by have := hx.size; omega
  have hw0 := (WOut.keep hx.fm).alloc0 (.cells #[.int .i64 t.op, rv, .string t.nm, kv, .int .i64 t.mn, .int .i64 t.mx] 27)
  have hp : piece L t = if isLoose L t.op = true then 40 :: fmtN t ++ [41] else fmtN t := rfl
  obtain ⟨bl, hbl⟩ : ∃ x, isLoose L t.op = x := ⟨_, rfl⟩
  rw [hbl] at hcon hp
  obtain ⟨op, hop⟩ : ∃ x, t.op = x := ⟨_, rfl⟩
  obtain ⟨nm, hnm⟩ : ∃ x, t.nm = x := ⟨_, rfl⟩
  obtain ⟨mn, hmn⟩ : ∃ x, t.mn = x := ⟨_, rfl⟩
  obtain ⟨mx, hmx⟩ : ∃ x, t.mx = x := ⟨_, rfl⟩
  rw [hop, hnm, hmn, hmx] at hin hctx1 hcon hbox hw0 ⊢
  obtain ⟨ll, hll⟩ : ∃ x, L.length = x := ⟨_, rfl⟩
  rw [hll] at hcon ⊢
  obtain ⟨w1, hw1⟩ : ∃ x, w.alloc (.cells #[.int .i64 op, rv, .string nm, kv, .int .i64 mn, .int .i64 mx] 27) = x := ⟨_, rfl⟩
  have HE := Lib.hid hw1
  rw [hw1] at hctx1 hcon hbox hw0
  obtain ⟨s0, s1, s2, s3, s4, s5⟩ := hbox.cells
  have hcall1 := hn B b lo l er _ w0 w1 hin hctx1 ho (by omega)
  have hN := fun (l' : List UInt8) W (hW : FCtx B b l' er w0 W) (hlen : l'.length + (fmtN t).length + 5000 ≤ 1000000) => hn B b lo l' er _ w0 W hin hW ho hlen
  obtain ⟨ft, hft⟩ : ∃ x, fmtN t = x := ⟨_, rfl⟩
  obtain ⟨et, het⟩ : ∃ x, errN t = x := ⟨_, rfl⟩
  rw [hft, het] at hcall1 hN
  rw [het]
  rw [hft] at hp hpl
  have H := Lib.hid (And.intro hcon (And.intro hcall1 (And.intro hN (And.intro hctx1 (And.intro hbox (And.intro hw0 hp))))))
  clear hcon hcall1 hN hctx1 hbox hc hc1 hin hx ho hn hbl hop hnm hmn hmx hll hft het hp hL
  rw [← hw1] at s0 s1 s2 s3 s4 s5
  clear hw1
  cases bl with
  | false =>
    go_enter Tryd.func24, Tryd.ntmps24
    go_wp2_with fail
    rw [HE.out]
    rw [HE.out] at s0 s1 s2 s3 s4 s5
    refine (H.out.1).mono ?_
    rintro e w2 ⟨rfl, rfl⟩
    go_wp2_with fail
    refine (H.out.2.1).mono ?_
    rintro e w2 ⟨rfl, hw2⟩
    have K := Lib.hid hw2
    clear hw2
    go_wp2
    refine bodyPost_ret (results_none rfl _ _ _) rfl ?_
    refine ⟨rfl, ?_⟩
    rw [H.out.2.2.2.2.2.2]
    exact H.out.2.2.2.2.2.1.trans K.out
  | true =>
    go_enter Tryd.func24, Tryd.ntmps24
    go_wp2_with fail
    rw [HE.out]
    rw [HE.out] at s0 s1 s2 s3 s4 s5
    refine (H.out.1).mono ?_
    rintro e w2 ⟨rfl, rfl⟩
    have hb1 := wByte B b l er 40 40 rfl (by decide) w2 H.out.2.2.2.1.fm (by omega)
    have HB1 := Lib.hid hb1
    clear hb1
    go_wp2_with fail
    refine (HB1.out).mono ?_
    rintro e w3 ⟨rfl, hw3⟩
    have hlp : ft.length + 2 ≤ (piece L t).length := by rw [H.out.2.2.2.2.2.2]; simp
    have hbox3 := H.out.2.2.2.2.1.others hw3.2.2.1 hX
    obtain ⟨p0, p1, p2, p3, p4, p5⟩ := hbox3.cells
    have hc3 := H.out.2.2.2.1.step hw3
    have hn3 := H.out.2.2.1 _ w3 hc3 (by rw [List.length_append, List.length_singleton]; omega)
    have K3 := Lib.hid (And.intro hw3 hn3)
    clear hw3 hbox3 hc3 hn3
    go_wp2_with fail
    refine (K3.out.2).mono ?_
    rintro e w4 ⟨rfl, hw4⟩
    have hb4 := wByte B b _ _ 41 41 rfl (by decide) w4 hw4.1 (by rw [List.length_append, List.length_append, List.length_singleton]; omega)
    have K4 := Lib.hid (And.intro hw4 hb4)
    clear hw4 hb4
    go_wp2_with fail
    refine (K4.out.2).mono ?_
    rintro e w5 ⟨rfl, hw5⟩
    have K5 := Lib.hid hw5
    clear hw5
    go_wp2
    go_end0
    refine ⟨rfl, ?_⟩
    rw [H.out.2.2.2.2.2.2]
    have := ((H.out.2.2.2.2.2.1.trans K3.out.1).trans K4.out.1).trans K5.out
    simpa using this
end Go.Proofs.YtbadhhfnbgaamaaDoor
