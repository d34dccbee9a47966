/- The contract of the parser's parenthesis, where choice keeps its own. -/
import Derived.Test.YtfmoidhpafpgnaaPatName
import Derived.Deep.Heap
namespace Go.Proofs.Ytfmoidhpafpgnaa
open Go.RowKit

theorem keeps_alloc (lo : Nat) (w : World) (o : Obj) : Keeps lo w (w.alloc o) := keeps_grown_none (World.grownBy_alloc w o none)
theorem one_kid (lo : Nat) (w : World) (k : Nd) (op : Int) (rv : Value) (nm : ByteArray) (kv : Value) (mn mx : Int) (t : TypeId) (h : NodeIn lo w k (.agg (ndVals op rv nm kv mn mx))) :
    KidsIn lo (w.alloc (.cells #[.int .i64 op, rv, .string nm, kv, .int .i64 mn, .int .i64 mx] t)) [k] w.heap.size 0 := by
  unfold KidsIn
  refine ⟨⟨op, rv, nm, kv, mn, mx, NodeIn.keeps (keeps_alloc lo w _) k _ h, ?_, ?_, ?_, ?_, ?_, ?_⟩, by unfold KidsIn; trivial⟩
  all_goals (rw [Lib.cell_of_heap (heap_alloc_new _ _)]; rfl)
theorem small64 {n : Int} (h : -9223372036854775808 ≤ n ∧ n ≤ 9223372036854775807) : i64In n := h

/-- A node as a struct of six. -/
theorem NodeIn.shape {lo : Nat} {w : World} {t : Nd} {v : Value} (h : NodeIn lo w t v) : ∃ ra rc ka kc, v = .agg #[.int .i64 t.op, .slice ra t.rs.length rc, .string t.nm, .slice ka t.kids.length kc, .int .i64 t.mn, .int .i64 t.mx] := by
  obtain ⟨op, rs, nm, kids, mn, mx⟩ := t
  unfold NodeIn at h
  obtain ⟨rv, ka, kc, hv, -, -, -, -, -, ⟨ra, rc, hr, -⟩, -⟩ := h
  exact ⟨ra, rc, ka, kc, by rw [hv, hr]; rfl⟩

/-- What a node-reading method of the parser keeps. -/
def NodeOut (s : ByteArray) (B lo : Nat) (w : World) (r : Nd × PS) (e : Ending) (w' : World) : Prop :=
  ∃ v, e = .returned v ∧ NodeIn lo w' r.1 v ∧ PAt s B r.2 w' ∧ Fr B w w'
def ChOk (s : ByteArray) (n : Nat) (ch : PS → Nd × PS) : Prop :=
  ∀ (p : PS) (B lo : Nat) (w : World), p.er = 0 → s.size - p.pos < n → PAt s B p w → B < lo → lo ≤ w.heap.size →
    Adv s p (ch p).2 ∧ Calls Try.prog 22 #[pPtr B] w (NodeOut s B lo w (ch p))

theorem Fr.setNew {B : Nat} {a w : World} (h : Fr B a w) {p : Addr} (hp : a.heap.size ≤ p.block) (u : Value) : Fr B a (w.setCell p u) :=
  ⟨h.os, h.tape, h.output, by have := h.size; simpa [World.setCell] using this, fun i hi hn => (Below.heap_setCell w p u i (by omega)).trans (h.block i hi hn)⟩
theorem keeps_setCell {lo : Nat} {a w : World} (h : Keeps lo a w) {p : Addr} (hp : p.block < lo) (u : Value) : Keeps lo a (w.setCell p u) := fun b o v hl hc => by
  have := h b o v hl hc
  rw [← this]
  exact World.cell?_of_block (w := w) (Below.heap_setCell w p u b (by omega))
/-- A block of six cells. -/
def SixAt (w : World) (b : Nat) (v0 v1 v2 v3 v4 v5 : Value) : Prop := ∃ t, w.heap[b]? = some (.cells #[v0, v1, v2, v3, v4, v5] t (0, 0))
theorem SixAt.cells {w : World} {b : Nat} {v0 v1 v2 v3 v4 v5 : Value} (h : SixAt w b v0 v1 v2 v3 v4 v5) :
    w.cell? ⟨b, 0, none⟩ = some v0 ∧ w.cell? ⟨b, 1, none⟩ = some v1 ∧ w.cell? ⟨b, 2, none⟩ = some v2 ∧ w.cell? ⟨b, 3, none⟩ = some v3 ∧ w.cell? ⟨b, 4, none⟩ = some v4 ∧ w.cell? ⟨b, 5, none⟩ = some v5 := by
  obtain ⟨t, h⟩ := h
  refine ⟨?_, ?_, ?_, ?_, ?_, ?_⟩ <;> (rw [Lib.cell_of_heap h]; rfl)
theorem SixAt.free {w : World} {b : Nat} {v0 v1 v2 v3 v4 v5 : Value} (h : SixAt w b v0 v1 v2 v3 v4 v5) :
    w.frozen? ⟨b, 0, none⟩ = false ∧ w.frozen? ⟨b, 1, none⟩ = false ∧ w.frozen? ⟨b, 2, none⟩ = false ∧ w.frozen? ⟨b, 3, none⟩ = false ∧ w.frozen? ⟨b, 4, none⟩ = false ∧ w.frozen? ⟨b, 5, none⟩ = false := by
  obtain ⟨t, h⟩ := h
  exact ⟨Lib.frozen_of_heap h 0, Lib.frozen_of_heap h 1, Lib.frozen_of_heap h 2, Lib.frozen_of_heap h 3, Lib.frozen_of_heap h 4, Lib.frozen_of_heap h 5⟩
theorem SixAt.lt {w : World} {b : Nat} {v0 v1 v2 v3 v4 v5 : Value} (h : SixAt w b v0 v1 v2 v3 v4 v5) : b < w.heap.size := by
  obtain ⟨t, h⟩ := h
  exact (Array.getElem?_eq_some_iff.1 h).1
theorem SixAt.new (w : World) (v0 v1 v2 v3 v4 v5 : Value) (t : TypeId) : SixAt (w.alloc (.cells #[v0, v1, v2, v3, v4, v5] t)) w.heap.size v0 v1 v2 v3 v4 v5 := ⟨t, heap_alloc_new _ _⟩
theorem SixAt.fr {w w' : World} {b B : Nat} {v0 v1 v2 v3 v4 v5 : Value} (h : SixAt w b v0 v1 v2 v3 v4 v5) (k : Fr B w w') (hb : b ≠ B) : SixAt w' b v0 v1 v2 v3 v4 v5 := by
  have hlt := h.lt
  obtain ⟨t, h⟩ := h
  exact ⟨t, (World.grownBy.block k b hlt (by simpa using hb)).trans h⟩
theorem PAt.setOther {s : ByteArray} {B : Nat} {p : PS} {w : World} (h : PAt s B p w) {q : Addr} (hq : q.block ≠ B) (u : Value) : PAt s B p (w.setCell q u) :=
  ⟨(Below.heap_setCell w q u B (fun e => hq e.symm)).trans h.hp, h.le, h.sz⟩

/-- A struct of six stored. -/
def put6 (w : World) (R : Nat) (v0 v1 v2 v3 v4 v5 : Value) : World :=
  (((((w.setCell ⟨R, 0, none⟩ v0).setCell ⟨R, 1, none⟩ v1).setCell ⟨R, 2, none⟩ v2).setCell ⟨R, 3, none⟩ v3).setCell ⟨R, 4, none⟩ v4).setCell ⟨R, 5, none⟩ v5
theorem put6_fr {B R : Nat} {a w : World} (h : Fr B a w) (hp : a.heap.size ≤ R) (v0 v1 v2 v3 v4 v5 : Value) : Fr B a (put6 w R v0 v1 v2 v3 v4 v5) :=
  (((((h.setNew hp _).setNew hp _).setNew hp _).setNew hp _).setNew hp _).setNew hp _
theorem put6_keeps {lo R : Nat} {a w : World} (h : Keeps lo a w) (hp : R < lo) (v0 v1 v2 v3 v4 v5 : Value) : Keeps lo a (put6 w R v0 v1 v2 v3 v4 v5) :=
  keeps_setCell (keeps_setCell (keeps_setCell (keeps_setCell (keeps_setCell (keeps_setCell h hp _) hp _) hp _) hp _) hp _) hp _
theorem put6_pat {s : ByteArray} {B : Nat} {p : PS} {w : World} {R : Nat} (h : PAt s B p w) (hq : R ≠ B) (v0 v1 v2 v3 v4 v5 : Value) : PAt s B p (put6 w R v0 v1 v2 v3 v4 v5) :=
  (((((h.setOther hq _).setOther hq _).setOther hq _).setOther hq _).setOther hq _).setOther hq _

theorem cap_node (lo : Nat) (w : World) (k : Nd) (nm : ByteArray) (op : Int) (rv : Value) (nn : ByteArray) (kv : Value) (mn mx : Int) (t : TypeId) (h : NodeIn lo w k (.agg (ndVals op rv nn kv mn mx))) (hlo : lo ≤ w.heap.size) (hn : nm.size ≤ maxLen) :
    NodeIn lo (w.alloc (.cells #[.int .i64 op, rv, .string nn, kv, .int .i64 mn, .int .i64 mx] t)) (ndCap nm k) (.agg #[.int .i64 5, .slice none 0 0, .string nm, .slice (some ⟨w.heap.size, 0, none⟩) 1 1, .int .i64 0, .int .i64 0]) := by
  unfold ndCap NodeIn
  exact ⟨.slice none 0 0, some ⟨w.heap.size, 0, none⟩, 1, rfl, small64 (by omega), small64 (by omega), small64 (by omega), hn, by simp [maxLen], no_ranges _ _, .inr ⟨w.heap.size, 0, rfl, hlo, one_kid lo w k op rv nn kv mn mx t h⟩⟩

set_option maxRecDepth 100000 in
set_option maxHeartbeats 2000000 in
theorem paren_any (s : ByteArray) (n : Nat) (ch : PS → Nd × PS) (hch : ChOk s n ch) (p : PS) (B lo : Nat) (w : World) (he : p.er = 0) (hn : s.size - p.pos < n) (h : PAt s B p w) (hB : B < lo) (hlo : lo ≤ w.heap.size) :
    Adv s p (parenS s ch p).2 ∧ Calls Try.prog 47 #[pPtr B] w (NodeOut s B lo w (parenS s ch p)) := by
  cases hc : capS s p with
  | none =>
    have hcap := fun W hW => cap_no s B p W hW hc
    have hv : parenS s ch p = ((ch p).1, expectS s (ch p).2 41) := by unfold parenS; rw [hc]
    rw [hv]
    have hcho := fun W (hW : PAt s B p W) hl => (hch p B (w.heap.size + 1) W he hn hW (by omega) hl).2
    have hadv := (hch p B lo w he hn h hB hlo).1
    obtain ⟨⟨k, p1⟩, hr⟩ : ∃ r, ch p = r := ⟨_, rfl⟩
    rw [hr] at hcho hadv ⊢
    simp only at hadv ⊢
    refine ⟨hadv.trans (expect_advS 41 (by omega) hadv.le).adv, ?_⟩
    have hex := fun W hW => expect_any s B p1 41 (by omega) W hW
    have H := Lib.hid (And.intro hcap (And.intro hcho hex))
    clear hcap hcho hex hv hr hc hch hadv he
    unfold pPtr at H ⊢
    go_enter Try.func47, Try.ntmps47
    go_wp2_with fail
    refine (H.out.1 _ (h.alloc _)).mono ?_
    rintro e w1 ⟨rfl, h1, hf1⟩
    go_wp2_with fail
    refine (H.out.2.1 _ h1 (by have := hf1.size; simp at this; omega)).mono ?_
    rintro e w2 ⟨v, rfl, hv, h2, hf2⟩
    have hvk := hv
    obtain ⟨ra, rc, ka, kc, rfl⟩ := hvk.shape
    clear hvk
    go_wp2_with fail
    have hz1 := hf1.size
    have hz2 := hf2.size
    rw [Go.Deep.nblk_alloc] at hz1
    have hR0 := (SixAt.new w (.int .i64 0) (.slice none 0 0) (.string ⟨#[]⟩) (.slice none 0 0) (.int .i64 0) (.int .i64 0) 25)
    have hR2 := (hR0.fr hf1 (by omega)).fr hf2 (by omega)
    have hK := SixAt.new w2 (.int .i64 k.op) (.slice ra k.rs.length rc) (.string k.nm) (.slice ka k.kids.length kc) (.int .i64 k.mn) (.int .i64 k.mx) 25
    have hRa := hR2.fr ((Fr.refl B w2).alloc (.cells #[.int .i64 k.op, .slice ra k.rs.length rc, .string k.nm, .slice ka k.kids.length kc, .int .i64 k.mn, .int .i64 k.mx] 25)) (by omega)
    refine (H.out.2.2 _ (h2.alloc _)).mono ?_
    rintro e w3 ⟨rfl, h3, hf3⟩
    have hK3 := hK.fr hf3 (by omega)
    have hR3 := hRa.fr hf3 (by omega)
    obtain ⟨k0, k1, k2, k3, k4, k5⟩ := hK3.cells
    obtain ⟨r0, r1, r2, r3, r4, r5⟩ := hR3.cells
    obtain ⟨q0, q1, q2, q3, q4, q5⟩ := hR3.free
    go_wp2
    refine bodyPost_ret (v := .agg #[.int .i64 k.op, .slice ra k.rs.length rc, .string k.nm, .slice ka k.kids.length kc, .int .i64 k.mn, .int .i64 k.mx]) (by simp [results, Try.results47, go_sem, r0, r1, r2, r3, r4, r5]) rfl ?_
    have hfr : Fr B w w3 := (((((Fr.refl B w).alloc _).trans hf1).trans hf2).alloc _).trans hf3
    exact ⟨_, rfl, NodeIn.lower (by omega) _ _ (NodeIn.keeps (put6_keeps ((keeps_alloc _ w2 _).trans (hf3.keeps (by omega))) (by omega) _ _ _ _ _ _) _ _ hv), put6_pat h3 (by omega) _ _ _ _ _ _, put6_fr hfr (Nat.le_refl _) _ _ _ _ _ _⟩
  | some o =>
    obtain ⟨hle, -⟩ := cap_yes s B p o w h hc
    have hcap := fun W hW => (cap_yes s B p o W hW hc).2
    have hv : parenS s ch p = (ndCap (s.extract p.pos (p.pos + o)) (ch ⟨p.pos + o + 1, p.er⟩).1, expectS s (ch ⟨p.pos + o + 1, p.er⟩).2 41) := by unfold parenS; rw [hc]
    rw [hv]
    have hcho := fun W (hW : PAt s B ⟨p.pos + o + 1, p.er⟩ W) hl => (hch ⟨p.pos + o + 1, p.er⟩ B (w.heap.size + 1) W he (by simp only; omega) hW (by omega) hl).2
    have hw0 : PAt s B ⟨p.pos + o + 1, p.er⟩ (w.setCell ⟨B, 1, none⟩ (.int .i64 ((p.pos + o + 1 : Nat) : Int))) := h.setPos _ _ rfl hle
    have hadv := (hch ⟨p.pos + o + 1, p.er⟩ B lo _ he (by simp only; omega) hw0 hB (by simp [World.setCell]; omega)).1
    have hadv0 : Adv s p ⟨p.pos + o + 1, p.er⟩ := ⟨hle, fun x => ⟨x, by simp only; omega⟩⟩
    clear hw0
    obtain ⟨⟨k, p1⟩, hr⟩ : ∃ r, ch ⟨p.pos + o + 1, p.er⟩ = r := ⟨_, rfl⟩
    rw [hr] at hcho hadv ⊢
    simp only at hadv ⊢
    refine ⟨(hadv0.trans hadv).trans (expect_advS 41 (by omega) hadv.le).adv, ?_⟩
    have hex := fun W hW => expect_any s B p1 41 (by omega) W hW
    obtain ⟨N, hN⟩ : ∃ N, s.extract p.pos (p.pos + o) = N := ⟨_, rfl⟩
    have hNl : N.size ≤ maxLen := by rw [← hN]; simp [ByteArray.size_extract, maxLen]; have := h.sz; omega
    rw [hN] at hcap ⊢
    have H := Lib.hid (And.intro hcap (And.intro hcho hex))
    clear hcap hcho hex hv hr hc hch hadv hadv0 he hN
    unfold pPtr at H ⊢
    go_enter Try.func47, Try.ntmps47
    go_wp2_with fail
    refine (H.out.1 _ (h.alloc _)).mono ?_
    rintro e w1 ⟨rfl, h1, hf1⟩
    go_wp2_with fail
    refine (H.out.2.1 _ h1 (by have := hf1.size; simp at this; omega)).mono ?_
    rintro e w2 ⟨v, rfl, hv, h2, hf2⟩
    have hvk := hv
    obtain ⟨ra, rc, ka, kc, rfl⟩ := hvk.shape
    clear hvk
    go_wp2_with fail
    have hz1 := hf1.size
    have hz2 := hf2.size
    rw [Go.Deep.nblk_alloc] at hz1
    have hR0 := (SixAt.new w (.int .i64 0) (.slice none 0 0) (.string ⟨#[]⟩) (.slice none 0 0) (.int .i64 0) (.int .i64 0) 25)
    have hR2 := (hR0.fr hf1 (by omega)).fr hf2 (by omega)
    have hK := SixAt.new w2 (.int .i64 k.op) (.slice ra k.rs.length rc) (.string k.nm) (.slice ka k.kids.length kc) (.int .i64 k.mn) (.int .i64 k.mx) 25
    have hRa := hR2.fr ((Fr.refl B w2).alloc (.cells #[.int .i64 k.op, .slice ra k.rs.length rc, .string k.nm, .slice ka k.kids.length kc, .int .i64 k.mn, .int .i64 k.mx] 25)) (by omega)
    refine (H.out.2.2 _ (h2.alloc _)).mono ?_
    rintro e w3 ⟨rfl, h3, hf3⟩
    have hK3 := hK.fr hf3 (by omega)
    have hR3 := hRa.fr hf3 (by omega)
    have hz3 := hf3.size
    rw [Go.Deep.nblk_alloc] at hz3
    have hR4 := hR3.fr ((Fr.refl B w3).alloc (.cells #[.int .i64 k.op, .slice ra k.rs.length rc, .string k.nm, .slice ka k.kids.length kc, .int .i64 k.mn, .int .i64 k.mx] 25)) (by omega)
    obtain ⟨k0, k1, k2, k3, k4, k5⟩ := hK3.cells
    obtain ⟨r0, r1, r2, r3, r4, r5⟩ := hR4.cells
    obtain ⟨q0, q1, q2, q3, q4, q5⟩ := hR4.free
    go_wp2
    refine bodyPost_ret (v := .agg #[.int .i64 5, .slice none 0 0, .string N, .slice (some ⟨w3.heap.size, 0, none⟩) 1 1, .int .i64 0, .int .i64 0]) (by simp [results, Try.results47, go_sem, r0, r1, r2, r3, r4, r5]) rfl ?_
    have hfr : Fr B w w3 := (((((Fr.refl B w).alloc _).trans hf1).trans hf2).alloc _).trans hf3
    have hn3 := NodeIn.keeps ((keeps_alloc _ w2 _).trans (hf3.keeps (by omega))) _ _ hv
    exact ⟨_, rfl, NodeIn.lower (by omega) _ _ (NodeIn.keeps (put6_keeps (keeps_refl _ _) (by omega) _ _ _ _ _ _) _ _ (cap_node (w.heap.size + 1) w3 k N _ _ _ _ _ _ 25 hn3 (by omega) hNl)), put6_pat (h3.alloc _) (by omega) _ _ _ _ _ _, put6_fr (hfr.alloc _) (Nat.le_refl _) _ _ _ _ _ _⟩
end Go.Proofs.Ytfmoidhpafpgnaa
