/- How a pattern's node lies in memory, and what keeps it there. -/
import Derived.Test.YtfkgicakiapmaaaPatSpec
import Derived.WalkKit
import Derived.ProofKit
import Derived.Below
import Derived.Laws.AppendOwn
import Derived.Lib.Builder
import Derived.Lib.OthersKept
import Derived.Lib.Hide
import Derived.Deep.Draws
namespace Go.Proofs.Ytfkgicakiapmaaa
open Go.RowKit

/-- A slice of ranges, in blocks from lo on. -/
def RangesIn (lo : Nat) (w : World) (v : Value) (rs : List (Nat × Nat)) : Prop :=
  ∃ a c, v = .slice a rs.length c ∧ rs.length ≤ maxLen ∧ (∀ x ∈ rs, x.1 < 256 ∧ x.2 < 256) ∧
    ∀ i (h : i < rs.length), ∃ b o, a = some ⟨b, o, none⟩ ∧ lo ≤ b ∧ w.cell? ⟨b, o + i * 2, none⟩ = some (.int .u8 (rs[i].1 : Nat)) ∧ w.cell? ⟨b, o + i * 2 + 1, none⟩ = some (.int .u8 (rs[i].2 : Nat))

/-- The cells of a node. -/
def ndVals (op : Int) (rv : Value) (nm : ByteArray) (kv : Value) (mn mx : Int) : Array Value := #[.int .i64 op, rv, .string nm, kv, .int .i64 mn, .int .i64 mx]
def i64In (n : Int) : Prop := -9223372036854775808 ≤ n ∧ n ≤ 9223372036854775807

mutual
def NodeIn (lo : Nat) (w : World) : Nd → Value → Prop
  | .mk op rs nm kids mn mx, v => ∃ rv ka kc, v = .agg (ndVals op rv nm (.slice ka kids.length kc) mn mx) ∧ i64In op ∧ i64In mn ∧ i64In mx ∧ nm.size ≤ maxLen ∧ kids.length ≤ maxLen ∧ RangesIn lo w rv rs ∧
      (kids = [] ∨ ∃ b o, ka = some ⟨b, o, none⟩ ∧ lo ≤ b ∧ KidsIn lo w kids b o)
def KidsIn (lo : Nat) (w : World) : List Nd → Nat → Nat → Prop
  | [], _, _ => True
  | k :: r, b, o => (∃ op rv nm kv mn mx, NodeIn lo w k (.agg (ndVals op rv nm kv mn mx)) ∧ w.cell? ⟨b, o, none⟩ = some (.int .i64 op) ∧ w.cell? ⟨b, o + 1, none⟩ = some rv ∧ w.cell? ⟨b, o + 2, none⟩ = some (.string nm) ∧
      w.cell? ⟨b, o + 3, none⟩ = some kv ∧ w.cell? ⟨b, o + 4, none⟩ = some (.int .i64 mn) ∧ w.cell? ⟨b, o + 5, none⟩ = some (.int .i64 mx)) ∧ KidsIn lo w r b (o + 6)
end

/-- What keeps nodes: old cells from lo on read as they did. -/
def Keeps (lo : Nat) (w w' : World) : Prop := ∀ b o v, lo ≤ b → w.cell? ⟨b, o, none⟩ = some v → w'.cell? ⟨b, o, none⟩ = some v

theorem RangesIn.keeps {lo : Nat} {w w' : World} {v : Value} {rs : List (Nat × Nat)} (h : RangesIn lo w v rs) (k : Keeps lo w w') : RangesIn lo w' v rs := by
  obtain ⟨a, c, hv, hl, hb, hc⟩ := h
  refine ⟨a, c, hv, hl, hb, fun i hi => ?_⟩
  obtain ⟨b, o, ha, hlo, h1, h2⟩ := hc i hi
  exact ⟨b, o, ha, hlo, k _ _ _ hlo h1, k _ _ _ hlo h2⟩
theorem RangesIn.lower {lo lo' : Nat} {w : World} {v : Value} {rs : List (Nat × Nat)} (h : RangesIn lo w v rs) (k : lo' ≤ lo) : RangesIn lo' w v rs := by
  obtain ⟨a, c, hv, hl, hb, hc⟩ := h
  refine ⟨a, c, hv, hl, hb, fun i hi => ?_⟩
  obtain ⟨b, o, ha, hlo, h1, h2⟩ := hc i hi
  exact ⟨b, o, ha, by omega, h1, h2⟩

mutual
theorem NodeIn.keeps {lo : Nat} {w w' : World} (k : Keeps lo w w') : ∀ (t : Nd) (v : Value), NodeIn lo w t v → NodeIn lo w' t v
  | .mk op rs nm kids mn mx, v, h => by
    unfold NodeIn at h ⊢
    obtain ⟨rv, ka, kc, hv, h1, h2, h3, h4, h5, hr, hk⟩ := h
    refine ⟨rv, ka, kc, hv, h1, h2, h3, h4, h5, hr.keeps k, ?_⟩
    rcases hk with hk | ⟨b, o, ha, hlo, hk⟩
    · exact .inl hk
    · exact .inr ⟨b, o, ha, hlo, KidsIn.keeps k kids b o hlo hk⟩
theorem KidsIn.keeps {lo : Nat} {w w' : World} (k : Keeps lo w w') : ∀ (l : List Nd) (b o : Nat), lo ≤ b → KidsIn lo w l b o → KidsIn lo w' l b o
  | [], _, _, _, _ => by unfold KidsIn; trivial
  | t :: r, b, o, hlo, h => by
    unfold KidsIn at h ⊢
    obtain ⟨⟨op, rv, nm, kv, mn, mx, hn, c0, c1, c2, c3, c4, c5⟩, hr⟩ := h
    exact ⟨⟨op, rv, nm, kv, mn, mx, NodeIn.keeps k t _ hn, k _ _ _ hlo c0, k _ _ _ hlo c1, k _ _ _ hlo c2, k _ _ _ hlo c3, k _ _ _ hlo c4, k _ _ _ hlo c5⟩, KidsIn.keeps k r b (o + 6) hlo hr⟩
end
mutual
theorem NodeIn.lower {lo lo' : Nat} {w : World} (k : lo' ≤ lo) : ∀ (t : Nd) (v : Value), NodeIn lo w t v → NodeIn lo' w t v
  | .mk op rs nm kids mn mx, v, h => by
    unfold NodeIn at h ⊢
    obtain ⟨rv, ka, kc, hv, h1, h2, h3, h4, h5, hr, hk⟩ := h
    refine ⟨rv, ka, kc, hv, h1, h2, h3, h4, h5, hr.lower k, ?_⟩
    rcases hk with hk | ⟨b, o, ha, hlo, hk⟩
    · exact .inl hk
    · exact .inr ⟨b, o, ha, by omega, KidsIn.lower k kids b o hk⟩
theorem KidsIn.lower {lo lo' : Nat} {w : World} (k : lo' ≤ lo) : ∀ (l : List Nd) (b o : Nat), KidsIn lo w l b o → KidsIn lo' w l b o
  | [], _, _, _ => by unfold KidsIn; trivial
  | t :: r, b, o, h => by
    unfold KidsIn at h ⊢
    obtain ⟨⟨op, rv, nm, kv, mn, mx, hn, cs⟩, hr⟩ := h
    exact ⟨⟨op, rv, nm, kv, mn, mx, NodeIn.lower k t _ hn, cs⟩, KidsIn.lower k r b (o + 6) hr⟩
end

theorem keeps_refl (lo : Nat) (w : World) : Keeps lo w w := fun _ _ _ _ h => h
theorem Keeps.trans {lo : Nat} {a b c : World} (h : Keeps lo a b) (k : Keeps lo b c) : Keeps lo a c := fun x o v hl hc => k x o v hl (h x o v hl hc)
theorem Keeps.up {lo lo' : Nat} {a b : World} (h : Keeps lo a b) (k : lo ≤ lo') : Keeps lo' a b := fun x o v hl hc => h x o v (by omega) hc
theorem keeps_grown {lo B : Nat} {w w' : World} (h : w.grownBy w' (some B)) (hB : B < lo) : Keeps lo w w' := fun b o v hl hc => h.cell (a := ⟨b, o, none⟩) hc (by simp; omega)
theorem keeps_grown_none {lo : Nat} {w w' : World} (h : w.grownBy w' none) : Keeps lo w w' := fun b o v _ hc => h.cell (a := ⟨b, o, none⟩) hc (by simp)
theorem keeps_below {lo : Nat} {w w' : World} (h : Below w.heap.size w w') : Keeps lo w w' := fun b o v _ hc => by
  have hb : b < w.heap.size := block_lt_of_cell (a := ⟨b, o, none⟩) hc
  rw [← hc]; exact h.cell (p := ⟨b, o, none⟩) hb
theorem keeps_drewN {lo : Nat} {w w' : World} (n : Nat) (h : Keeps lo w w') : Keeps lo w (w'.drewN n) := fun b o v hl hc => h b o v hl hc

/-- Block B may be written, and new blocks made. -/
def Fr (B : Nat) (w w' : World) : Prop := w.grownBy w' (some B)
theorem Fr.refl (B : Nat) (w : World) : Fr B w w := ⟨rfl, rfl, rfl, Nat.le_refl _, fun _ _ _ => rfl⟩
theorem Fr.trans {B : Nat} {a b c : World} (h : Fr B a b) (k : Fr B b c) : Fr B a c :=
  ⟨k.os.trans h.os, k.tape.trans h.tape, k.output.trans h.output, Nat.le_trans h.size k.size, fun i hi hn => (k.block i (Nat.lt_of_lt_of_le hi h.size) hn).trans (h.block i hi hn)⟩
theorem Fr.drew {B : Nat} {a w : World} (h : Fr B a w) : Fr B a w.drew := ⟨h.os, h.tape, h.output, h.size, h.block⟩
theorem Fr.drewN {B : Nat} {a w : World} (h : Fr B a w) (n : Nat) : Fr B a (w.drewN n) := ⟨h.os, h.tape, h.output, h.size, h.block⟩
theorem Fr.alloc {B : Nat} {a w : World} (h : Fr B a w) (o : Obj) : Fr B a (w.alloc o) := h.trans (World.grownBy_alloc w o _)
theorem Fr.setCell {B : Nat} {a w : World} (h : Fr B a w) (k : Nat) (u : Value) : Fr B a (w.setCell ⟨B, k, none⟩ u) :=
  h.trans ⟨rfl, rfl, rfl, by simp [World.setCell], fun i _ hne => Below.heap_setCell w ⟨B, k, none⟩ u i (by rintro rfl; exact hne rfl)⟩
theorem Fr.below {B : Nat} {a w w' : World} (h : Fr B a w) (k : Below w.heap.size w w') : Fr B a w' :=
  h.trans ⟨k.os, k.tape, k.output, k.size, fun i hi _ => k.block i hi⟩
theorem Fr.keeps {B lo : Nat} {w w' : World} (h : Fr B w w') (hB : B < lo) : Keeps lo w w' := keeps_grown h hB
theorem Fr.size {B : Nat} {w w' : World} (h : Fr B w w') : w.heap.size ≤ w'.heap.size := World.grownBy.size h
theorem Fr.toBelow {B : Nat} {w w' : World} (h : Fr B w w') (hB : B ≤ w.heap.size) : Below B w w' :=
  ⟨h.os, h.tape, h.output, World.grownBy.size h, fun k hk => World.grownBy.block h k (by omega) (by simp; omega)⟩
end Go.Proofs.Ytfkgicakiapmaaa
