/- Two frames: cells from a block on, and one block that may be written beside new ones. -/
import Derived.WalkKit
import Derived.ProofKit
import Derived.Below
import Derived.Laws.AppendOwn
import Derived.Lib.Builder
import Derived.Lib.Hide
import Derived.LoopTactic
import Derived.Laws.NewBlocks
import Derived.Deep.Draws
import Derived.Deep.QuietTactic
import Derived.BigQuiet
namespace Go.Proofs.YtdjkemodlbbmaaaDoor
open Go.RowKit

def GKeeps (lo : Nat) (w w' : World) : Prop := ∀ b o v, lo ≤ b → w.cell? ⟨b, o, none⟩ = some v → w'.cell? ⟨b, o, none⟩ = some v
theorem gkeeps_refl (lo : Nat) (w : World) : GKeeps lo w w := fun _ _ _ _ h => h
theorem GKeeps.trans {lo : Nat} {a b c : World} (h : GKeeps lo a b) (k : GKeeps lo b c) : GKeeps lo a c := fun x o v hl hc => k x o v hl (h x o v hl hc)
theorem GKeeps.up {lo lo' : Nat} {a b : World} (h : GKeeps lo a b) (k : lo ≤ lo') : GKeeps lo' a b := fun x o v hl hc => h x o v (by omega) hc
theorem gkeeps_grown {lo B : Nat} {w w' : World} (h : w.grownBy w' (some B)) (hB : B < lo) : GKeeps lo w w' := fun b o v hl hc => h.cell (a := ⟨b, o, none⟩) hc (by simp; omega)
theorem gkeeps_grown_none {lo : Nat} {w w' : World} (h : w.grownBy w' none) : GKeeps lo w w' := fun b o v _ hc => h.cell (a := ⟨b, o, none⟩) hc (by simp)
theorem gkeeps_below {lo : Nat} {w w' : World} (h : Below w.heap.size w w') : GKeeps lo w w' := fun b o v _ hc => by
  have hb : b < w.heap.size := block_lt_of_cell (a := ⟨b, o, none⟩) hc
  rw [← hc]; exact h.cell (p := ⟨b, o, none⟩) hb
theorem gkeeps_drewN {lo : Nat} {w w' : World} (n : Nat) (h : GKeeps lo w w') : GKeeps lo w (w'.drewN n) := fun b o v hl hc => h b o v hl hc

/-- Block B may be written, and new blocks made. -/
def GFr (B : Nat) (w w' : World) : Prop := w.grownBy w' (some B)
theorem GFr.refl (B : Nat) (w : World) : GFr B w w := ⟨rfl, rfl, rfl, Nat.le_refl _, fun _ _ _ => rfl⟩
theorem GFr.trans {B : Nat} {a b c : World} (h : GFr B a b) (k : GFr B b c) : GFr B a c :=
  ⟨k.os.trans h.os, k.tape.trans h.tape, k.output.trans h.output, Nat.le_trans h.size k.size, fun i hi hn => (k.block i (Nat.lt_of_lt_of_le hi h.size) hn).trans (h.block i hi hn)⟩
theorem GFr.drew {B : Nat} {a w : World} (h : GFr B a w) : GFr B a w.drew := ⟨h.os, h.tape, h.output, h.size, h.block⟩
theorem GFr.drewN {B : Nat} {a w : World} (h : GFr B a w) (n : Nat) : GFr B a (w.drewN n) := ⟨h.os, h.tape, h.output, h.size, h.block⟩
theorem GFr.alloc {B : Nat} {a w : World} (h : GFr B a w) (o : Obj) : GFr B a (w.alloc o) := h.trans (World.grownBy_alloc w o _)
theorem GFr.setCell {B : Nat} {a w : World} (h : GFr B a w) (k : Nat) (u : Value) : GFr B a (w.setCell ⟨B, k, none⟩ u) :=
  h.trans ⟨rfl, rfl, rfl, by simp [World.setCell], fun i _ hne => Below.heap_setCell w ⟨B, k, none⟩ u i (by rintro rfl; exact hne rfl)⟩
theorem GFr.below {B : Nat} {a w w' : World} (h : GFr B a w) (k : Below w.heap.size w w') : GFr B a w' :=
  h.trans ⟨k.os, k.tape, k.output, k.size, fun i hi _ => k.block i hi⟩
theorem GFr.keeps {B lo : Nat} {w w' : World} (h : GFr B w w') (hB : B < lo) : GKeeps lo w w' := gkeeps_grown h hB
theorem GFr.size {B : Nat} {w w' : World} (h : GFr B w w') : w.heap.size ≤ w'.heap.size := World.grownBy.size h
theorem GFr.toBelow {B : Nat} {w w' : World} (h : GFr B w w') (hB : B ≤ w.heap.size) : Below B w w' :=
  ⟨h.os, h.tape, h.output, World.grownBy.size h, fun k hk => World.grownBy.block h k (by omega) (by simp; omega)⟩
theorem gkeeps_alloc (lo : Nat) (w : World) (o : Obj) : GKeeps lo w (w.alloc o) := gkeeps_grown_none (World.grownBy_alloc w o none)
end Go.Proofs.YtdjkemodlbbmaaaDoor
