/- A directory that is being changed; sweep's test. -/
import Derived.Test.YtbpboghjgbgjfaaFsD
import Derived.Test.YtbpboghjgbgjfaaBk
import Derived.Deep.RegionHeld3
import Derived.Deep.DeepCutAuto
namespace Go.Proofs.Ytbpboghjgbgjfaa
open Go.RowKit

/-- The directory in block d, whose rows of names and files are its own. -/
structure DirAt (d base : Nat) (names : List NameV) (files : List FileV) (opn : List Int) (nv fv ov : Value) (w : World) : Prop where
  row : BkAt d 71 #[nv, fv, ov] w
  n : NmR base w nv names
  f : FlR base w fv files
  o : InR 0 w ov opn
  nl : names.length ≤ 900
  fl : files.length ≤ 900
  ol : opn.length ≤ 900
  os : opn.Pairwise (· ≤ ·)
  sl : Slices files
/-- What a change of the directory may write. -/
def DirP (d : Nat) (nv fv : Value) (i : Nat) : Prop := i = d ∨ nv.ownBlock = some i ∨ fv.ownBlock = some i
variable {d base : Nat} {names : List NameV} {files : List FileV} {opn : List Int} {nv fv ov : Value} {w w' : World}
theorem DirAt.below (h : DirAt d base names files opn nv fv ov w) (k : Below w.heap.size w w') : DirAt d base names files opn nv fv ov w' :=
  ⟨h.row.below k, row_below h.n k, row_below h.f k, row_below h.o k, h.nl, h.fl, h.ol, h.os, h.sl⟩
theorem DirAt.cs (h : DirAt d base names files opn nv fv ov w) : w.cell? ⟨d, 0, none⟩ = some nv ∧ w.cell? ⟨d, 1, none⟩ = some fv ∧ w.cell? ⟨d, 2, none⟩ = some ov ∧ w.frozen? ⟨d, 0, none⟩ = false ∧ w.frozen? ⟨d, 1, none⟩ = false ∧ w.frozen? ⟨d, 2, none⟩ = false :=
  ⟨h.row.cell 0, h.row.cell 1, h.row.cell 2, h.row.free 0, h.row.free 1, h.row.free 2⟩

set_option maxRecDepth 100000 in
set_option maxHeartbeats 2000000 in
theorem sweep1_any (x : FileV) (bx : Nat) (h : DirAt d base names files opn nv fv ov w) (hb : w.cell? ⟨bx, 0, none⟩ = some (.pointer (some ⟨d, 0, none⟩))) (hbx : bx < w.heap.size) :
    Calls Try.prog 45 #[.agg #[.int .i64 x.ino, x.dv, .bool x.cp, .bool x.wh, .int .i64 x.lf], .pointer (some ⟨bx, 0, none⟩)] w fun e w' => e = .returned (.bool (!usedB names opn x.ino)) ∧ Below w.heap.size w w' := by
  have hu := fun W (hW : Below w.heap.size w W) => inUse_any names opn x.ino base 0 nv fv ov W (h.below hW).n (by have := h.nl; omega) (h.below hW).o (by have := h.ol; omega) h.os
  obtain ⟨u, hu2⟩ : ∃ u, usedB names opn x.ino = u := ⟨_, rfl⟩
  rw [hu2] at hu ⊢
  have H := Lib.hid hu
  have hcs : ∀ W, Below w.heap.size w W → W.cell? ⟨bx, 0, none⟩ = some (.pointer (some ⟨d, 0, none⟩)) ∧ W.cell? ⟨d, 0, none⟩ = some nv ∧ W.cell? ⟨d, 1, none⟩ = some fv ∧ W.cell? ⟨d, 2, none⟩ = some ov := fun W hW => by
    obtain ⟨c0, c1, c2, -, -, -⟩ := (h.below hW).cs
    exact ⟨(hW.cell (p := ⟨bx, 0, none⟩) hbx).trans hb, c0, c1, c2⟩
  have hnew : ∀ W, Below (w.alloc (.cells #[.int .i64 x.ino, x.dv, .bool x.cp, .bool x.wh, .int .i64 x.lf] 58)).heap.size (w.alloc (.cells #[.int .i64 x.ino, x.dv, .bool x.cp, .bool x.wh, .int .i64 x.lf] 58)) W → W.cell? ⟨w.heap.size, 0, none⟩ = some (.int .i64 x.ino) := fun W hW => by
    rw [((BkAt.new _ _ w).below hW).cell 0]; rfl
  have HS := Lib.hid (show ∀ W, Below (w.alloc (.cells #[.int .i64 x.ino, x.dv, .bool x.cp, .bool x.wh, .int .i64 x.lf] 58)).heap.size (w.alloc (.cells #[.int .i64 x.ino, x.dv, .bool x.cp, .bool x.wh, .int .i64 x.lf] 58)) W → W.cell? ⟨bx, 0, none⟩ = some (.pointer (some ⟨d, 0, none⟩)) ∧ W.cell? ⟨d, 0, none⟩ = some nv ∧ W.cell? ⟨d, 1, none⟩ = some fv ∧ W.cell? ⟨d, 2, none⟩ = some ov ∧ W.cell? ⟨w.heap.size, 0, none⟩ = some (.int .i64 x.ino) from fun W hW => by
    obtain ⟨a0, a1, a2, a3⟩ := hcs W (bl_trans' (below_new _ _) hW)
    exact ⟨a0, a1, a2, a3, hnew W hW⟩)
  clear hu hu2 h hcs hnew hb hbx
  go_enter Try.func45, Try.ntmps45
  go_wp2_with fail
  go_region_held3 (fun W => W.cell? ⟨bx, 0, none⟩ = some (.pointer (some ⟨d, 0, none⟩)) ∧ W.cell? ⟨d, 0, none⟩ = some nv ∧ W.cell? ⟨d, 1, none⟩ = some fv ∧ W.cell? ⟨d, 2, none⟩ = some ov ∧ W.cell? ⟨w.heap.size, 0, none⟩ = some (.int .i64 x.ino)) (first | exact HS.out _ (Below.refl _ _).drew | exact HS.out _ (Below.refl _ _) | exact HS.out _ (by assumption))
    (first | (go_at_call 46; refine (H.out _ (below_new _ _).drew).mono ?_; rintro e w' ⟨rfl, hb2⟩; have hb3 := bl_trans' (Below.refl _ _).drew hb2))
  all_goals
    go_wp2
    go_ret
    exact ⟨rfl, bl_trans' (below_new _ _) hb3⟩
end Go.Proofs.Ytbpboghjgbgjfaa
