/- sweep where one file goes. -/
import Derived.Test.YtbpboghjgbgjfaaFtA
namespace Go.Proofs.Ytbpboghjgbgjfaa
open Go.RowKit

variable {d base : Nat} {names : List NameV} {files : List FileV} {opn : List Int} {nv fv ov : Value} {w w' : World}
/-- A directory of which the files are not told. -/
structure DirN (d base : Nat) (names : List NameV) (opn : List Int) (nv fv ov : Value) (w : World) : Prop where
  row : BkAt d 71 #[nv, fv, ov] w
  n : NmR base w nv names
  o : InR 0 w ov opn
  nl : names.length ≤ 900
  ol : opn.length ≤ 900
  os : opn.Pairwise (· ≤ ·)
theorem DirN.below (h : DirN d base names opn nv fv ov w) (k : Below w.heap.size w w') : DirN d base names opn nv fv ov w' := ⟨h.row.below k, row_below h.n k, row_below h.o k, h.nl, h.ol, h.os⟩
theorem DirN.cs (h : DirN d base names opn nv fv ov w) : w.cell? ⟨d, 0, none⟩ = some nv ∧ w.cell? ⟨d, 1, none⟩ = some fv ∧ w.cell? ⟨d, 2, none⟩ = some ov := ⟨h.row.cell 0, h.row.cell 1, h.row.cell 2⟩
theorem DirAt.moved {gb : Nat} {w2 : World} (h : DirAt d base names files opn nv fv ov w) (hfv : fv.ownBlock = some gb) (hg : w.grownBy w2 (some gb)) : DirN d base names opn nv fv ov w2 := by
  have hgd : gb ≠ d := row_ne h.f h.row (by decide) hfv
  have hch : ChP (fun i => i = gb) w w2 := (ChP.grown hg).mono (fun i _ e => by cases e; rfl)
  exact ⟨h.row.ch hch (fun e => hgd e.symm), row_ch h.n hch (fun b hb e => by subst e; exact row_row h.n h.f (by decide) hb hfv rfl), row_ch h.o hch (fun b hb e => by subst e; exact row_row h.o h.f (by decide) hb hfv rfl), h.nl, h.ol, h.os⟩
set_option maxRecDepth 100000 in
set_option maxHeartbeats 2000000 in
theorem sweep1N_any (x : FileV) (bx : Nat) (h : DirN d base names opn nv fv ov w) (hb : w.cell? ⟨bx, 0, none⟩ = some (.pointer (some ⟨d, 0, none⟩))) (hbx : bx < w.heap.size) :
    Calls Try.prog 45 #[.agg #[.int .i64 x.ino, x.dv, .bool x.cp, .bool x.wh, .int .i64 x.lf], .pointer (some ⟨bx, 0, none⟩)] w fun e w' => e = .returned (.bool (!usedB names opn x.ino)) ∧ Below w.heap.size w w' := by
  have hu := fun W (hW : Below w.heap.size w W) => inUse_any names opn x.ino base 0 nv fv ov W (h.below hW).n (by have := h.nl; omega) (h.below hW).o (by have := h.ol; omega) h.os
  obtain ⟨u, hu2⟩ : ∃ u, usedB names opn x.ino = u := ⟨_, rfl⟩
  rw [hu2] at hu ⊢
  have H := Lib.hid hu
  have hcs : ∀ W, Below w.heap.size w W → W.cell? ⟨bx, 0, none⟩ = some (.pointer (some ⟨d, 0, none⟩)) ∧ W.cell? ⟨d, 0, none⟩ = some nv ∧ W.cell? ⟨d, 1, none⟩ = some fv ∧ W.cell? ⟨d, 2, none⟩ = some ov := fun W hW => by
    obtain ⟨c0, c1, c2⟩ := (h.below hW).cs
    exact ⟨(hW.cell (p := ⟨bx, 0, none⟩) hbx).trans hb, c0, c1, c2⟩
  have hnew : ∀ W, Below (w.alloc (.cells #[.int .i64 x.ino, x.dv, .bool x.cp, .bool x.wh, .int .i64 x.lf] 58)).heap.size (w.alloc (.cells #[.int .i64 x.ino, x.dv, .bool x.cp, .bool x.wh, .int .i64 x.lf] 58)) W → W.cell? ⟨w.heap.size, 0, none⟩ = some (.int .i64 x.ino) := fun W hW => by
    rw [((BkAt.new _ _ w).below hW).cell 0]; rfl
  have HS := Lib.hid (show ∀ W, Below (w.alloc (.cells #[.int .i64 x.ino, x.dv, .bool x.cp, .bool x.wh, .int .i64 x.lf] 58)).heap.size (w.alloc (.cells #[.int .i64 x.ino, x.dv, .bool x.cp, .bool x.wh, .int .i64 x.lf] 58)) W → W.cell? ⟨bx, 0, none⟩ = some (.pointer (some ⟨d, 0, none⟩)) ∧ W.cell? ⟨d, 0, none⟩ = some nv ∧ W.cell? ⟨d, 1, none⟩ = some fv ∧ W.cell? ⟨d, 2, none⟩ = some ov ∧ W.cell? ⟨w.heap.size, 0, none⟩ = some (.int .i64 x.ino) from fun W hW => by
    obtain ⟨a0, a1, a2, a3⟩ := hcs W (bl_trans' (below_new _ _) hW)
    exact ⟨a0, a1, a2, a3, hnew W hW⟩)
  clear hu hu2 h hcs hnew hb hbx
  go_enter Try.func45, Try.ntmps45
  go_wp2_with fail
  go_region_held3 (fun W => W.cell? ⟨bx, 0, none⟩ = some (.pointer (some ⟨d, 0, none⟩)) ∧ W.cell? ⟨d, 0, none⟩ = some nv ∧ W.cell? ⟨d, 1, none⟩ = some fv ∧ W.cell? ⟨d, 2, none⟩ = some ov ∧ W.cell? ⟨w.heap.size, 0, none⟩ = some (.int .i64 x.ino)) (first | exact HS.out _ (Below.refl _ _).drew | exact HS.out _ (Below.refl _ _) | exact HS.out _ (by assumption))
    (first | (go_at_call 46; refine (H.out _ (below_new _ _).drew).mono ?_; rintro e w' ⟨rfl, hb2⟩; have hb3 := bl_trans' (Below.refl _ _).drew hb2))
  all_goals
    go_wp2
    go_ret
    exact ⟨rfl, bl_trans' (below_new _ _) hb3⟩
theorem slices_erase {L : List FileV} (h : Slices L) (k : Nat) : Slices (L.eraseIdx k) := fun x hx => h x (List.mem_of_mem_eraseIdx hx)
theorem sweep_end {gb n cap k : Nat} {w0 w2 : World} (h1 : DirAt d base names files opn nv (.slice (some ⟨gb, 0, none⟩) (n + 1) cap) ov w0) (hbl : Below w.heap.size w w0) (hr2 : FlR base w2 (.slice (some ⟨gb, 0, none⟩) n cap) (files.eraseIdx k)) (hg2 : w0.drew.grownBy w2 (some gb)) :
    DirOut d base names (files.eraseIdx k) opn ov nv (.slice (some ⟨gb, 0, none⟩) (n + 1) cap) w nv (.slice (some ⟨gb, 0, none⟩) n cap) (w2.setCell ⟨d, 1, none⟩ (.slice (some ⟨gb, 0, none⟩) n cap)) := by
  have hg : w0.grownBy w2 (some gb) := GFr.trans ((GFr.refl gb w0).drew) hg2
  have hN := h1.moved rfl hg
  have hch2 : ChP (fun i => i = gb) w0 w2 := (ChP.grown hg).mono (fun i _ e => by cases e; rfl)
  have hp : ChP (fun i => i = d) w2 (w2.setCell ⟨d, 1, none⟩ (.slice (some ⟨gb, 0, none⟩) n cap)) := (ChP.refl _ _).set d 1 _ rfl
  refine ⟨⟨hN.row.set 1 _, row_ch hN.n hp (fun g hg => row_ne hN.n hN.row (by decide) hg), row_ch hr2 hp (fun g hg => row_ne hr2 hN.row (by decide) hg), row_ch hN.o hp (fun g hg => row_ne hN.o hN.row (by decide) hg), h1.nl, ?_, h1.ol, h1.os, slices_erase h1.sl k⟩, Loc.refl _ _, fun g hg => .inl hg, ?_⟩
  · have := h1.fl
    rw [List.length_eraseIdx]; split <;> omega
  · exact ((ChP.ofBelow hbl).trans (hch2.mono (Q := DirP d nv (.slice (some ⟨gb, 0, none⟩) (n + 1) cap)) (fun i _ e => .inr (.inr (by rw [e]; rfl)))) (fun _ _ q => q)).trans (hp.mono (Q := DirP d nv (.slice (some ⟨gb, 0, none⟩) (n + 1) cap)) (fun i _ e => .inl e)) (fun _ _ q => q)
set_option maxRecDepth 100000 in
set_option maxHeartbeats 4000000 in
theorem sweep_one (k n : Nat) (h : DirAt d base names files opn nv fv ov w) (hL : files.length = n + 1) (hk : k < n + 1) (hall : ∀ i (h : i < files.length), (!usedB names opn files[i].ino) = decide (i = k)) (hsl : ∀ x ∈ files, ∃ a m c, x.dv = .slice a m c) :
    Calls Try.prog 25 #[.pointer (some ⟨d, 0, none⟩)] w fun e w' => e = .returned (.tuple #[]) ∧ ∃ fv', DirOut d base names (files.eraseIdx k) opn ov nv fv w nv fv' w' := by
  obtain ⟨gb, cap, hfv, hbase, hglt, hcap, hcm⟩ := row_some h.f (by omega)
  rw [hL] at hfv hcap
  subst hfv
  have hd := h.row.lt
  have hne : d ≠ w.heap.size := by omega
  have hgd : gb ≠ d := row_ne h.f h.row (by decide) rfl
  have hbl := below_new w (.cells #[.pointer (some ⟨d, 0, none⟩)] 66)
  have hbox : BkAt w.heap.size 66 #[.pointer (some ⟨d, 0, none⟩)] (w.alloc (.cells #[.pointer (some ⟨d, 0, none⟩)] 66)) := BkAt.new _ _ _
  have h1 := h.below hbl
  have hdel := fun W (hW : Below (w.alloc (.cells #[.pointer (some ⟨d, 0, none⟩)] 66)).heap.size (w.alloc (.cells #[.pointer (some ⟨d, 0, none⟩)] 66)) W) =>
    delF_one files k n (fun x => !usedB names opn x.ino) base 45 #[.pointer (some ⟨w.heap.size, 0, none⟩)] gb cap W hL (h1.below hW).f (by have := h.fl; omega) hk hall eg_sweep1
      (fun i hi W2 hW2 => by
        have hb := hbox.below hW
        have hb2 : W2.heap[w.heap.size]? = W.heap[w.heap.size]? := World.grownBy.block hW2 _ hb.lt (by simp; omega)
        exact sweep1N_any files[i] w.heap.size ((h1.below hW).moved rfl hW2) (Lib.cell_of_heap (hb2.trans hb) 0) (Nat.lt_of_lt_of_le hb.lt (World.grownBy.size hW2)))
      (Nat.lt_of_lt_of_le (Nat.lt_of_lt_of_le hglt hbl.size) hW.size) hsl hcap (by unfold maxLen at hcm; omega)
  have hafter : ∀ W w2, Below (w.alloc (.cells #[.pointer (some ⟨d, 0, none⟩)] 66)).heap.size (w.alloc (.cells #[.pointer (some ⟨d, 0, none⟩)] 66)) W → W.grownBy w2 (some gb) →
      DirN d base names opn nv (.slice (some ⟨gb, 0, none⟩) (n + 1) cap) ov w2 ∧ BkAt w.heap.size 66 #[.pointer (some ⟨d, 0, none⟩)] w2 := fun W w2 hW hg => by
    have hb := hbox.below hW
    have hb2 : w2.heap[w.heap.size]? = W.heap[w.heap.size]? := World.grownBy.block hg _ hb.lt (by simp; omega)
    exact ⟨(h1.below hW).moved rfl hg, hb2.trans hb⟩
  have HS := Lib.hid (show ∀ W, Below (w.alloc (.cells #[.pointer (some ⟨d, 0, none⟩)] 66)).heap.size (w.alloc (.cells #[.pointer (some ⟨d, 0, none⟩)] 66)) W → W.cell? ⟨w.heap.size, 0, none⟩ = some (.pointer (some ⟨d, 0, none⟩)) ∧ W.cell? ⟨d, 1, none⟩ = some (.slice (some ⟨gb, 0, none⟩) (n + 1) cap) from fun W hW => ⟨(hbox.below hW).cell 0, (h1.below hW).cs.2.1⟩)
  have HD := Lib.hid hdel
  have HA := Lib.hid hafter
  have HH := Lib.hid (And.intro h1 (And.intro hbl (And.intro hbox (And.intro (show w.heap.size ≠ d by omega) hgd))))
  have hfl := h.fl
  have hsl0 := h.sl
  clear hdel h h1 hbl hbox hall hafter
  go_enter Try.func25, Try.ntmps25
  go_wp2_with fail
  obtain ⟨b0, b1⟩ := HS.out _ (Below.refl _ _)
  go_region_law ((go_simp; go_wp2_with (go_at_call 44; refine (HD.out _ (Below.refl _ _).drew).mono ?_; rintro e w2 ⟨rfl, hr2, hg2⟩; have hN := HA.out _ w2 (Below.refl _ _).drew hg2; obtain ⟨hfz, k1⟩ := And.intro (hN.1.row.free 1) (hN.1.row.cell 1); have k0 : w2.cell? ⟨w.heap.size, 0, none⟩ = some (.pointer (some ⟨d, 0, none⟩)) := hN.2.cell 0)))
  all_goals
    go_wp2
    go_end0
    exact ⟨rfl, _, sweep_end HH.out.1 HH.out.2.1 hr2 hg2⟩
end Go.Proofs.Ytbpboghjgbgjfaa
