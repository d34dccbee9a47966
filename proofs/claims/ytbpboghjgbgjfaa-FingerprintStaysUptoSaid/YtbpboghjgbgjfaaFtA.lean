/- forget: a name goes. -/
import Derived.Test.YtbpboghjgbgjfaaFsZ
namespace Go.Proofs.Ytbpboghjgbgjfaa
open Go.RowKit

variable {d base : Nat} {names : List NameV} {files : List FileV} {opn : List Int} {nv fv ov : Value} {w w' : World}
set_option maxRecDepth 100000 in
set_option maxHeartbeats 1000000 in
theorem forget1_any (x : NameV) (t : ByteArray) (B : Nat) (w : World) (q : Bool) (hq : (x.1.toList == t.toList) = q) (hB : w.cell? ⟨B, 0, none⟩ = some (.string t)) (hlt : B < w.heap.size) :
    Calls Try.prog 81 #[.agg #[.string x.1, .int .i64 x.2], .pointer (some ⟨B, 0, none⟩)] w fun e w' => e = .returned (.bool q) ∧ Below w.heap.size w w' := by
  have hne : B ≠ w.heap.size := by omega
  go_enter Try.func81, Try.ntmps81
  go_wp2
  go_ret
  exact ⟨by rw [← hq]; rfl, below_new _ _⟩
theorem eg_forget1 : ∀ args w, (callFunc 81 args).run Try.prog w = .ok (.enter 81 args) w := enters_of Try.func81 (by kernel_rfl) rfl
set_option maxRecDepth 100000 in
set_option maxHeartbeats 4000000 in
theorem forget_any (t : ByteArray) (k n : Nat) (h : DirAt d base names files opn nv fv ov w) (hL : names.length = n + 1) (hk : k < n + 1) (hp : ∀ i (h : i < names.length), (names[i].1.toList == t.toList) = decide (i = k)) :
    Calls Try.prog 66 #[.pointer (some ⟨d, 0, none⟩), .string t] w fun e w' => e = .returned (.tuple #[]) ∧ ∃ nv', DirOut d base (names.eraseIdx k) files opn ov nv fv w nv' fv w' := by
  obtain ⟨gb, cap, hnv, hbase, hglt, hcap, hcm⟩ := row_some h.n (by omega)
  rw [hL] at hnv hcap
  subst hnv
  have hd := h.row.lt
  have hne : d ≠ w.heap.size := by omega
  have hgd : gb ≠ d := row_ne h.n h.row (by decide) rfl
  have hbl := below_new w (.cells #[.string t] 9)
  have hbox : BkAt w.heap.size 9 #[.string t] (w.alloc (.cells #[.string t] 9)) := BkAt.new _ _ _
  have h1 := h.below hbl
  have hdel := fun W (hW : Below (w.alloc (.cells #[.string t] 9)).heap.size (w.alloc (.cells #[.string t] 9)) W) =>
    delN_one names k n (fun x => (x.1.toList == t.toList)) base 81 #[.pointer (some ⟨w.heap.size, 0, none⟩)] gb cap W hL (h1.below hW).n (by have := h.nl; omega) hk hp eg_forget1
      (fun i hi W2 hW2 => forget1_any names[i] t w.heap.size W2 _ rfl (by
        have hb := (hbox.below hW)
        have hb2 : W2.heap[w.heap.size]? = W.heap[w.heap.size]? := World.grownBy.block hW2 _ hb.lt (by simp; omega)
        exact Lib.cell_of_heap (hb2.trans hb) 0) (Nat.lt_of_lt_of_le (hbox.below hW).lt (World.grownBy.size hW2)))
      (Nat.lt_of_lt_of_le (Nat.lt_of_lt_of_le hglt hbl.size) hW.size) hcap (by unfold maxLen at hcm; omega)
  have HS := Lib.hid (show ∀ W, Below (w.alloc (.cells #[.string t] 9)).heap.size (w.alloc (.cells #[.string t] 9)) W → W.cell? ⟨d, 0, none⟩ = some (.slice (some ⟨gb, 0, none⟩) (n + 1) cap) from fun W hW => (h1.below hW).cs.1)
  have HD := Lib.hid hdel
  have HH := Lib.hid (And.intro h1 (And.intro hbl hgd))
  clear hdel h h1 hbl hbox hp
  go_enter Try.func66, Try.ntmps66
  have c0 := HS.out _ (Below.refl _ _)
  go_wp2_with fail
  refine (HD.out _ (Below.refl _ _)).mono ?_
  rintro e w2 ⟨rfl, hr2, hg2⟩
  have hd2 : BkAt d 71 #[.slice (some ⟨gb, 0, none⟩) (n + 1) cap, fv, ov] w2 := (World.grownBy.block hg2 d HH.out.1.row.lt (by simp; exact fun e => HH.out.2.2 e.symm)).trans HH.out.1.row
  have hch2 : ChP (fun i => i = gb) (w.alloc (.cells #[.string t] 9)) w2 := (ChP.grown hg2).mono (fun i _ e => by cases e; rfl)
  obtain ⟨f0, g0⟩ : w2.frozen? ⟨d, 0, none⟩ = false ∧ w2.cell? ⟨d, 0, none⟩ = some (.slice (some ⟨gb, 0, none⟩) (n + 1) cap) := ⟨hd2.free 0, hd2.cell 0⟩
  have HR := Lib.hid (And.intro hr2 (And.intro hg2 (And.intro hd2 hch2)))
  clear hr2 hg2 hd2 hch2 c0
  go_wp2
  go_end0
  obtain ⟨h1, hbl, hgd⟩ := HH.out
  obtain ⟨hr2, hg2, hd2, hch2⟩ := HR.out
  have hf2 := row_ch h1.f hch2 (fun b hb e => by subst e; exact row_row h1.f h1.n (by decide) hb rfl rfl)
  have ho2 := row_ch h1.o hch2 (fun b hb e => by subst e; exact row_row h1.o h1.n (by decide) hb rfl rfl)
  have hp : ChP (fun i => i = d) w2 (w2.setCell ⟨d, 0, none⟩ (.slice (some ⟨gb, 0, none⟩) n cap)) := (ChP.refl _ _).set d 0 _ rfl
  refine ⟨rfl, .slice (some ⟨gb, 0, none⟩) n cap, ⟨hd2.set 0 _, row_ch hr2 hp (fun g hg => row_ne hr2 hd2 (by decide) hg), row_ch hf2 hp (fun g hg => row_ne hf2 hd2 (by decide) hg), row_ch ho2 hp (fun g hg => row_ne ho2 hd2 (by decide) hg), ?_, h1.fl, h1.ol, h1.os, h1.sl⟩, fun g hg => .inl hg, Loc.refl _ _, ?_⟩
  · have := h1.nl
    rw [List.length_eraseIdx]; split <;> omega
  · exact ((ChP.ofBelow hbl).trans (hch2.mono (Q := DirP d (.slice (some ⟨gb, 0, none⟩) (n + 1) cap) fv) (fun i _ e => .inr (.inl (by rw [e]; rfl)))) (fun _ _ q => q)).trans (hp.mono (Q := DirP d (.slice (some ⟨gb, 0, none⟩) (n + 1) cap) fv) (fun i _ e => .inl e)) (fun _ _ q => q)
end Go.Proofs.Ytbpboghjgbgjfaa
