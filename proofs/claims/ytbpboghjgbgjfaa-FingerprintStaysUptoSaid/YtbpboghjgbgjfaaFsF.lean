/- The contract of sweep where every file is in use. -/
import Derived.Test.YtbpboghjgbgjfaaFsE
namespace Go.Proofs.Ytbpboghjgbgjfaa
open Go.RowKit

set_option maxRecDepth 100000 in
set_option maxHeartbeats 2000000 in
theorem delF_none (L : List FileV) (p : FileV → Bool) (base : Nat) (g : FuncId) (lb : Array Value) (v : Value) (w : World) (hr : FlR base w v L) (hn : L.length ≤ 1000) (hall : ∀ i (h : i < L.length), p L[i] = false)
    (eg : ∀ args w, (callFunc g args).run Try.prog w = .ok (.enter g args) w) (hp : TestF g lb p L w) :
    Calls Try.prog 44 #[v, .func (.func g) #[] lb] w fun e w' => e = .returned v ∧ Below w.heap.size w w' := by
  have H := Lib.hid (idxF_any L p L.length base g lb v w hr hn ⟨Nat.le_refl _, fun i h _ => hall i h, fun h => absurd h (by omega)⟩ eg hp)
  have e : placeZ L.length L.length = -1 := by unfold placeZ; rw [if_neg (by omega)]
  rw [e] at H
  obtain ⟨a, n, c, rfl⟩ : ∃ a n c, v = .slice a n c := by
    rcases row_form hr with ⟨rfl, -⟩ | ⟨b, cap, rfl, -⟩
    · exact ⟨_, _, _, rfl⟩
    · exact ⟨_, _, _, rfl⟩
  clear hr hn hall hp e
  go_enter Try.func44, Try.ntmps44
  go_wp2_with fail
  refine H.out.mono ?_
  rintro e w' ⟨rfl, hb⟩
  go_wp2
  go_ret
  exact ⟨rfl, hb⟩
theorem eg_sweep1 : ∀ args w, (callFunc 45 args).run Try.prog w = .ok (.enter 45 args) w := enters_of Try.func45 (by kernel_rfl) rfl
variable {d base : Nat} {names : List NameV} {files : List FileV} {opn : List Int} {nv fv ov : Value} {w w' : World}
theorem sweep_test (bx : Nat) (h : DirAt d base names files opn nv fv ov w) (hb : w.cell? ⟨bx, 0, none⟩ = some (.pointer (some ⟨d, 0, none⟩))) (hbx : bx < w.heap.size) :
    TestF 45 #[.pointer (some ⟨bx, 0, none⟩)] (fun x => !usedB names opn x.ino) files w := fun i hi W hW =>
  sweep1_any files[i] bx (h.below hW) ((hW.cell (p := ⟨bx, 0, none⟩) hbx).trans hb) (Nat.lt_of_lt_of_le hbx hW.size)
set_option maxRecDepth 100000 in
set_option maxHeartbeats 2000000 in
theorem sweep_none (h : DirAt d base names files opn nv fv ov w) (hall : ∀ x ∈ files, usedB names opn x.ino = true) :
    Calls Try.prog 25 #[.pointer (some ⟨d, 0, none⟩)] w fun e w' => e = .returned (.tuple #[]) ∧ DirAt d base names files opn nv fv ov w' ∧ ChP (fun i => i = d) w w' := by
  have hd := h.row.lt
  have hne : d ≠ w.heap.size := by omega
  obtain ⟨fa, fn, fc, rfl⟩ := row_slice h.f
  have hbl := below_new w (.cells #[.pointer (some ⟨d, 0, none⟩)] 66)
  have hbox : BkAt w.heap.size 66 #[.pointer (some ⟨d, 0, none⟩)] (w.alloc (.cells #[.pointer (some ⟨d, 0, none⟩)] 66)) := BkAt.new _ _ _
  have h1 := h.below hbl
  have hdel := fun W (hW : Below (w.alloc (.cells #[.pointer (some ⟨d, 0, none⟩)] 66)).heap.size (w.alloc (.cells #[.pointer (some ⟨d, 0, none⟩)] 66)) W) =>
    delF_none files (fun x => !usedB names opn x.ino) base _ _ _ W (h1.below hW).f (by have := h.fl; omega) (fun i hi => by rw [hall _ (List.getElem_mem hi)]; rfl) eg_sweep1 (sweep_test w.heap.size (h1.below hW) ((hbox.below hW).cell 0) (hbox.below hW).lt)
  have HS := Lib.hid (show ∀ W, Below (w.alloc (.cells #[.pointer (some ⟨d, 0, none⟩)] 66)).heap.size (w.alloc (.cells #[.pointer (some ⟨d, 0, none⟩)] 66)) W → W.cell? ⟨w.heap.size, 0, none⟩ = some (.pointer (some ⟨d, 0, none⟩)) ∧ W.cell? ⟨d, 1, none⟩ = some (.slice fa fn fc) from fun W hW => ⟨(hbox.below hW).cell 0, (h1.below hW).cs.2.1⟩)
  have HD := Lib.hid hdel
  have HH := Lib.hid (And.intro h1 (And.intro hbl (And.intro hbox (show w.heap.size ≠ d by omega))))
  clear hdel h h1 hbl hbox hall
  go_enter Try.func25, Try.ntmps25
  go_wp2_with fail
  go_region_held3 (fun W => W.cell? ⟨w.heap.size, 0, none⟩ = some (.pointer (some ⟨d, 0, none⟩)) ∧ W.cell? ⟨d, 1, none⟩ = some (.slice fa fn fc)) (first | exact HS.out _ (Below.refl _ _).drew | exact HS.out _ (by assumption) | exact hk3)
    (first | (go_at_call 44; refine (HD.out _ (Below.refl _ _).drew).mono ?_; rintro e w' ⟨rfl, hb2⟩; have hb3 := bl_trans' (Below.refl _ _).drew hb2; have hfz := (HH.out.1.below hb3).row.free 1; have hk3 := And.intro (((HH.out.2.2.1.below hb3).other 1 (.slice fa fn fc) HH.out.2.2.2).cell 0) (((HH.out.1.below hb3).row.set 1 (.slice fa fn fc)).cell 1)))
  all_goals
    go_wp2
    go_end0
    refine ⟨rfl, ?_, ?_⟩
    · have h3 := HH.out.1.below hb3
      have hp : ChP (fun i => i = d) w' (w'.setCell ⟨d, 1, none⟩ (.slice fa fn fc)) := (ChP.refl _ _).set d 1 _ rfl
      exact ⟨h3.row.set 1 _, row_ch h3.n hp (fun g hg => row_ne h3.n h3.row (by decide) hg), row_ch h3.f hp (fun g hg => row_ne h3.f h3.row (by decide) hg), row_ch h3.o hp (fun g hg => row_ne h3.o h3.row (by decide) hg), h3.nl, h3.fl, h3.ol, h3.os, h3.sl⟩
    · exact (ChP.ofBelow (bl_trans' HH.out.2.1 hb3)).set d 1 _ rfl
end Go.Proofs.Ytbpboghjgbgjfaa
