/- The sanity check of layer 7. -/
import Derived.Test.YtbpboghjgbgjfaaFsS
import Derived.Lib.SlBytesConst
namespace Go.Proofs.Ytbpboghjgbgjfaa
open Go.RowKit

set_option maxRecDepth 100000 in
theorem fsNew_any (w : World) : Calls Try.prog 9 #[] w fun e w' => e = .returned (.agg #[.slice none 0 0, .slice none 0 0, .slice none 0 0]) ∧ Below w.heap.size w w' := by
  go_enter Try.func9, Try.ntmps9
  go_wp2
  exact bodyPost_ret (v := .agg #[.slice none 0 0, .slice none 0 0, .slice none 0 0]) (by simp [results, Try.results9, go_sem]) rfl ⟨rfl, below_new _ _⟩
theorem fs_empty (w : World) : FsAt [] [] [] (.slice none 0 0) (.slice none 0 0) (.slice none 0 0) w :=
  ⟨World.ownsRow_nil _ _ _ _, World.ownsRow_nil _ _ _ _, World.ownsRow_nil _ _ _ _, by decide, by decide, by decide, List.Pairwise.nil, fun x hx => by simp at hx⟩
/-- A row of bytes, as a string. -/
theorem conv_back {W : World} {v : Value} {L : List UInt8} (h : DtR W v L) : (convert 22 9 v).run Try.prog W = .ok (.string ⟨L.toArray⟩) W := by
  have hcs := h.2
  rcases hcs with ⟨rfl, h0⟩ | ⟨g, cap, cur, rfl, _, hg, hn, _, _, htake⟩
  · obtain rfl : L = [] := List.eq_nil_of_length_eq_zero h0
    exact run_convert_bytes_nil W 22 5 Try.underlying22 Try.underlying5 0 0 9 Try.underlying9
  · refine run_convert_bytes_back W 22 9 5 ⟨g, 0, none⟩ cap L Try.underlying22 Try.underlying5 Try.underlying9 (fun j hj => ?_)
    have hadd : (⟨g, 0, none⟩ : Addr).add j = ⟨g, j, none⟩ := by unfold Addr.add; split <;> simp_all
    rw [hadd, cell_of_row W g j cur _ _ hg]
    have e : (byC L)[j]? = some (.int .u8 (L[j].toNat : Int)) := by simp [byC, hj]
    rw [← htake, List.getElem?_take] at e
    rw [if_pos (by omega)] at e
    simpa using e
/-- What the example leads to. -/
def AwOut (w : World) (e : Ending) (w' : World) : Prop :=
  ∃ (nv fv ov : Value) (eb : Nat), e = .returned (.tuple #[.agg #[nv, fv, ov], .slice (some ⟨eb, 0, none⟩) 4 4]) ∧ (∃ dv2 a m c, dv2 = .slice a m c ∧ FsAt [(bsA, 1), (bsB, 2)] [⟨1, .slice none 0 0, false, true, 0⟩, ⟨2, dv2, true, true, 0⟩] [] nv fv ov w' ∧ DtR w' dv2 XL) ∧ (∀ i, i < 4 → w'.cell? ⟨eb, i, none⟩ = some (.int .i64 0)) ∧ eb < w'.heap.size ∧ Below w.heap.size w w'
def awC (b : Nat) : Array Value := #[.int .i64 1, .string bsA, .string ⟨#[]⟩, .slice (some ⟨b, 0, none⟩) 2 2, .int .i64 0, .int .i64 5, .string bsA, .string bsB, .slice none 0 0, .int .i64 0, .int .i64 3, .string bsA, .string ⟨#[]⟩, .slice none 0 0, .int .i64 0, .int .i64 6, .string bsB, .string ⟨#[]⟩, .slice none 0 0, .int .i64 9]
theorem aw_run (W : World) (b lb : Nat) (hb : W.heap[b]? = some (.cells #[.int .u8 120, .int .u8 10] 5 (2, 3))) (hl : BkAt lb 39 (awC b) W) :
    Calls Try.prog 8 #[.agg #[.slice none 0 0, .slice none 0 0, .slice none 0 0], .slice (some ⟨lb, 0, none⟩) 4 4] W (AwOut W) := by
  refine (run_any 4 (CK (.slice (some ⟨b, 0, none⟩) 2 2)) (fun _ => 0) _ (hist_awake _) lb _ _ _ W ⟨⟨[], ⟨rfl, b, rfl, hb⟩, fs_empty W⟩, rfl⟩ (by decide) hl.lt (fun i hi => ?_) (fun i hi => ?_)).mono fun e w' h => ?_
  · have h4 : i = 0 ∨ i = 1 ∨ i = 2 ∨ i = 3 := by omega
    rcases h4 with rfl | rfl | rfl | rfl
    · exact ⟨hl.cell 0, hl.cell 1, hl.cell 2, hl.cell 3, hl.cell 4⟩
    · exact ⟨hl.cell 5, hl.cell 6, hl.cell 7, hl.cell 8, hl.cell 9⟩
    · exact ⟨hl.cell 10, hl.cell 11, hl.cell 12, hl.cell 13, hl.cell 14⟩
    · exact ⟨hl.cell 15, hl.cell 16, hl.cell 17, hl.cell 18, hl.cell 19⟩
  · have h4 : i = 0 ∨ i = 1 ∨ i = 2 ∨ i = 3 := by omega
    rcases h4 with rfl | rfl | rfl | rfl <;> exact ⟨_, _, _, rfl⟩
  · obtain ⟨nv, fv, ov, eb, h1, ⟨⟨fs, ⟨dv2, rfl, h3⟩, h4⟩, -⟩, h5, h6⟩ := h
    obtain ⟨a, m, c, hd⟩ := row_slice h3
    exact ⟨nv, fv, ov, eb, h1, ⟨dv2, a, m, c, hd, h4, h3⟩, fun i hi => by rw [h5.cell i, errA_get _ 4 4 i hi, if_pos hi], h5.lt, h6⟩
theorem aw_blk (w1 : World) (o : Obj) : ((w1.alloc (.cells #[.int .u8 120, .int .u8 10] 5 (2, 3))).alloc o).heap[w1.heap.size]? = some (.cells #[.int .u8 120, .int .u8 10] 5 (2, 3)) :=
  ((below_new _ _).block _ (by simp)).trans (heap_alloc_new _ _)
theorem aw_chg (w1 : World) : BkAt (w1.heap.size + 1) 39 (awC w1.heap.size) ((w1.alloc (.cells #[.int .u8 120, .int .u8 10] 5 (2, 3))).alloc (.cells (awC w1.heap.size) 39)) := by
  have h := BkAt.new 39 (awC w1.heap.size) (w1.alloc (.cells #[.int .u8 120, .int .u8 10] 5 (2, 3)))
  rwa [show (w1.alloc (.cells #[.int .u8 120, .int .u8 10] 5 (2, 3))).heap.size = w1.heap.size + 1 by simp] at h
end Go.Proofs.Ytbpboghjgbgjfaa
