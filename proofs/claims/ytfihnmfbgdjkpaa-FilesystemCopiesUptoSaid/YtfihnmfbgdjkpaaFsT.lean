/- The sanity check of layer 7. -/
import Derived.Test.YtfihnmfbgdjkpaaFsS
import Derived.Lib.SlBytesConst
namespace Go.Proofs.Ytfihnmfbgdjkpaa
open Go.RowKit

set_option maxRecDepth 100000 in
theorem fsNew_any (w : World) : Calls Try.prog 13 #[] w fun e w' => e = .returned (.agg #[.slice none 0 0, .slice none 0 0, .slice none 0 0]) ∧ Below w.heap.size w w' := by
  go_enter Try.func13, Try.ntmps13
  go_wp2
  exact bodyPost_ret (v := .agg #[.slice none 0 0, .slice none 0 0, .slice none 0 0]) (by simp [results, Try.results13, go_sem]) rfl ⟨rfl, below_new _ _⟩
theorem fs_empty (w : World) : FsAt [] [] [] (.slice none 0 0) (.slice none 0 0) (.slice none 0 0) w :=
  ⟨World.ownsRow_nil _ _ _ _, World.ownsRow_nil _ _ _ _, World.ownsRow_nil _ _ _ _, by decide, by decide, by decide, List.Pairwise.nil, fun x hx => by simp at hx⟩
/-- A row of bytes, as a string. -/
theorem conv_back {W : World} {v : Value} {L : List UInt8} (h : DtR W v L) : (convert 22 9 v).run Try.prog W = .ok (.string ⟨L.toArray⟩) W := by
  have hcs := h.2
  rcases hcs with ⟨rfl, h0⟩ | ⟨g, cap, cur, rfl, _, hg, hn, _, _, htake⟩
  · obtain rfl : L = [] := List.eq_nil_of_length_eq_zero h0
    exact run_convert_bytes_nil W 22 5 Try.underlying22 Try.underlying5 0 0 9 Try.underlying9
  · refine run_convert_bytes_back W 22 9 5 ⟨g, 0, none⟩ cap L Try.underlying22 Try.underlying5 Try.underlying9 (fun j hj => ?_)
    have hadd : (⟨g, 0, none⟩ : Addr).add j = ⟨g, j, none⟩ := by unfold Addr.add; split <;> simp_all
    rw [hadd, cell_of_row W g j cur _ _ hg]
    have e : (byC L)[j]? = some (.int .u8 (L[j].toNat : Int)) := by simp [byC, hj]
    rw [← htake, List.getElem?_take] at e
    rw [if_pos (by omega)] at e
    simpa using e
/-- What the example leads to. -/
def AwOut (w : World) (e : Ending) (w' : World) : Prop :=
  ∃ (nv fv ov : Value) (eb : Nat), e = .returned (.tuple #[.agg #[nv, fv, ov], .slice (some ⟨eb, 0, none⟩) 4 4]) ∧ (∃ dv2 a m c, dv2 = .slice a m c ∧ FsAt [(bsA, 1), (bsB, 2)] [⟨1, .slice none 0 0, false, true, 0⟩, ⟨2, dv2, true, true, 0⟩] [] nv fv ov w' ∧ DtR w' dv2 XL) ∧ (∀ i, i < 4 → w'.cell? ⟨eb, i, none⟩ = some (.int .i64 0)) ∧ eb < w'.heap.size ∧ Below w.heap.size w w'
def awC (b : Nat) : Array Value := #[.int .i64 1, .string bsA, .string ⟨#[]⟩, .slice (some ⟨b, 0, none⟩) 2 2, .int .i64 0, .int .i64 5, .string bsA, .string bsB, .slice none 0 0, .int .i64 0, .int .i64 3, .string bsA, .string ⟨#[]⟩, .slice none 0 0, .int .i64 0, .int .i64 6, .string bsB, .string ⟨#[]⟩, .slice none 0 0, .int .i64 9]
theorem aw_run (W : World) (b lb : Nat) (hb : W.heap[b]? = some (.cells #[.int .u8 120, .int .u8 10] 5 (2, 3))) (hl : BkAt lb 37 (awC b) W) :
    Calls Try.prog 12 #[.agg #[.slice none 0 0, .slice none 0 0, .slice none 0 0], .slice (some ⟨lb, 0, none⟩) 4 4] W (AwOut W) := by
  refine (run_any 4 (CK (.slice (some ⟨b, 0, none⟩) 2 2)) (fun _ => 0) _ (hist_awake _) lb _ _ _ W ⟨⟨[], ⟨rfl, b, rfl, hb⟩, fs_empty W⟩, rfl⟩ (by decide) hl.lt (fun i hi => ?_) (fun i hi => ?_)).mono fun e w' h => ?_
  · have h4 : i = 0 ∨ i = 1 ∨ i = 2 ∨ i = 3 := by omega
    rcases h4 with rfl | rfl | rfl | rfl
    · exact ⟨hl.cell 0, hl.cell 1, hl.cell 2, hl.cell 3, hl.cell 4⟩
    · exact ⟨hl.cell 5, hl.cell 6, hl.cell 7, hl.cell 8, hl.cell 9⟩
    · exact ⟨hl.cell 10, hl.cell 11, hl.cell 12, hl.cell 13, hl.cell 14⟩
    · exact ⟨hl.cell 15, hl.cell 16, hl.cell 17, hl.cell 18, hl.cell 19⟩
  · have h4 : i = 0 ∨ i = 1 ∨ i = 2 ∨ i = 3 := by omega
    rcases h4 with rfl | rfl | rfl | rfl <;> exact ⟨_, _, _, rfl⟩
  · obtain ⟨nv, fv, ov, eb, h1, ⟨⟨fs, ⟨dv2, rfl, h3⟩, h4⟩, -⟩, h5, h6⟩ := h
    obtain ⟨a, m, c, hd⟩ := row_slice h3
    exact ⟨nv, fv, ov, eb, h1, ⟨dv2, a, m, c, hd, h4, h3⟩, fun i hi => by rw [h5.cell i, errA_get _ 4 4 i hi, if_pos hi], h5.lt, h6⟩
theorem aw_blk (w1 : World) (o : Obj) : ((w1.alloc (.cells #[.int .u8 120, .int .u8 10] 5 (2, 3))).alloc o).heap[w1.heap.size]? = some (.cells #[.int .u8 120, .int .u8 10] 5 (2, 3)) :=
  ((below_new _ _).block _ (by simp)).trans (heap_alloc_new _ _)
theorem aw_chg (w1 : World) : BkAt (w1.heap.size + 1) 37 (awC w1.heap.size) ((w1.alloc (.cells #[.int .u8 120, .int .u8 10] 5 (2, 3))).alloc (.cells (awC w1.heap.size) 37)) := by
  have h := BkAt.new 37 (awC w1.heap.size) (w1.alloc (.cells #[.int .u8 120, .int .u8 10] 5 (2, 3)))
  rwa [show (w1.alloc (.cells #[.int .u8 120, .int .u8 10] 5 (2, 3))).heap.size = w1.heap.size + 1 by simp] at h
set_option maxRecDepth 100000 in
set_option maxHeartbeats 4000000 in
theorem awake7_any (w : World) : Calls Try.prog 9 #[] w fun e w' => e = .returned (.bool true) ∧ Below w.heap.size w w' := by
  have kc := fun (w : World) (C : Array Value) (n c : Nat) => Lib.run_convert_bytes_const (P := Try.prog) w 22 5 C n c Try.underlying22 Try.underlying5
  have hrun := Lib.hid (fun W b lb h1 h2 => aw_run W b lb h1 h2)
  go_enter Try.func9, Try.ntmps9
  go_wp2_with fail
  refine (fsNew_any _).mono ?_
  rintro e w1 ⟨rfl, hb1⟩
  go_wp2_with fail
  refine (hrun.out _ w1.heap.size (w1.heap.size + 1) (aw_blk w1 _) (aw_chg w1)).mono ?_
  rintro e w2 ⟨nv, fv, ov, eb, rfl, ⟨dv2, a, m, c, rfl, hF, hD⟩, he, hlt, hb⟩
  obtain ⟨na, nm, nc, rfl⟩ := row_slice hF.n
  obtain ⟨fa, fm, fc, rfl⟩ := row_slice hF.f
  obtain ⟨oa, om, oc, rfl⟩ := row_slice hF.o
  have hb2 := bl_trans' (bl_trans' (bl_trans' hb1 (below_new _ _)) (below_new _ _)) hb
  clear hb hb1
  have HF := Lib.hid (And.intro hF (And.intro hD (And.intro hb2 he)))
  clear hF hD hb2 he
  go_wp2_with fail
  have hfk : BkAt w2.heap.size 31 #[.slice na nm nc, .slice fa fm fc, .slice oa om oc] (w2.alloc (.cells #[.slice na nm nc, .slice fa fm fc, .slice oa om oc] 31)) := BkAt.new _ _ _
  have hF2 := HF.out.1.below (below_new w2 (.cells #[.slice na nm nc, .slice fa fm fc, .slice oa om oc] 31))
  refine (lookup_yes bsB 1 hF2 place_B2 (by decide) (by unfold hitN; rw [dif_pos (by decide)]; exact decide_eq_true cmp_BB)).mono ?_
  rintro e w3 ⟨rfl, hb3⟩
  have hfk3 := hfk.below hb3
  have hF3 := hF2.below hb3
  obtain ⟨g0, g1, g2⟩ : w3.cell? ⟨w2.heap.size, 0, none⟩ = some (.slice na nm nc) ∧ w3.cell? ⟨w2.heap.size, 1, none⟩ = some (.slice fa fm fc) ∧ w3.cell? ⟨w2.heap.size, 2, none⟩ = some (.slice oa om oc) := ⟨hfk3.cell 0, hfk3.cell 1, hfk3.cell 2⟩
  have hb23 := bl_trans' (below_new w2 (.cells #[.slice na nm nc, .slice fa fm fc, .slice oa om oc] 31)) hb3
  have hD3 := row_below HF.out.2.1 hb23
  have hbw := bl_trans' HF.out.2.2.1 hb23
  have he3 : w3.cell? ⟨eb, 3, none⟩ = some (.int .i64 0) := (hb23.cell (p := ⟨eb, 3, none⟩) hlt).trans (HF.out.2.2.2 3 (by decide))
  have hl3 : eb < w3.heap.size := Nat.lt_of_lt_of_le hlt hb23.size
  have HG := Lib.hid (And.intro hF3 (And.intro hD3 (And.intro hbw he3)))
  clear hF2 hF3 hD3 hbw he3 hb23 hb3 hfk hfk3 HF
  go_wp2_with fail
  refine (read_whole 2 1 HG.out.1 ⟨by simp, fun i h hi => by
    obtain rfl : i = 0 := (by omega)
    rfl, fun h => rfl⟩ (by simp) (.inr rfl) ⟨_, _, _, rfl⟩).mono ?_
  rintro e w4 ⟨rfl, hb4⟩
  have hb5 := bl_trans' hb4 (below_new w4 (.cells #[.int .i64 2, .slice a m c, .bool true, .bool true, .int .i64 0] 45))
  have cv := conv_back (row_below HG.out.2.1 hb5)
  simp only [show XL.toArray = #[120, 10] from rfl] at cv
  have he5 : (w4.alloc (.cells #[.int .i64 2, .slice a m c, .bool true, .bool true, .int .i64 0] 45)).cell? ⟨eb, 3, none⟩ = some (.int .i64 0) := (hb5.cell (p := ⟨eb, 3, none⟩) hl3).trans HG.out.2.2.2
  have HE := Lib.hid (bl_trans' HG.out.2.2.1 hb5)
  clear HG hb5 hb4
  go_wp2
  exact bodyPost_ret (v := .bool true) (by simp [results, Try.results9, go_sem]) rfl ⟨rfl, HE.out⟩
end Go.Proofs.Ytfihnmfbgdjkpaa
