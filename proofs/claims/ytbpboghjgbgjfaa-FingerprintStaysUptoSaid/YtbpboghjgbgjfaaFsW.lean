/- logtidemake's Mod and Data: some bytes of bounded length, in a row of their own. -/
import Derived.Test.YtbpboghjgbgjfaaFsV
import Derived.Test.YtbpboghjgbgjfaaFsA
import Derived.Laws.BytesArg
namespace Go.Proofs.Ytbpboghjgbgjfaa
open Go.RowKit

set_option maxRecDepth 100000 in
theorem mod_any (z : Int) (w : World) (hz : 0 ≤ z) : Calls Try.prog 11 #[.int .i64 z, .int .i64 20] w fun e w' => (∃ m : Int, e = .returned (.int .i64 m) ∧ 0 ≤ m ∧ m < 20) ∧ w' = w := by
  have hm0 : 0 ≤ z % 20 := by omega
  have hm1 : z % 20 < 20 := by omega
  have ht : Int.tmod z 20 = z % 20 := Int.tmod_eq_emod_of_nonneg hz
  have d1 : decide (z % 20 < 0) = false := by rw [decide_eq_false_iff_not]; omega
  go_enter Try.func11, Try.ntmps11
  go_wp2
  go_ret
  exact ⟨⟨_, rfl, hm0, hm1⟩, rfl⟩

def IsB (L : List Value) : Prop := ∃ l : List UInt8, L = l.map fun b => Value.int .u8 (b.toNat : Int)
theorem isB_cells (s : ByteArray) : IsB (byteCells s) := ⟨s.data.toList, rfl⟩
theorem IsB.append {L M : List Value} (h : IsB L) (k : IsB M) : IsB (L ++ M) := by
  obtain ⟨l, rfl⟩ := h; obtain ⟨m, rfl⟩ := k; exact ⟨l ++ m, by simp⟩
theorem conv_buf : ∃ (V : World → ByteArray → Value) (WW : World → ByteArray → World), ∀ W s, (convert 9 22 (.string s)).run Try.prog W = .ok (V W s) (WW W s) ∧ BufAt W.heap.size (WW W s) (V W s) (byteCells s) ∧ Below W.heap.size W (WW W s) := by
  refine ⟨fun W s => _, fun W s => _, fun W s => ⟨run_bytes_of_string W 9 22 5 s Try.underlying9 Try.underlying22 Try.underlying5, ?_, ?_⟩⟩
  · have hge := grownCap_ge W s.size 0 5
    have hbl : (byteCells s).length = s.size := byteCells_length s
    have hsz : (bytesRow s (grownCap W s.size 0 5)).size = grownCap W s.size 0 5 := by
      have e : s.data.size = s.size := rfl
      simp [bytesRow]; omega
    have h := buf_new W.drew W.heap.size (grownCap W s.size 0 5) (byteCells s) (bytesRow s (grownCap W s.size 0 5)) (Nat.le_refl _) (by rw [hbl]; exact hge) hsz (fun j u hu => by
      have hlt := (List.getElem?_eq_some_iff.1 hu).1
      rw [hbl] at hlt
      have e : s.data.size = s.size := rfl
      unfold bytesRow
      rw [Array.getElem?_append_left (by simp; omega)]
      simpa [byteCells] using hu) ((bytesRow s (grownCap W s.size 0 5)).size, (bytesRow s (grownCap W s.size 0 5)).size + 1) (.inr (by show _ ≤ (bytesRow s (grownCap W s.size 0 5)).size; omega))
    rw [hbl] at h
    exact h
  · exact ⟨rfl, rfl, rfl, by simp, fun k hk => heap_alloc_old W.drew _ hk⟩
theorem conv_two (W : World) (x y : Int) : (convert 22 9 (.slice (some ⟨W.heap.size, 0, none⟩) 2 2)).run Try.prog (W.alloc (.cells #[.int .u8 x, .int .u8 y] 5)) = .ok (.string (strOfNums [x, y])) (W.alloc (.cells #[.int .u8 x, .int .u8 y] 5)) :=
  run_convert_bytes_arg (P := Try.prog) _ 22 5 Try.underlying22 Try.underlying5 W.heap.size 0 2 2 [x, y] rfl (fun i hi => by
    rw [Lib.cell_of_heap (heap_alloc_new W _)]
    have h : i = 0 ∨ i = 1 := by omega
    rcases h with rfl | rfl <;> rfl) 9 Try.underlying9
theorem strOfNums_two (x y : Int) : (strOfNums [x, y]).size = 2 := rfl
theorem below_gfr {C : Nat} {w w' : World} (h : Below w.heap.size w w') : GFr C w w' := (GFr.refl C w).below h
theorem BufAt.base {B B' : Nat} {w : World} {v : Value} {L : List Value} (h : BufAt B w v L) (hb : B' ≤ B) : BufAt B' w v L := by
  obtain ⟨g, cap, h1, h2, h3⟩ := h; exact ⟨g, cap, h1, Nat.le_trans hb h2, h3⟩
theorem gfr_buf {C B : Nat} {w w1 w2 : World} (h : GFr C w w1) (hB : w.heap.size ≤ B) (g : ∃ g, B ≤ g ∧ w1.grownBy w2 (some g)) : GFr C w w2 := by
  obtain ⟨g, hg, k⟩ := g
  exact ⟨(World.grownBy.os k).trans (World.grownBy.os h), (World.grownBy.tape k).trans (World.grownBy.tape h), (World.grownBy.output k).trans (World.grownBy.output h), Nat.le_trans (World.grownBy.size h) (World.grownBy.size k), fun i hi hn => (World.grownBy.block k i (Nat.lt_of_lt_of_le hi (World.grownBy.size h)) (by simp; omega)).trans (World.grownBy.block h i hi hn)⟩
theorem mk_buf {C B : Nat} {w1 w2 : World} (h : MkAt C w1) (hC : C < B) (g : ∃ g, B ≤ g ∧ w1.grownBy w2 (some g)) : MkAt C w2 := by
  obtain ⟨g, hg, k⟩ := g
  exact h.grown k (fun b e => by cases e; omega)
/-- What the loop keeps. -/
structure DatI (C : Nat) (w : World) (v : Value) (L : List Value) (wr : World) : Prop where
  buf : BufAt w.heap.size wr v L
  by' : IsB L
  mka : MkAt C wr
  fr : GFr C w wr
theorem DatI.app {C : Nat} {w wr wd : World} {v v' : Value} {L : List Value} {s : ByteArray} (h : DatI C w v L wr) (hC : C < w.heap.size) (hb : BufAt w.heap.size wd v' (L ++ byteCells s)) (g : ∃ g, w.heap.size ≤ g ∧ wr.grownBy wd (some g)) : DatI C w v' (L ++ byteCells s) wd :=
  ⟨hb, h.by'.append (isB_cells s), mk_buf h.mka hC g, gfr_buf h.fr (Nat.le_refl _) g⟩
theorem DatI.step {C : Nat} {w wr wd : World} {v : Value} {L : List Value} (h : DatI C w v L wr) (hC : C < w.heap.size) (hm : MkAt C wd) (hf : GFr C wr wd) : DatI C w v L wd :=
  ⟨h.buf.grown hC hf, h.by', hm, h.fr.trans hf⟩
/-- Data's end. -/
def DataOut (C : Nat) (w : World) (e : Ending) (w' : World) : Prop := (∃ v L, e = .returned v ∧ BufAt w.heap.size w' v L ∧ IsB L ∧ 15 ≤ L.length ∧ L.length ≤ 2000) ∧ MkAt C w' ∧ GFr C w w'
set_option maxRecDepth 100000 in
set_option linter.unusedSimpArgs false in
set_option maxHeartbeats 8000000 in
theorem data_any (C : Nat) (z m : Int) (w : World) (h : MkAt C w) (hz : 0 ≤ z) (hz1 : z < 1000) (hm0 : 0 ≤ m) (hm1 : m ≤ 5) :
    Calls Try.prog 6 #[.pointer (some ⟨C, 0, none⟩), .int .i64 z, .int .i64 m] w (DataOut C w) := by
  obtain ⟨V, WW, hcv⟩ := conv_buf
  have hcv1 := fun W s => (hcv W s).1
  have k2 := conv_two
  have hq0 : 0 ≤ Int.tdiv z 20 := Int.tdiv_nonneg hz (by omega)
  have hC := h.lt
  have H := Lib.hid (And.intro (fun W s => (hcv W s).2) h)
  clear hcv h
  go_enter Try.func6, Try.ntmps6
  go_wp2_with fail
  refine (mod_any z w hz).mono ?_
  rintro e w1 ⟨⟨m1, rfl, hy1, hy2⟩, rfl⟩
  go_wp2_with fail
  refine (mod_any (z / 20) _ (by omega)).mono ?_
  rintro e w2 ⟨⟨m2, rfl, hy3, hy4⟩, rfl⟩
  have hs : (ByteArray.mk #[102, 105, 108, 101, 32] ++ strOfNums [97 + m1, 97 + m2] ++ ByteArray.mk #[32, 98, 101, 103, 105, 110, 115, 10]).size = 15 := by
    simp only [ByteArray.size_append, strOfNums_two]; rfl
  have HS := Lib.hid hs
  clear hs
  obtain ⟨S2, hS2⟩ : ∃ S2, strOfNums [97 + m1, 97 + m2] = S2 := ⟨_, rfl⟩
  have k3 := fun (W : World) => k2 W (97 + m1) (97 + m2)
  rw [hS2] at HS
  have hSz : S2.size = 2 := by rw [← hS2]; rfl
  simp only [hS2] at k3
  clear k2 hS2
  go_wp2_with fail
  clear k3 hcv1 hy1 hy2 hy3 hy4 hSz
  obtain ⟨T0, hT0⟩ : ∃ T0, (ByteArray.mk #[102, 105, 108, 101, 32] ++ S2 ++ ByteArray.mk #[32, 98, 101, 103, 105, 110, 115, 10]) = T0 := ⟨_, rfl⟩
  rw [hT0] at HS ⊢
  have hI : DatI C w2 (V (w2.alloc (.cells #[.int .u8 (97 + m1), .int .u8 (97 + m2)] 5)) T0) (byteCells T0) (WW (w2.alloc (.cells #[.int .u8 (97 + m1), .int .u8 (97 + m2)] 5)) T0) := by
    obtain ⟨q1, q2⟩ := H.out.1 (w2.alloc (.cells #[.int .u8 (97 + m1), .int .u8 (97 + m2)] 5)) T0
    have hb := bl_trans' (below_new w2 (.cells #[.int .u8 (97 + m1), .int .u8 (97 + m2)] 5)) q2
    exact ⟨q1.base (by simp), isB_cells _, H.out.2.below hb, below_gfr hb⟩
  obtain ⟨v0, hv0⟩ : ∃ v0, V (w2.alloc (.cells #[.int .u8 (97 + m1), .int .u8 (97 + m2)] 5)) T0 = v0 := ⟨_, rfl⟩
  obtain ⟨x0, hx0⟩ : ∃ x0, WW (w2.alloc (.cells #[.int .u8 (97 + m1), .int .u8 (97 + m2)] 5)) T0 = x0 := ⟨_, rfl⟩
  rw [hv0, hx0] at hI
  rw [hv0, hx0]
  have hL0 : (byteCells T0).length = 15 := (byteCells_length T0).trans HS.out
  obtain ⟨L0, hL⟩ : ∃ L0, byteCells T0 = L0 := ⟨_, rfl⟩
  rw [hL] at hI hL0
  clear HS hT0 hv0 hx0 hL H
  refine (next_any C (m + 1) x0 hI.mka (by omega) (by omega)).mono ?_
  rintro e x1 ⟨⟨n0, rfl, hn0, hn1⟩, hm, hf⟩
  have hI1 := hI.step hC hm hf
  have HI := Lib.hid hI1
  clear hI hm hf hI1
  obtain ⟨k0, rfl⟩ : ∃ i : Nat, n0 = (i : Int) := ⟨n0.toNat, by omega⟩
  have hk0 : k0 ≤ 5 := by omega
  clear hn0 hn1
  go_wp2_with fail
  go_loopw [7, 8] (fun bv nv wr => ∃ (L : List Value) (k : Nat), nv = .int .i64 k ∧ 15 ≤ L.length ∧ L.length + 220 * k ≤ 1200 ∧ DatI C w2 bv L wr) (fun _ nv _ => (intOf nv).toNat)
  case atStart => exact ⟨L0, k0, rfl, by omega, by omega, HI.out⟩
  case round =>
    obtain ⟨L, k, rfl, h15, hx, hI⟩ := hrel
    by_cases hk : 0 < k
    · have d1 : decide ((0 : Int) < (k : Int)) = true := by rw [decide_eq_true_iff]; omega
      have d2 : decide (0 < k) = true := by rw [decide_eq_true_iff]; omega
      have HJ := Lib.hid hI
      clear hI
      go_wp2_with fail
      refine (line_any C _ HJ.out.mka).mono ?_
      rintro e x2 ⟨⟨s1, rfl, hs1⟩, hm, hf⟩
      have HK := Lib.hid (HJ.out.step hC hm hf)
      clear hm hf
      go_wp2_with (at_builtin; refine wpList_append_buf rfl (.tmp 31) (.tmp 33) rfl rfl HK.out.buf ?c1 s1 rfl ?c2 ?_)
      case c1 => exact HK.out.fr.size
      case c2 => omega
      intro v1 x3 hb1 g1 hg1 hgr1
      have HM := Lib.hid (HK.out.app hC hb1 ⟨g1, hg1, hgr1⟩)
      have hl1 : (L ++ byteCells s1).length ≤ L.length + 200 := by rw [List.length_append, byteCells_length]; omega
      clear hb1 hg1 hgr1
      go_wp2_with fail
      refine (pickB C _ _ _ 5 4 HM.out.mka rfl (by omega) (by omega) (by rfl)).mono ?_
      rintro e x4 ⟨⟨s2, rfl, hs2⟩, hm, hf⟩
      have HN := Lib.hid (HM.out.step hC hm hf)
      clear hm hf
      go_wp2_with (at_builtin; refine wpList_append_buf rfl (.tmp 35) (.tmp 38) rfl rfl HN.out.buf ?c3 s2 rfl ?c4 ?_)
      case c3 => exact HN.out.fr.size
      case c4 => omega
      intro v2 x5 hb2 g2 hg2 hgr2
      have HQ := Lib.hid (HN.out.app hC (by rw [List.append_assoc]; exact hb2) ⟨g2, hg2, hgr2⟩)
      have hl2 : (L ++ byteCells s1 ++ byteCells s2).length ≤ L.length + 220 := by rw [List.length_append, byteCells_length]; omega
      clear hb2 hg2 hgr2
      go_wp2
      go_roundw
      case rel => exact ⟨_, k - 1, by congr 1; omega, by rw [List.length_append, List.length_append]; omega, by omega, HQ.out⟩
      case measure => simp [intOf]; omega
    · obtain rfl : k = 0 := by omega
      have HJ := Lib.hid hI
      clear hI
      go_wp2_with fail
      refine (next_any C 5 _ HJ.out.mka (by omega) (by omega)).mono ?_
      rintro e x2 ⟨⟨z2, rfl, hz20, hz21⟩, hm, hf⟩
      have HK := Lib.hid (HJ.out.step hC hm hf)
      clear hm hf
      by_cases h4 : z2 = 4
      · subst h4
        go_wp2_with fail
        refine (line_any C _ HK.out.mka).mono ?_
        rintro e x3 ⟨⟨s1, rfl, hs1⟩, hm, hf⟩
        have HM := Lib.hid (HK.out.step hC hm hf)
        clear hm hf
        go_wp2_with (at_builtin; refine wpList_append_buf rfl (.tmp 43) (.tmp 45) rfl rfl HM.out.buf ?c5 s1 rfl ?c6 ?_)
        case c5 => exact HM.out.fr.size
        case c6 => omega
        intro v1 x4 hb1 g1 hg1 hgr1
        have HN := Lib.hid (HM.out.app hC hb1 ⟨g1, hg1, hgr1⟩)
        have hl1 : (L ++ byteCells s1).length ≤ L.length + 200 := by rw [List.length_append, byteCells_length]; omega
        clear hb1 hg1 hgr1
        go_wp2
        go_ret
        exact ⟨⟨_, _, rfl, HN.out.buf, HN.out.by', by rw [List.length_append]; omega, by omega⟩, HN.out.mka, HN.out.fr⟩
      · have d4 : decide (z2 = 4) = false := decide_eq_false h4
        go_wp2
        go_ret
        exact ⟨⟨_, _, rfl, HK.out.buf, HK.out.by', by omega, by omega⟩, HK.out.mka, HK.out.fr⟩
end Go.Proofs.Ytbpboghjgbgjfaa
