/- replace. -/
import Derived.Test.YtbpboghjgbgjfaaFtD
namespace Go.Proofs.Ytbpboghjgbgjfaa
open Go.RowKit

variable {d base : Nat} {names : List NameV} {files : List FileV} {opn : List Int} {nv fv ov : Value} {w w' : World}
set_option maxRecDepth 100000 in
set_option maxHeartbeats 4000000 in
theorem replace_ok (kind : Int) (t t2 : ByteArray) (dv : Value) (n : Int) (l : List UInt8) (k j : Nat) (h : DirAt d base names files opn nv fv ov w) (hn : Named names files t k j) (hl : l.length ≤ 60000) (hsrc : SrcB w dv l)
    (hseq : ∀ i (h : i < files.length), files[i].ino = (i : Int) + 1) (hfl : files.length ≤ 800) (hbase : base ≤ w.heap.size) :
    Calls Try.prog 43 #[.pointer (some ⟨d, 0, none⟩), .agg #[.int .i64 kind, .string t, .string t2, dv, .int .i64 n]] w fun e w' => e = .returned (.int .i64 0) ∧ ∃ nv' fv' dv', DirOut d base (names.set k ((names[k]'hn.hk).1, (files.length : Int) + 1)) (files ++ [⟨(files.length : Int) + 1, dv', false, true, 0⟩]) opn ov nv fv w nv' fv' w' ∧ DtR w' dv' l := by
  obtain ⟨da, dc, hdv⟩ := hsrc.slice
  subst hdv
  have hbn := below_new w (.cells #[.int .i64 kind, .string t, .string t2, .slice da l.length dc, .int .i64 n] 39)
  have hbx := BkAt.new 39 #[.int .i64 kind, .string t, .string t2, .slice da l.length dc, .int .i64 n] w
  have h1 := h.below hbn
  obtain ⟨g, c, hfv, -, hglt, hcap, hcm⟩ := row_some h.f (by have := hn.hj; omega)
  have hcn := named_yes t k j h1 hn g c hfv
  have hadd := fun W (hW : Below (w.alloc (.cells #[.int .i64 kind, .string t, .string t2, .slice da l.length dc, .int .i64 n] 39)).heap.size (w.alloc (.cells #[.int .i64 kind, .string t, .string t2, .slice da l.length dc, .int .i64 n] 39)) W) =>
    add_end (w := W) ⟨0, .slice da l.length dc, false, true, 0⟩ l (h1.below hW) ((hsrc.below hbn).below hW) hseq hfl (Nat.le_trans hbase (Nat.le_trans hbn.size hW.size))
  have HS := Lib.hid (show ∀ W, BkAt w.heap.size 39 #[.int .i64 kind, .string t, .string t2, .slice da l.length dc, .int .i64 n] W → W.cell? ⟨w.heap.size, 1, none⟩ = some (.string t) ∧ W.cell? ⟨w.heap.size, 3, none⟩ = some (.slice da l.length dc) from fun W hW => ⟨hW.cell 1, hW.cell 3⟩)
  have H := Lib.hid (And.intro hcn (And.intro hadd (And.intro hbx (And.intro h1 (And.intro hbn (And.intro h (And.intro hn hbase)))))))
  have hl2 : ¬ (60000 : Int) < (l.length : Int) := by omega
  have hd2 : decide ((60000 : Int) < (l.length : Int)) = false := by rw [decide_eq_false_iff_not]; exact hl2
  obtain ⟨m, hm⟩ : ∃ m, l.length = m := ⟨_, rfl⟩
  rw [hm] at H HS hl2 hd2 ⊢
  clear hcn hadd hbx h1 hbn h hbase hsrc hseq hl hm
  go_enter Try.func43, Try.ntmps43
  go_wp2_with fail
  refine H.out.1.mono ?_
  rintro e w1 ⟨rfl, hb1⟩
  have HB := Lib.hid hb1
  have hx1 := H.out.2.2.1.below hb1
  have c3 := hx1.cell 3
  simp only [List.getElem?_toArray, List.getElem?_cons_zero, List.getElem?_cons_succ] at c3
  have HX := Lib.hid hx1
  clear hb1 hx1
  go_upto_region 5 with (fail)
  clear c3
  go_region_held3 (fun W => W.cell? ⟨w.heap.size, 1, none⟩ = some (.string t) ∧ W.cell? ⟨w.heap.size, 3, none⟩ = some (.slice da m dc)) (first | exact HS.out _ HX.out | exact HS.out _ (show BkAt _ _ _ _ from HX.out) | exact HS.out _ hbx3 | exact HS.out _ hbx2)
    (first
      | (go_at_call 63; refine (H.out.2.1 _ HB.out.drew).mono ?_; rintro e w2 ⟨rfl, fv2, dv2, ho2, hdt2⟩; have hbx2 := (show BkAt w.heap.size _ _ w1.drew from HX.out).dir H.out.2.2.2.2.2.1 (Nat.le_refl _) ho2.c)
      | (go_at_call 62; refine (point_old t _ k ho2.a hn.p hn.hk hn.hh).mono ?_; rintro e w3 ⟨rfl, ho3⟩; have hbx3 := (show BkAt w.heap.size _ _ w1.drew from HX.out).dir H.out.2.2.2.2.2.1 (Nat.le_refl _) (ho2.trans ho3).c))
  all_goals
    have HD := Lib.hid (And.intro ((ho2.trans ho3).after (bl_trans' (bl_trans' H.out.2.2.2.2.1 HB.out) (Below.refl _ _).drew)) (hdt2.dir ho2.a ho3.c))
    clear hbx2 hbx3 ho2 ho3 hdt2
    go_wp2
    go_ret
    exact ⟨rfl, _, _, _, HD.out.1, HD.out.2⟩
end Go.Proofs.Ytbpboghjgbgjfaa
