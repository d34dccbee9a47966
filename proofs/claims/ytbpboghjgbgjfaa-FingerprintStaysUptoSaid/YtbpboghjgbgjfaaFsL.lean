/- The contract of startCopy, where the new name comes last. -/
import Derived.Test.YtbpboghjgbgjfaaFsK
namespace Go.Proofs.Ytbpboghjgbgjfaa
open Go.RowKit

variable {d base : Nat} {names : List NameV} {files : List FileV} {opn : List Int} {nv fv ov : Value} {w w' : World}
set_option maxRecDepth 100000 in
set_option maxHeartbeats 4000000 in
theorem startCopy_ok (kind : Int) (t t2 : ByteArray) (dv : Value) (n : Int) (l : List UInt8) (k j : Nat) (h : DirAt d base names files opn nv fv ov w) (hn : Named names files t k j) (hcp : (files[j]'hn.hj).cp = false) (hk : PlaceN names t2 names.length) (hnl : names.length < 40)
    (hl : l.length ≤ 60000) (hdt : DtR w (files[j]'hn.hj).dv l) (hseq : ∀ i (h : i < files.length), files[i].ino = (i : Int) + 1) (hfl : files.length ≤ 800) (hbase : base ≤ w.heap.size) :
    Calls Try.prog 40 #[.pointer (some ⟨d, 0, none⟩), .agg #[.int .i64 kind, .string t, .string t2, dv, .int .i64 n]] w fun e w' => e = .returned (.int .i64 0) ∧ ∃ nv' fv' dv', DirOut d base (names ++ [(t2, (files.length : Int) + 1)]) (files ++ [⟨(files.length : Int) + 1, dv', true, false, (l.length : Int)⟩]) opn ov nv fv w nv' fv' w' ∧ DtR w' dv' l := by
  obtain ⟨g, c, hfv, -, hglt, hcap, hcm⟩ := row_some h.f (by have := hn.hj; omega)
  have hbn := below_new w (.cells #[.int .i64 kind, .string t, .string t2, dv, .int .i64 n] 39)
  have hbx := BkAt.new 39 #[.int .i64 kind, .string t, .string t2, dv, .int .i64 n] w
  have h1 := h.below hbn
  have hnm := named_yes t k j h1 hn g c hfv
  have hcn := fun W (hW : Below (w.alloc (.cells #[.int .i64 kind, .string t, .string t2, dv, .int .i64 n] 39)).heap.size (w.alloc (.cells #[.int .i64 kind, .string t, .string t2, dv, .int .i64 n] 39)) W) => checkNew_any t2 names.length (h1.below hW) hk
  have e0 : newE names t2 names.length = 0 := by
    have hh : hitN names t2 names.length = false := by unfold hitN; rw [dif_neg (by omega)]
    unfold newE; rw [hh, if_neg Bool.false_ne_true, if_neg (by omega)]
  rw [e0] at hcn
  have hfc : ∀ W, Below w.heap.size w W → W.cell? ⟨g, j * 5 + 1, none⟩ = some (files[j]'hn.hj).dv ∧ W.cell? ⟨g, j * 5 + 2, none⟩ = some (.bool false) := fun W hW => by
    have hf := (h.below hW).f
    rw [hfv] at hf
    obtain ⟨-, q1, q2, -, -⟩ := FlR.cells hf hn.hj
    rw [hcp] at q2
    exact ⟨q1, q2⟩
  obtain ⟨x, hx⟩ : ∃ x, files[j]'hn.hj = x := ⟨_, rfl⟩
  rw [hx] at hfc hdt
  obtain ⟨da, dc, hxd⟩ := (hdt.src (by omega)).slice
  have hadd := fun W (hW : Below w.heap.size w W) =>
    add_end (w := W) ⟨0, x.dv, true, false, (l.length : Int)⟩ l (h.below hW) ((hdt.src (by omega)).below hW) hseq hfl (Nat.le_trans hbase hW.size)
  rw [hxd] at hadd hfc
  have HS := Lib.hid hfc
  obtain ⟨m, hm⟩ : ∃ m, l.length = m := ⟨_, rfl⟩
  have H := Lib.hid (And.intro hnm (And.intro hcn (And.intro hadd (And.intro hbn (And.intro hbx (And.intro h (And.intro hk (And.intro hbase hnl))))))))
  rw [hm] at H HS
  have HM := Lib.hid hm
  rw [hm]
  clear hnm hcn hadd hbn hbx h hk hbase hnl e0 hfc hcp hn hdt hseq h1 hx hxd hm hfv
  go_enter Try.func40, Try.ntmps40
  go_wp2_with fail
  refine H.out.1.mono ?_
  rintro e w1 ⟨rfl, hb1⟩
  have HB := Lib.hid hb1
  have hx1 := H.out.2.2.2.2.1.below hb1
  have c2 := hx1.cell 2
  simp only [List.getElem?_toArray, List.getElem?_cons_zero, List.getElem?_cons_succ] at c2
  obtain ⟨q1, q2⟩ := HS.out w1 (bl_trans' H.out.2.2.2.1 hb1)
  have HX := Lib.hid hx1
  clear hb1 hx1
  go_wp2_with fail
  refine (H.out.2.1 _ HB.out).mono ?_
  rintro e w2 ⟨rfl, hb2⟩
  have HB2 := Lib.hid (bl_trans' HB.out hb2)
  have hx2 := HX.out.below hb2
  have HX2 := Lib.hid hx2
  have c2 := hx2.cell 2
  simp only [List.getElem?_toArray, List.getElem?_cons_zero, List.getElem?_cons_succ] at c2
  clear q1 q2 hb2 hx2
  obtain ⟨q1, q2⟩ := HS.out w2 (bl_trans' H.out.2.2.2.1 HB2.out)
  go_upto_region 9 with (fail)
  have HW := Lib.hid (And.intro HX2.out.lt (bl_trans' H.out.2.2.2.1 HB2.out))
  go_region_law ((go_simp; go_wp2_with (first
    | (go_at_call 63; refine (H.out.2.2.1 _ HW.out.2.drew).mono ?_; rintro e w3 ⟨rfl, fv3, dv3, ho3, hdt3⟩; have hbx3 := (show BkAt w.heap.size _ _ w2.drew from HX2.out).dir H.out.2.2.2.2.2.1 (Nat.le_refl _) ho3.c; have c3 := hbx3.cell 2)
    | (go_at_call 62; refine (point_new t2 _ ho3.a H.out.2.2.2.2.2.2.1 (by have := H.out.2.2.2.2.2.2.2.2; omega) (Nat.le_trans H.out.2.2.2.2.2.2.2.1 (Nat.le_trans HW.out.2.drew.size ho3.c.size))).mono ?_; rintro e w4 ⟨rfl, nv4, ho4⟩))))
  all_goals
    have HD := Lib.hid (And.intro ((ho3.trans ho4).after HW.out.2.drew) (hdt3.dir ho3.a ho4.c))
    clear hbx3 ho3 ho4 hdt3
    go_wp2
    go_ret
    exact ⟨rfl, _, _, _, HD.out.1, HD.out.2⟩
end Go.Proofs.Ytbpboghjgbgjfaa
