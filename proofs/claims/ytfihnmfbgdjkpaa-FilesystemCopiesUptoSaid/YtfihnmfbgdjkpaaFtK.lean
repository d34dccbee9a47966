/- rename, where the new name comes last. -/
import Derived.Test.YtfihnmfbgdjkpaaFtD
import Derived.Test.YtfihnmfbgdjkpaaFsK
namespace Go.Proofs.Ytfihnmfbgdjkpaa
open Go.RowKit

variable {d base : Nat} {names : List NameV} {files : List FileV} {opn : List Int} {nv fv ov : Value} {w w' : World}
set_option maxRecDepth 100000 in
set_option maxHeartbeats 8000000 in
theorem rename_ok (kind : Int) (t t2 : ByteArray) (dv : Value) (n : Int) (k j m : Nat) (h : DirAt d base names files opn nv fv ov w) (hn : Named names files t k j) (hL : names.length = m + 1) (hk : k < m + 1) (hp : ∀ i (h : i < names.length), (names[i].1.toList == t.toList) = decide (i = k))
    (hne2 : (t2.toList == t.toList) = false) (hpl : PlaceN (names.eraseIdx k) t2 (names.eraseIdx k).length) (hm : m ≤ 700) (hbase : base ≤ w.heap.size) :
    Calls Try.prog 75 #[.pointer (some ⟨d, 0, none⟩), .agg #[.int .i64 kind, .string t, .string t2, dv, .int .i64 n]] w fun e w' => e = .returned (.int .i64 0) ∧ ∃ nv', DirOut d base (names.eraseIdx k ++ [(t2, (files[j]'hn.hj).ino)]) files opn ov nv fv w nv' fv w' := by
  obtain ⟨g, c, hfv, -, hglt, hcap, hcm⟩ := row_some h.f (by have := hn.hj; omega)
  have hbn := below_new w (.cells #[.int .i64 kind, .string t, .string t2, dv, .int .i64 n] 37)
  have hbx := BkAt.new 37 #[.int .i64 kind, .string t, .string t2, dv, .int .i64 n] w
  have h1 := h.below hbn
  have hnm := named_yes t k j h1 hn g c hfv
  have hfg := fun W (hW : Below w.heap.size w W) => forget_any t k m (h.below hW) hL hk hp
  have hel : (names.eraseIdx k).length ≤ 800 := by rw [List.length_eraseIdx]; split <;> omega
  have hfc : ∀ (names2 : List NameV) (nv2 : Value) (W : World), DirAt d base names2 files opn nv2 fv ov W → W.cell? ⟨g, j * 5, none⟩ = some (.int .i64 (files[j]'hn.hj).ino) := fun names2 nv2 W hW => by
    have hf := hW.f
    rw [hfv] at hf
    exact (FlR.cells hf hn.hj).1
  have H := Lib.hid (And.intro hnm (And.intro hbn (And.intro hbx (And.intro hfg (And.intro h (And.intro hpl (And.intro hel hfc)))))))
  obtain ⟨ino, hino⟩ : ∃ x, (files[j]'hn.hj).ino = x := ⟨_, rfl⟩
  rw [hino] at H ⊢
  clear hnm hbn hbx h1 h hp hfg hpl hel hfc hino
  go_enter Try.func75, Try.ntmps75
  go_wp2_with fail
  refine H.out.1.mono ?_
  rintro e w1 ⟨rfl, hb1⟩
  have HB := Lib.hid (bl_trans' H.out.2.1 hb1)
  have hb3 := H.out.2.2.1.below hb1
  obtain ⟨c1, c2⟩ : w1.cell? ⟨w.heap.size, 1, none⟩ = some (.string t) ∧ w1.cell? ⟨w.heap.size, 2, none⟩ = some (.string t2) := ⟨hb3.cell 1, hb3.cell 2⟩
  have HX := Lib.hid hb3
  clear hb1 hb3
  go_wp2_with fail
  refine (H.out.2.2.2.1 w1 HB.out).mono ?_
  rintro e w2 ⟨rfl, nv2, ho⟩
  have hbx2 := HX.out.dir H.out.2.2.2.2.1 (Nat.le_refl _) ho.c
  have HO := Lib.hid (And.intro (ho.after HB.out) hbx2)
  have HP := Lib.hid (fun W (hW : Below w2.heap.size w2 W) => point_new t2 ino (ho.a.below hW) H.out.2.2.2.2.2.1 H.out.2.2.2.2.2.2.1 (Nat.le_trans hbase (Nat.le_trans HB.out.size (Nat.le_trans ho.c.size hW.size))))
  have HS := Lib.hid (show ∀ (nv3 : Value) (names3 : List NameV) (W : World), BkAt w.heap.size 37 #[.int .i64 kind, .string t, .string t2, dv, .int .i64 n] W → DirAt d base names3 files opn nv3 fv ov W → W.cell? ⟨w.heap.size, 2, none⟩ = some (.string t2) ∧ W.cell? ⟨g, j * 5, none⟩ = some (.int .i64 ino) from fun nv3 names3 W h1 h2 => ⟨h1.cell 2, H.out.2.2.2.2.2.2.2 _ _ _ h2⟩)
  have hdlt := H.out.2.2.2.2.1.row.lt
  have HK := Lib.hid (show ¬ DirP d nv2 fv w.heap.size from fun e => by
    rcases e with e | e | e
    · omega
    · exact row_ne ho.a.n hbx2 (by decide) e rfl
    · exact row_ne ho.a.f hbx2 (by decide) e rfl)
  clear ho c1 c2 hbx2 hdlt
  go_wp2_with fail
  go_region_held3 (fun W => W.cell? ⟨w.heap.size, 2, none⟩ = some (.string t2) ∧ W.cell? ⟨g, j * 5, none⟩ = some (.int .i64 ino)) (first | exact HS.out _ _ _ HO.out.2 HO.out.1.a | exact HS.out _ _ _ (show BkAt _ _ _ w2.drew from HO.out.2) (HO.out.1.a.below (Below.refl _ _).drew) | exact HS.out _ _ _ hb5 ho5.a)
    (first | (go_at_call 101; refine (HP.out _ (Below.refl _ _).drew).mono ?_; rintro e w3 ⟨rfl, nv3, ho3⟩; have ho5 := (HO.out.1.below (Below.refl _ _).drew).trans ho3; have hb5 := (show BkAt w.heap.size 37 #[.int .i64 kind, .string t, .string t2, dv, .int .i64 n] w2.drew from HO.out.2).ch ho3.c (HK.out)))
  all_goals
    have HZ := Lib.hid ho5
    clear ho5 ho3 hb5
    go_wp2
    go_ret
    exact ⟨rfl, _, HZ.out⟩
end Go.Proofs.Ytfihnmfbgdjkpaa
