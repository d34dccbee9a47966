/- remove, rename; point at a name that is there. -/
import Derived.Test.YtbpboghjgbgjfaaFsM
import Derived.Test.YtbpboghjgbgjfaaFtB
namespace Go.Proofs.Ytbpboghjgbgjfaa
open Go.RowKit

variable {d base : Nat} {names : List NameV} {files : List FileV} {opn : List Int} {nv fv ov : Value} {w w' : World}
set_option maxRecDepth 100000 in
set_option maxHeartbeats 4000000 in
theorem remove_ok (kind : Int) (t t2 : ByteArray) (dv : Value) (n : Int) (k j m : Nat) (h : DirAt d base names files opn nv fv ov w) (hn : Named names files t k j) (hL : names.length = m + 1) (hk : k < m + 1) (hp : ∀ i (h : i < names.length), (names[i].1.toList == t.toList) = decide (i = k)) :
    Calls Try.prog 42 #[.pointer (some ⟨d, 0, none⟩), .agg #[.int .i64 kind, .string t, .string t2, dv, .int .i64 n]] w fun e w' => e = .returned (.int .i64 0) ∧ ∃ nv', DirOut d base (names.eraseIdx k) files opn ov nv fv w nv' fv w' := by
  obtain ⟨g, c, hfv, -, hglt, hcap, hcm⟩ := row_some h.f (by have := hn.hj; omega)
  have hbn := below_new w (.cells #[.int .i64 kind, .string t, .string t2, dv, .int .i64 n] 39)
  have hbx := BkAt.new 39 #[.int .i64 kind, .string t, .string t2, dv, .int .i64 n] w
  have h1 := h.below hbn
  have hnm := named_yes t k j h1 hn g c hfv
  have hfg := fun W (hW : Below w.heap.size w W) => forget_any t k m (h.below hW) hL hk hp
  have H := Lib.hid (And.intro hnm (And.intro hbn (And.intro hbx hfg)))
  clear hnm hbn hbx h1 h hp hfg
  go_enter Try.func42, Try.ntmps42
  go_wp2_with fail
  refine H.out.1.mono ?_
  rintro e w1 ⟨rfl, hb1⟩
  have HB := Lib.hid (bl_trans' H.out.2.1 hb1)
  have c4 := (H.out.2.2.1.below hb1).cell 1
  simp only [List.getElem?_toArray, List.getElem?_cons_zero, List.getElem?_cons_succ] at c4
  clear hb1
  go_wp2_with fail
  refine (H.out.2.2.2 w1 HB.out).mono ?_
  rintro e w2 ⟨rfl, nv2, ho⟩
  have HO := Lib.hid (ho.after HB.out)
  clear ho
  go_wp2
  go_ret
  exact ⟨rfl, _, HO.out⟩
set_option maxRecDepth 100000 in
set_option maxHeartbeats 4000000 in
theorem point_old (t : ByteArray) (ino : Int) (k : Nat) (h : DirAt d base names files opn nv fv ov w) (hpl : PlaceN names t k) (hk : k < names.length) (hh : hitN names t k = true) :
    Calls Try.prog 62 #[.pointer (some ⟨d, 0, none⟩), .string t, .int .i64 ino] w fun e w' => e = .returned (.tuple #[]) ∧ DirOut d base (names.set k (names[k].1, ino)) files opn ov nv fv w nv fv w' := by
  have hf := findName_any names t k base nv w h.n (by have := h.nl; omega) hpl
  obtain ⟨g, c, hnv, -, hglt, hcap, hcm⟩ := row_some h.n (by omega)
  have hout := fun W (hW : Below w.heap.size w W) => ((DirOut.refl (h.below hW)).after hW).number (ino := ino) hnv hk
  have hfc : ∀ W, Below w.heap.size w W → W.cell? ⟨d, 0, none⟩ = some nv ∧ W.cell? ⟨g, k * 2 + 1, none⟩ = some (.int .i64 names[k].2) ∧ W.frozen? ⟨g, k * 2 + 1, none⟩ = false := fun W hW => by
    have hr := (h.below hW).n
    rw [hnv] at hr
    obtain ⟨-, q⟩ := NmR.cells hr hk
    exact ⟨(h.below hW).cs.1, q, World.ownsRow.frozenAt hr _⟩
  rw [hh] at hf
  subst hnv
  obtain ⟨c0, -, -⟩ := hfc w (Below.refl _ _)
  have H := Lib.hid (And.intro hf (And.intro hfc hout))
  obtain ⟨N, hN⟩ : ∃ N, names.length = N := ⟨_, rfl⟩
  rw [hN] at H hk hcap c0 ⊢
  have HN := Lib.hid hN
  clear hf hfc hout h hN
  go_enter Try.func62, Try.ntmps62
  go_wp2_with fail
  refine H.out.1.mono ?_
  rintro e w1 ⟨rfl, hb1⟩
  obtain ⟨q0, q1, q2⟩ := H.out.2.1 w1 hb1
  have HO := Lib.hid (H.out.2.2 w1 hb1)
  clear hb1 c0
  go_wp2
  go_end0
  exact ⟨rfl, HO.out⟩
end Go.Proofs.Ytbpboghjgbgjfaa
