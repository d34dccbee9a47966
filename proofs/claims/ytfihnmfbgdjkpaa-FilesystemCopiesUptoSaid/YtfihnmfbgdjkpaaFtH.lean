/- copyMore of a copy that is whole. -/
import Derived.Test.YtfihnmfbgdjkpaaFsM
namespace Go.Proofs.Ytfihnmfbgdjkpaa
open Go.RowKit

variable {d base : Nat} {names : List NameV} {files : List FileV} {opn : List Int} {nv fv ov : Value} {w w' : World}
set_option maxRecDepth 100000 in
set_option maxHeartbeats 4000000 in
theorem copyMore_end (kind : Int) (t t2 : ByteArray) (dv : Value) (n : Int) (k j : Nat) (h : DirAt d base names files opn nv fv ov w) (hn : Named names files t k j) (hcp : (files[j]'hn.hj).cp = true) (hwh : (files[j]'hn.hj).wh = true) :
    Calls Try.prog 77 #[.pointer (some ⟨d, 0, none⟩), .agg #[.int .i64 kind, .string t, .string t2, dv, .int .i64 n]] w fun e w' => e = .returned (.int .i64 17) ∧ Below w.heap.size w w' := by
  obtain ⟨g, c, hfv, -, hglt, hcap, hcm⟩ := row_some h.f (by have := hn.hj; omega)
  have hbn := below_new w (.cells #[.int .i64 kind, .string t, .string t2, dv, .int .i64 n] 37)
  have h1 := h.below hbn
  have hnm := named_yes t k j h1 hn g c hfv
  have hdv' : ∀ W, Below w.heap.size w W → W.cell? ⟨g, j * 5 + 2, none⟩ = some (.bool true) ∧ W.cell? ⟨g, j * 5 + 3, none⟩ = some (.bool true) := fun W hW => by
    have hf := (h.below hW).f
    rw [hfv] at hf
    obtain ⟨-, -, q2, q3, -⟩ := FlR.cells hf hn.hj
    rw [hcp] at q2
    rw [hwh] at q3
    exact ⟨q2, q3⟩
  have H := Lib.hid (And.intro hnm (And.intro hdv' hbn))
  have hne : g ≠ w.heap.size := by omega
  clear hnm hdv' hbn h1 h hcp hwh
  go_enter Try.func77, Try.ntmps77
  go_wp2_with fail
  refine H.out.1.mono ?_
  rintro e w1 ⟨rfl, hb1⟩
  have HB := Lib.hid (bl_trans' H.out.2.2 hb1)
  obtain ⟨q2, q3⟩ := H.out.2.1 w1 HB.out
  clear hb1
  go_wp2
  go_ret
  exact ⟨rfl, HB.out⟩
end Go.Proofs.Ytfihnmfbgdjkpaa
