/- The contracts of the reference's walk and Check. -/
import Derived.Test.YtfmoidhpafpgnaaRefChk
import Derived.Test.YtfmoidhpafpgnaaPatParse
namespace Go.Proofs.Ytfmoidhpafpgnaa
open Go.RowKit

/-- The names that the walk has met: a slice that is its own. -/
def NmAt (base k : Nat) (L : List ByteArray) (nv : Value) (w : World) : Prop :=
  w.ownsRow base 9 1 nv L.length (L.map Value.string) ∧ (∀ x ∈ L, x.size ≤ maxLen) ∧ L.length ≤ k
/-- What may change: the names' own block. -/
def NmTo (nv nv' : Value) (w w' : World) : Prop := w.grownBy w' nv.ownBlock ∧ (nv'.ownBlock = nv.ownBlock ∨ ∃ g, nv'.ownBlock = some g ∧ w.heap.size ≤ g)
theorem NmTo.trans {n1 n2 n3 : Value} {a b c : World} (h : NmTo n1 n2 a b) (k : NmTo n2 n3 b c) : NmTo n1 n3 a c := by
  obtain ⟨h1, h2⟩ := h
  obtain ⟨k1, k2⟩ := k
  have hs := World.grownBy.size h1
  refine ⟨⟨k1.os.trans h1.os, k1.tape.trans h1.tape, k1.output.trans h1.output, Nat.le_trans hs (World.grownBy.size k1), fun i hi hn => (World.grownBy.block k1 i (by omega) fun e => ?_).trans (World.grownBy.block h1 i hi hn)⟩, ?_⟩
  · rcases h2 with e2 | ⟨g, e2, hg⟩
    · rw [e2] at e; exact hn e
    · rw [e2] at e; have := Option.some.inj e; omega
  · rcases k2 with e2 | ⟨g, e2, hg⟩
    · rcases h2 with e3 | ⟨g', e3, hg'⟩
      · exact .inl (e2.trans e3)
      · exact .inr ⟨g', e2.trans e3, hg'⟩
    · exact .inr ⟨g, e2, by omega⟩
theorem NmTo.below {nv : Value} {w w' : World} (h : Below w.heap.size w w') : NmTo nv nv w w' := ⟨⟨h.os, h.tape, h.output, h.size, fun i hi _ => h.block i hi⟩, .inl rfl⟩
theorem NmTo.alloc (nv : Value) (w : World) (o : Obj) : NmTo nv nv w (w.alloc o) := NmTo.below ((Below.refl _ _).alloc (Nat.le_refl _) o)
theorem NmTo.nbox {nv nv' : Value} {w w' : World} {X : Nat} {v0 v1 v2 v3 v4 v5 : Value} (h : NmTo nv nv' w w') (hb : NBox w X v0 v1 v2 v3 v4 v5) (hne : nv.ownBlock ≠ some X) : NBox w' X v0 v1 v2 v3 v4 v5 :=
  (World.grownBy.block h.1 X (Array.getElem?_eq_some_iff.1 hb).1 fun e => hne e.symm).trans hb
theorem NmAt.own_lt {base k : Nat} {L : List ByteArray} {nv : Value} {w : World} (h : NmAt base k L nv w) : ∀ g, nv.ownBlock = some g → base ≤ g ∧ g < w.heap.size := fun g hg => h.1.lt g hg
theorem NmTo.base {base k : Nat} {L : List ByteArray} {nv nv' : Value} {W0 w w' : World} (h : NmTo nv nv' w w') (hn : NmAt base k L nv w) (hb : Below base W0 w) (hz : base ≤ W0.heap.size) : Below base W0 w' :=
  hb.grown h.1 (Nat.le_trans hz hb.size) fun j hj => (hn.own_lt j hj).1
theorem NmAt.kept {base k : Nat} {L : List ByteArray} {nv : Value} {w w' : World} (h : NmAt base k L nv w) (hb : Below w.heap.size w w') : NmAt base k L nv w' :=
  have hg : w.grownBy w' none := ⟨hb.os, hb.tape, hb.output, hb.size, fun i hi _ => hb.block i hi⟩
  ⟨h.1.kept hg (by cases nv.ownBlock <;> simp), h.2⟩

/-- What walk does at a node. -/
def RwOk (t : Nd) : Prop :=
  ∀ (W0 : World) (v nv : Value) (d : Nat) (w : World) (k : Nat) (L : List ByteArray), NodeIn 0 W0 t v → Below W0.heap.size W0 w → NmAt W0.heap.size k L nv w → k ≤ 400 → d ≤ 21 →
    Calls Try.prog 19 #[v, .int .i64 (d : Int), .int .i64 (k : Int), nv] w fun e w' => ∃ nv', e = .returned (.tuple #[.int .i64 (visN t d (k, L)).2.1, nv', .int .i64 (visN t d (k, L)).1]) ∧ NmAt W0.heap.size (visN t d (k, L)).2.1 (visN t d (k, L)).2.2 nv' w' ∧ NmTo nv nv' w w'

set_option maxRecDepth 100000 in
set_option maxHeartbeats 8000000 in
theorem rwalk_out (op : Int) (rs : List (Nat × Nat)) (nm : ByteArray) (kids : List Nd) (mn mx : Int) (ih : ∀ k ∈ kids, RwOk k) (W0 : World) (v nv : Value) (d : Nat) (w : World) (k : Nat) (L : List ByteArray) (hn : NodeIn 0 W0 (.mk op rs nm kids mn mx) v) (hbw : Below W0.heap.size W0 w) (hnm : NmAt W0.heap.size k L nv w) (hk : k ≤ 400) (hd : d ≤ 21) (hq : 400 < k + 1 ∨ 20 < d ∨ nodeErr op rs nm kids.length mn mx ≠ 0) :
    Calls Try.prog 19 #[v, .int .i64 (d : Int), .int .i64 (k : Int), nv] w fun e w' => ∃ nv', e = .returned (.tuple #[.int .i64 (visN (.mk op rs nm kids mn mx) d (k, L)).2.1, nv', .int .i64 (visN (.mk op rs nm kids mn mx) d (k, L)).1]) ∧ NmAt W0.heap.size (visN (.mk op rs nm kids mn mx) d (k, L)).2.1 (visN (.mk op rs nm kids mn mx) d (k, L)).2.2 nv' w' ∧ NmTo nv nv' w w' := by
  unfold NodeIn at hn
  obtain ⟨rv, ka, kc, rfl, ho, h2, h3, h4, h5, hr, hks⟩ := hn
  have hrk := hr
  obtain ⟨ra, rc, rfl, -⟩ := hrk
  unfold ndVals
  unfold maxLen at h5
  have hcn := fun W hW => shape_any op ra ka rs rc kids.length kc nm mn mx W hW
  unfold visN
  simp only
  obtain ⟨er, her⟩ : ∃ er, nodeErr op rs nm kids.length mn mx = er := ⟨_, rfl⟩
  rw [her] at hcn hq ⊢
  have HI := Lib.hid (fun W (hW : Below W0.heap.size W0 W) => hr.keeps (keeps_below (lo := 0) hW))
  have HC := Lib.hid hcn
  clear hcn hr her
  have hb1 : Below W0.heap.size W0 (w.alloc (.cells #[.int .i64 op, .slice ra rs.length rc, .string nm, .slice ka kids.length kc, .int .i64 mn, .int .i64 mx] 25)) := hbw.alloc hbw.size _
  have hS1 := NBox.new w (.int .i64 op) (.slice ra rs.length rc) (.string nm) (.slice ka kids.length kc) (.int .i64 mn) (.int .i64 mx)
  have hcall := HC.out _ (HI.out _ hb1)
  have hz0 := hbw.size
  obtain ⟨w1, hw1⟩ : ∃ w1, w1 = w.alloc (.cells #[.int .i64 op, .slice ra rs.length rc, .string nm, .slice ka kids.length kc, .int .i64 mn, .int .i64 mx] 25) := ⟨_, rfl⟩
  have ht1 : NmTo nv nv w w1 := by rw [hw1]; exact NmTo.alloc _ _ _
  have hn1 : NmAt W0.heap.size (k + 1) L nv w1 := by
    have := hnm.kept ((Below.refl w.heap.size w).alloc (Nat.le_refl _) (.cells #[.int .i64 op, .slice ra rs.length rc, .string nm, .slice ka kids.length kc, .int .i64 mn, .int .i64 mx] 25))
    rw [hw1]; exact ⟨this.1, this.2.1, Nat.le_succ_of_le this.2.2⟩
  have hnx : nv.ownBlock ≠ some w.heap.size := fun e => by have := (hnm.own_lt _ e).2; omega
  rw [← hw1] at hS1 hb1
  have hz1 : w1.heap.size = w.heap.size + 1 := by rw [hw1]; simp
  have HA := Lib.hid (And.intro ht1 (And.intro hn1 (And.intro hnx (And.intro hS1 (And.intro hb1 hz1)))))
  have HW1 := Lib.hid hw1
  have HCALL := Lib.hid hcall
  have HKS := Lib.hid hks
  have HIH := Lib.hid ih
  have HNM := Lib.hid hnm
  have HL := Lib.hid hnm.2.2
  obtain ⟨na, nc, rfl⟩ : ∃ na nc, nv = .slice na L.length nc := by
    rcases hnm.1.2 with ⟨hv, h0⟩ | ⟨g, cap, cur, hv, -⟩
    · exact ⟨none, 0, by rw [hv, h0]⟩
    · exact ⟨_, _, hv⟩
  clear hks ih ht1 hn1 hnx hS1 hb1 hw1 hcall HC HI hnm hz1
  by_cases hA : 400 < k + 1
  · rw [if_pos hA]
    have d1 : decide ((400 : Int) < (k : Int) + 1) = true := by rw [decide_eq_true_eq]; omega
    have d2 : decide (400 < k + 1) = true := by rw [decide_eq_true_eq]; omega
    go_enter Try.func19, Try.ntmps19
    go_wp2
    go_ret3
    rw [← HW1.out]
    exact ⟨_, rfl, HA.out.2.1, HA.out.1⟩
  rw [if_neg hA]
  have d1 : decide ((400 : Int) < (k : Int) + 1) = false := by rw [decide_eq_false_iff_not]; omega
  have d2 : decide (400 < k + 1) = false := by rw [decide_eq_false_iff_not]; omega
  by_cases hD : 20 < d
  · rw [if_pos hD]
    have d3 : decide ((20 : Int) < (d : Int)) = true := by rw [decide_eq_true_eq]; omega
    go_enter Try.func19, Try.ntmps19
    go_wp2
    go_ret3
    rw [← HW1.out]
    exact ⟨_, rfl, HA.out.2.1, HA.out.1⟩
  rw [if_neg hD]
  have d3 : decide ((20 : Int) < (d : Int)) = false := by rw [decide_eq_false_iff_not]; omega
  by_cases hE : er ≠ 0
  · rw [if_pos hE]
    have e1 : (er == 0) = false := by rw [beq_eq_false_iff_ne]; exact hE
    have e2 : (er != 0) = true := by rw [bne_iff_ne]; exact hE
    clear hE
    go_enter Try.func19, Try.ntmps19
    go_wp2_with fail
    refine (HCALL.out).mono ?_
    rw [← HW1.out]
    rintro e w2 ⟨rfl, hb2⟩
    go_wp2
    go_ret3
    exact ⟨_, rfl, HA.out.2.1.kept hb2, HA.out.1.trans (NmTo.below hb2)⟩
  exact absurd (hq.resolve_left hA |>.resolve_left hD) hE
end Go.Proofs.Ytfmoidhpafpgnaa
