/- The contract of the parser's repeat, where choice, brackets and bounds keep theirs. -/
import Derived.Test.YtfmoidhpafpgnaaPatAtom
namespace Go.Proofs.Ytfmoidhpafpgnaa
open Go.RowKit

def BdOk (s : ByteArray) : Prop :=
  ∀ (p : PS) (B : Nat) (w : World), p.er = 0 → byteN s p.pos = 123 → PAt s B p.next w →
    Adv s p.next (boundsS s p.next).2 ∧ i64In (boundsS s p.next).1.1 ∧ i64In (boundsS s p.next).1.2 ∧
    Calls Try.prog 43 #[pPtr B] w fun e w' => e = .returned (.tuple #[.int .i64 (boundsS s p.next).1.1, .int .i64 (boundsS s p.next).1.2]) ∧ PAt s B (boundsS s p.next).2 w' ∧ Fr B w w'
theorem rep_node (lo : Nat) (w : World) (k : Nd) (b : Nat) (a c : Int) (ha : i64In a) (hc : i64In c) (hlo : lo ≤ b) (h : KidsIn lo w [k] b 0) :
    NodeIn lo w (ndRep k a c) (.agg #[.int .i64 4, .slice none 0 0, .string ⟨#[]⟩, .slice (some ⟨b, 0, none⟩) 1 1, .int .i64 a, .int .i64 c]) := by
  unfold ndRep NodeIn
  exact ⟨_, some ⟨b, 0, none⟩, 1, rfl, small64 (by omega), ha, hc, by simp [noName, maxLen, ByteArray.size], by simp [maxLen], no_ranges _ _, .inr ⟨b, 0, rfl, hlo, h⟩⟩

set_option maxRecDepth 100000 in
set_option maxHeartbeats 4000000 in
theorem repeat_star (s : ByteArray) (B lo : Nat) (p p1 : PS) (k : Nd) (w : World) (h : PAt s B p w) (hB : B < lo) (hlo : lo ≤ w.heap.size)
    (hat : ∀ W, PAt s B p W → w.heap.size + 1 ≤ W.heap.size → Calls Try.prog 42 #[pPtr B] W (NodeOut s B (w.heap.size + 1) W (k, p1))) (hc : peekS s p1 = 42) :
    Calls Try.prog 36 #[pPtr B] w (NodeOut s B lo w (ndRep k 0 (-1), p1.next)) := by
  have hta := take_all s B p1 _ hc
  have H := Lib.hid (And.intro hat hta)
  clear hat hta hc
  unfold pPtr at H ⊢
  go_enter Try.func36, Try.ntmps36
  go_wp2_with fail
  refine (H.out.1 _ (h.alloc _) (by rw [Go.Deep.nblk_alloc]; omega)).mono ?_
  rintro e w1 ⟨v, rfl, hv, h1, hf1⟩
  have hvk := hv
  obtain ⟨ra, rc, ka, kc, rfl⟩ := hvk.shape
  have hk := one_kid (w.heap.size + 1) w1 k k.op (.slice ra k.rs.length rc) k.nm (.slice ka k.kids.length kc) k.mn k.mx 25 hv
  clear hvk
  go_wp2_with fail
  have hz1 := hf1.size
  rw [Go.Deep.nblk_alloc] at hz1
  obtain ⟨wk, hwk⟩ : ∃ wk, wk = w1.alloc (.cells #[.int .i64 k.op, .slice ra k.rs.length rc, .string k.nm, .slice ka k.kids.length kc, .int .i64 k.mn, .int .i64 k.mx] 25) := ⟨_, rfl⟩
  rw [← hwk] at hk
  have hzk : wk.heap.size = w1.heap.size + 1 := by rw [hwk, Go.Deep.nblk_alloc]
  have hK := SixAt.new w1 (.int .i64 k.op) (.slice ra k.rs.length rc) (.string k.nm) (.slice ka k.kids.length kc) (.int .i64 k.mn) (.int .i64 k.mx) 25
  rw [← hwk] at hK
  have hN := SixAt.new wk (.int .i64 4) (.slice none 0 0) (.string ⟨#[]⟩) (.slice (some ⟨w1.heap.size, 0, none⟩) 1 1) (.int .i64 0) (.int .i64 0) 25
  have hfk : Fr B w1 wk := by rw [hwk]; exact (Fr.refl B w1).alloc _
  have hfn := (Fr.refl B wk).alloc (.cells #[.int .i64 4, .slice none 0 0, .string ⟨#[]⟩, .slice (some ⟨w1.heap.size, 0, none⟩) 1 1, .int .i64 0, .int .i64 0] 25)
  have h2 : PAt s B p1 (wk.alloc (.cells #[.int .i64 4, .slice none 0 0, .string ⟨#[]⟩, .slice (some ⟨w1.heap.size, 0, none⟩) 1 1, .int .i64 0, .int .i64 0] 25)) := by
    have := h1.alloc (.cells #[.int .i64 k.op, .slice ra k.rs.length rc, .string k.nm, .slice ka k.kids.length kc, .int .i64 k.mn, .int .i64 k.mx] 25)
    rw [← hwk] at this
    exact this.alloc _
  rw [← hwk]
  have HWK := Lib.hid hwk
  have HZK := Lib.hid hzk
  clear hwk hzk
  refine (H.out.2.2 42 _ h2 rfl (by omega)).mono ?_
  rintro e w3 ⟨rfl, h3, hg⟩
  have hf3 := hfn.trans hg
  have hn3 := hg
  clear hg
  have hzi := hf3.size
  have hKi := hK.fr hf3 (by omega)
  have hNi := hN.fr hn3 (by have := HZK.out; omega)
  have hRi := (SixAt.new w (.int .i64 0) (.slice none 0 0) (.string ⟨#[]⟩) (.slice none 0 0) (.int .i64 0) (.int .i64 0) 25).fr ((hf1.trans hfk).trans hf3) (by omega)
  rw [HZK.out] at hNi
  obtain ⟨k0, k1, k2, k3, k4, k5⟩ := hKi.cells
  obtain ⟨n0, n1, n2, n3, n4, n5⟩ := hNi.cells
  obtain ⟨g0, g1, g2, g3, g4, g5⟩ := hNi.free
  obtain ⟨r0, r1, r2, r3, r4, r5⟩ := hRi.cells
  obtain ⟨q0, q1, q2, q3, q4, q5⟩ := hRi.free
  go_wp2
  refine bodyPost_ret (v := .agg #[.int .i64 4, .slice none 0 0, .string ⟨#[]⟩, .slice (some ⟨w1.heap.size, 0, none⟩) 1 1, .int .i64 0, .int .i64 (-1)]) (by simp [results, Try.results36, go_sem, r0, r1, r2, r3, r4, r5]) rfl ?_
  have hkw : KidsIn (w.heap.size + 1) (put6 ((w3.setCell ⟨w1.heap.size + 1, 4, none⟩ (.int .i64 0)).setCell ⟨w1.heap.size + 1, 5, none⟩ (.int .i64 (-1))) w.heap.size (.int .i64 4) (.slice none 0 0) (.string ⟨#[]⟩) (.slice (some ⟨w1.heap.size, 0, none⟩) 1 1) (.int .i64 0) (.int .i64 (-1))) [k] w1.heap.size 0 :=
    KidsIn.keeps (put6_keeps (((hf3.setNew (Nat.le_of_eq HZK.out) _).setNew (Nat.le_of_eq HZK.out) _).keeps (by omega)) (by omega) _ _ _ _ _ _) _ _ _ (by omega) hk
  exact ⟨_, rfl, NodeIn.lower (by omega) _ _ (rep_node _ _ _ _ _ _ (small64 (by omega)) (small64 (by omega)) (by omega) hkw), put6_pat ((h3.setOther (by simp only; omega) _).setOther (by simp only; omega) _) (by omega) _ _ _ _ _ _, put6_fr ((((((Fr.refl B w).alloc _).trans (hf1.trans hfk)).trans hf3).setNew (by simp only; omega) _).setNew (by simp only; omega) _) (Nat.le_refl _) _ _ _ _ _ _⟩

set_option maxRecDepth 100000 in
set_option maxHeartbeats 4000000 in
theorem repeat_plus (s : ByteArray) (B lo : Nat) (p p1 : PS) (k : Nd) (w : World) (h : PAt s B p w) (hB : B < lo) (hlo : lo ≤ w.heap.size)
    (hat : ∀ W, PAt s B p W → w.heap.size + 1 ≤ W.heap.size → Calls Try.prog 42 #[pPtr B] W (NodeOut s B (w.heap.size + 1) W (k, p1))) (hc : peekS s p1 = 43) :
    Calls Try.prog 36 #[pPtr B] w (NodeOut s B lo w (ndRep k 1 (-1), p1.next)) := by
  have hta := take_all s B p1 _ hc
  have H := Lib.hid (And.intro hat hta)
  clear hat hta hc
  unfold pPtr at H ⊢
  go_enter Try.func36, Try.ntmps36
  go_wp2_with fail
  refine (H.out.1 _ (h.alloc _) (by rw [Go.Deep.nblk_alloc]; omega)).mono ?_
  rintro e w1 ⟨v, rfl, hv, h1, hf1⟩
  have hvk := hv
  obtain ⟨ra, rc, ka, kc, rfl⟩ := hvk.shape
  have hk := one_kid (w.heap.size + 1) w1 k k.op (.slice ra k.rs.length rc) k.nm (.slice ka k.kids.length kc) k.mn k.mx 25 hv
  clear hvk
  go_wp2_with fail
  have hz1 := hf1.size
  rw [Go.Deep.nblk_alloc] at hz1
  obtain ⟨wk, hwk⟩ : ∃ wk, wk = w1.alloc (.cells #[.int .i64 k.op, .slice ra k.rs.length rc, .string k.nm, .slice ka k.kids.length kc, .int .i64 k.mn, .int .i64 k.mx] 25) := ⟨_, rfl⟩
  rw [← hwk] at hk
  have hzk : wk.heap.size = w1.heap.size + 1 := by rw [hwk, Go.Deep.nblk_alloc]
  have hK := SixAt.new w1 (.int .i64 k.op) (.slice ra k.rs.length rc) (.string k.nm) (.slice ka k.kids.length kc) (.int .i64 k.mn) (.int .i64 k.mx) 25
  rw [← hwk] at hK
  have hN := SixAt.new wk (.int .i64 4) (.slice none 0 0) (.string ⟨#[]⟩) (.slice (some ⟨w1.heap.size, 0, none⟩) 1 1) (.int .i64 0) (.int .i64 0) 25
  have hfk : Fr B w1 wk := by rw [hwk]; exact (Fr.refl B w1).alloc _
  have hfn := (Fr.refl B wk).alloc (.cells #[.int .i64 4, .slice none 0 0, .string ⟨#[]⟩, .slice (some ⟨w1.heap.size, 0, none⟩) 1 1, .int .i64 0, .int .i64 0] 25)
  have h2 : PAt s B p1 (wk.alloc (.cells #[.int .i64 4, .slice none 0 0, .string ⟨#[]⟩, .slice (some ⟨w1.heap.size, 0, none⟩) 1 1, .int .i64 0, .int .i64 0] 25)) := by
    have := h1.alloc (.cells #[.int .i64 k.op, .slice ra k.rs.length rc, .string k.nm, .slice ka k.kids.length kc, .int .i64 k.mn, .int .i64 k.mx] 25)
    rw [← hwk] at this
    exact this.alloc _
  rw [← hwk]
  have HWK := Lib.hid hwk
  have HZK := Lib.hid hzk
  clear hwk hzk
  refine (H.out.2.1 42 _ h2 (by omega)).mono ?_
  rintro e w3 ⟨rfl, h3, hg⟩
  have hf3 := hfn.trans hg
  have hn3 := hg
  clear hg
  go_wp2_with fail
  refine (H.out.2.2 43 _ h3 rfl (by omega)).mono ?_
  rintro e w4 ⟨rfl, h4, hg⟩
  have hf4 := hf3.trans hg
  have hn4 := hn3.trans hg
  clear hg
  have hzi := hf4.size
  have hKi := hK.fr hf4 (by omega)
  have hNi := hN.fr hn4 (by have := HZK.out; omega)
  have hRi := (SixAt.new w (.int .i64 0) (.slice none 0 0) (.string ⟨#[]⟩) (.slice none 0 0) (.int .i64 0) (.int .i64 0) 25).fr ((hf1.trans hfk).trans hf4) (by omega)
  rw [HZK.out] at hNi
  obtain ⟨k0, k1, k2, k3, k4, k5⟩ := hKi.cells
  obtain ⟨n0, n1, n2, n3, n4, n5⟩ := hNi.cells
  obtain ⟨g0, g1, g2, g3, g4, g5⟩ := hNi.free
  obtain ⟨r0, r1, r2, r3, r4, r5⟩ := hRi.cells
  obtain ⟨q0, q1, q2, q3, q4, q5⟩ := hRi.free
  go_wp2
  refine bodyPost_ret (v := .agg #[.int .i64 4, .slice none 0 0, .string ⟨#[]⟩, .slice (some ⟨w1.heap.size, 0, none⟩) 1 1, .int .i64 1, .int .i64 (-1)]) (by simp [results, Try.results36, go_sem, r0, r1, r2, r3, r4, r5]) rfl ?_
  have hkw : KidsIn (w.heap.size + 1) (put6 ((w4.setCell ⟨w1.heap.size + 1, 4, none⟩ (.int .i64 1)).setCell ⟨w1.heap.size + 1, 5, none⟩ (.int .i64 (-1))) w.heap.size (.int .i64 4) (.slice none 0 0) (.string ⟨#[]⟩) (.slice (some ⟨w1.heap.size, 0, none⟩) 1 1) (.int .i64 1) (.int .i64 (-1))) [k] w1.heap.size 0 :=
    KidsIn.keeps (put6_keeps (((hf4.setNew (Nat.le_of_eq HZK.out) _).setNew (Nat.le_of_eq HZK.out) _).keeps (by omega)) (by omega) _ _ _ _ _ _) _ _ _ (by omega) hk
  exact ⟨_, rfl, NodeIn.lower (by omega) _ _ (rep_node _ _ _ _ _ _ (small64 (by omega)) (small64 (by omega)) (by omega) hkw), put6_pat ((h4.setOther (by simp only; omega) _).setOther (by simp only; omega) _) (by omega) _ _ _ _ _ _, put6_fr ((((((Fr.refl B w).alloc _).trans (hf1.trans hfk)).trans hf4).setNew (by simp only; omega) _).setNew (by simp only; omega) _) (Nat.le_refl _) _ _ _ _ _ _⟩

set_option maxRecDepth 100000 in
set_option maxHeartbeats 4000000 in
theorem repeat_opt (s : ByteArray) (B lo : Nat) (p p1 : PS) (k : Nd) (w : World) (h : PAt s B p w) (hB : B < lo) (hlo : lo ≤ w.heap.size)
    (hat : ∀ W, PAt s B p W → w.heap.size + 1 ≤ W.heap.size → Calls Try.prog 42 #[pPtr B] W (NodeOut s B (w.heap.size + 1) W (k, p1))) (hc : peekS s p1 = 63) :
    Calls Try.prog 36 #[pPtr B] w (NodeOut s B lo w (ndRep k 0 1, p1.next)) := by
  have hta := take_all s B p1 _ hc
  have H := Lib.hid (And.intro hat hta)
  clear hat hta hc
  unfold pPtr at H ⊢
  go_enter Try.func36, Try.ntmps36
  go_wp2_with fail
  refine (H.out.1 _ (h.alloc _) (by rw [Go.Deep.nblk_alloc]; omega)).mono ?_
  rintro e w1 ⟨v, rfl, hv, h1, hf1⟩
  have hvk := hv
  obtain ⟨ra, rc, ka, kc, rfl⟩ := hvk.shape
  have hk := one_kid (w.heap.size + 1) w1 k k.op (.slice ra k.rs.length rc) k.nm (.slice ka k.kids.length kc) k.mn k.mx 25 hv
  clear hvk
  go_wp2_with fail
  have hz1 := hf1.size
  rw [Go.Deep.nblk_alloc] at hz1
  obtain ⟨wk, hwk⟩ : ∃ wk, wk = w1.alloc (.cells #[.int .i64 k.op, .slice ra k.rs.length rc, .string k.nm, .slice ka k.kids.length kc, .int .i64 k.mn, .int .i64 k.mx] 25) := ⟨_, rfl⟩
  rw [← hwk] at hk
  have hzk : wk.heap.size = w1.heap.size + 1 := by rw [hwk, Go.Deep.nblk_alloc]
  have hK := SixAt.new w1 (.int .i64 k.op) (.slice ra k.rs.length rc) (.string k.nm) (.slice ka k.kids.length kc) (.int .i64 k.mn) (.int .i64 k.mx) 25
  rw [← hwk] at hK
  have hN := SixAt.new wk (.int .i64 4) (.slice none 0 0) (.string ⟨#[]⟩) (.slice (some ⟨w1.heap.size, 0, none⟩) 1 1) (.int .i64 0) (.int .i64 0) 25
  have hfk : Fr B w1 wk := by rw [hwk]; exact (Fr.refl B w1).alloc _
  have hfn := (Fr.refl B wk).alloc (.cells #[.int .i64 4, .slice none 0 0, .string ⟨#[]⟩, .slice (some ⟨w1.heap.size, 0, none⟩) 1 1, .int .i64 0, .int .i64 0] 25)
  have h2 : PAt s B p1 (wk.alloc (.cells #[.int .i64 4, .slice none 0 0, .string ⟨#[]⟩, .slice (some ⟨w1.heap.size, 0, none⟩) 1 1, .int .i64 0, .int .i64 0] 25)) := by
    have := h1.alloc (.cells #[.int .i64 k.op, .slice ra k.rs.length rc, .string k.nm, .slice ka k.kids.length kc, .int .i64 k.mn, .int .i64 k.mx] 25)
    rw [← hwk] at this
    exact this.alloc _
  rw [← hwk]
  have HWK := Lib.hid hwk
  have HZK := Lib.hid hzk
  clear hwk hzk
  refine (H.out.2.1 42 _ h2 (by omega)).mono ?_
  rintro e w3 ⟨rfl, h3, hg⟩
  have hf3 := hfn.trans hg
  have hn3 := hg
  clear hg
  go_wp2_with fail
  refine (H.out.2.1 43 _ h3 (by omega)).mono ?_
  rintro e w4 ⟨rfl, h4, hg⟩
  have hf4 := hf3.trans hg
  have hn4 := hn3.trans hg
  clear hg
  go_wp2_with fail
  refine (H.out.2.2 63 _ h4 rfl (by omega)).mono ?_
  rintro e w5 ⟨rfl, h5, hg⟩
  have hf5 := hf4.trans hg
  have hn5 := hn4.trans hg
  clear hg
  have hzi := hf5.size
  have hKi := hK.fr hf5 (by omega)
  have hNi := hN.fr hn5 (by have := HZK.out; omega)
  have hRi := (SixAt.new w (.int .i64 0) (.slice none 0 0) (.string ⟨#[]⟩) (.slice none 0 0) (.int .i64 0) (.int .i64 0) 25).fr ((hf1.trans hfk).trans hf5) (by omega)
  rw [HZK.out] at hNi
  obtain ⟨k0, k1, k2, k3, k4, k5⟩ := hKi.cells
  obtain ⟨n0, n1, n2, n3, n4, n5⟩ := hNi.cells
  obtain ⟨g0, g1, g2, g3, g4, g5⟩ := hNi.free
  obtain ⟨r0, r1, r2, r3, r4, r5⟩ := hRi.cells
  obtain ⟨q0, q1, q2, q3, q4, q5⟩ := hRi.free
  go_wp2
  refine bodyPost_ret (v := .agg #[.int .i64 4, .slice none 0 0, .string ⟨#[]⟩, .slice (some ⟨w1.heap.size, 0, none⟩) 1 1, .int .i64 0, .int .i64 1]) (by simp [results, Try.results36, go_sem, r0, r1, r2, r3, r4, r5]) rfl ?_
  have hkw : KidsIn (w.heap.size + 1) (put6 ((w5.setCell ⟨w1.heap.size + 1, 4, none⟩ (.int .i64 0)).setCell ⟨w1.heap.size + 1, 5, none⟩ (.int .i64 1)) w.heap.size (.int .i64 4) (.slice none 0 0) (.string ⟨#[]⟩) (.slice (some ⟨w1.heap.size, 0, none⟩) 1 1) (.int .i64 0) (.int .i64 1)) [k] w1.heap.size 0 :=
    KidsIn.keeps (put6_keeps (((hf5.setNew (Nat.le_of_eq HZK.out) _).setNew (Nat.le_of_eq HZK.out) _).keeps (by omega)) (by omega) _ _ _ _ _ _) _ _ _ (by omega) hk
  exact ⟨_, rfl, NodeIn.lower (by omega) _ _ (rep_node _ _ _ _ _ _ (small64 (by omega)) (small64 (by omega)) (by omega) hkw), put6_pat ((h5.setOther (by simp only; omega) _).setOther (by simp only; omega) _) (by omega) _ _ _ _ _ _, put6_fr ((((((Fr.refl B w).alloc _).trans (hf1.trans hfk)).trans hf5).setNew (by simp only; omega) _).setNew (by simp only; omega) _) (Nat.le_refl _) _ _ _ _ _ _⟩

set_option maxRecDepth 100000 in
set_option maxHeartbeats 4000000 in
theorem repeat_none (s : ByteArray) (B lo : Nat) (p p1 : PS) (k : Nd) (w : World) (h : PAt s B p w) (hB : B < lo) (hlo : lo ≤ w.heap.size)
    (hat : ∀ W, PAt s B p W → w.heap.size + 1 ≤ W.heap.size → Calls Try.prog 42 #[pPtr B] W (NodeOut s B (w.heap.size + 1) W (k, p1))) (c : Nat) (hc : peekS s p1 = c) (n1 : c ≠ 42) (n2 : c ≠ 43) (n3 : c ≠ 63) (n4 : c ≠ 123) :
    Calls Try.prog 36 #[pPtr B] w (NodeOut s B lo w (k, p1)) := by
  have hta := take_all s B p1 _ hc
  have H := Lib.hid (And.intro hat hta)
  clear hat hta hc
  unfold pPtr at H ⊢
  go_enter Try.func36, Try.ntmps36
  go_wp2_with fail
  refine (H.out.1 _ (h.alloc _) (by rw [Go.Deep.nblk_alloc]; omega)).mono ?_
  rintro e w1 ⟨v, rfl, hv, h1, hf1⟩
  have hvk := hv
  obtain ⟨ra, rc, ka, kc, rfl⟩ := hvk.shape
  have hk := one_kid (w.heap.size + 1) w1 k k.op (.slice ra k.rs.length rc) k.nm (.slice ka k.kids.length kc) k.mn k.mx 25 hv
  clear hvk
  go_wp2_with fail
  have hz1 := hf1.size
  rw [Go.Deep.nblk_alloc] at hz1
  obtain ⟨wk, hwk⟩ : ∃ wk, wk = w1.alloc (.cells #[.int .i64 k.op, .slice ra k.rs.length rc, .string k.nm, .slice ka k.kids.length kc, .int .i64 k.mn, .int .i64 k.mx] 25) := ⟨_, rfl⟩
  rw [← hwk] at hk
  have hzk : wk.heap.size = w1.heap.size + 1 := by rw [hwk, Go.Deep.nblk_alloc]
  have hK := SixAt.new w1 (.int .i64 k.op) (.slice ra k.rs.length rc) (.string k.nm) (.slice ka k.kids.length kc) (.int .i64 k.mn) (.int .i64 k.mx) 25
  rw [← hwk] at hK
  have hN := SixAt.new wk (.int .i64 4) (.slice none 0 0) (.string ⟨#[]⟩) (.slice (some ⟨w1.heap.size, 0, none⟩) 1 1) (.int .i64 0) (.int .i64 0) 25
  have hfk : Fr B w1 wk := by rw [hwk]; exact (Fr.refl B w1).alloc _
  have hfn := (Fr.refl B wk).alloc (.cells #[.int .i64 4, .slice none 0 0, .string ⟨#[]⟩, .slice (some ⟨w1.heap.size, 0, none⟩) 1 1, .int .i64 0, .int .i64 0] 25)
  have h2 : PAt s B p1 (wk.alloc (.cells #[.int .i64 4, .slice none 0 0, .string ⟨#[]⟩, .slice (some ⟨w1.heap.size, 0, none⟩) 1 1, .int .i64 0, .int .i64 0] 25)) := by
    have := h1.alloc (.cells #[.int .i64 k.op, .slice ra k.rs.length rc, .string k.nm, .slice ka k.kids.length kc, .int .i64 k.mn, .int .i64 k.mx] 25)
    rw [← hwk] at this
    exact this.alloc _
  rw [← hwk]
  have HWK := Lib.hid hwk
  have HZK := Lib.hid hzk
  clear hwk hzk
  refine (H.out.2.1 42 _ h2 (by omega)).mono ?_
  rintro e w3 ⟨rfl, h3, hg⟩
  have hf3 := hfn.trans hg
  have hn3 := hg
  clear hg
  go_wp2_with fail
  refine (H.out.2.1 43 _ h3 (by omega)).mono ?_
  rintro e w4 ⟨rfl, h4, hg⟩
  have hf4 := hf3.trans hg
  have hn4 := hn3.trans hg
  clear hg
  go_wp2_with fail
  refine (H.out.2.1 63 _ h4 (by omega)).mono ?_
  rintro e w5 ⟨rfl, h5, hg⟩
  have hf5 := hf4.trans hg
  have hn5 := hn4.trans hg
  clear hg
  go_wp2_with fail
  refine (H.out.2.1 123 _ h5 (by omega)).mono ?_
  rintro e w6 ⟨rfl, h6, hg⟩
  have hf6 := hf5.trans hg
  have hn6 := hn5.trans hg
  clear hg
  have hzi := hf6.size
  have hKi := hK.fr hf6 (by omega)
  have hNi := hN.fr hn6 (by have := HZK.out; omega)
  have hRi := (SixAt.new w (.int .i64 0) (.slice none 0 0) (.string ⟨#[]⟩) (.slice none 0 0) (.int .i64 0) (.int .i64 0) 25).fr ((hf1.trans hfk).trans hf6) (by omega)
  rw [HZK.out] at hNi
  obtain ⟨k0, k1, k2, k3, k4, k5⟩ := hKi.cells
  obtain ⟨n0, n1, n2, n3, n4, n5⟩ := hNi.cells
  obtain ⟨g0, g1, g2, g3, g4, g5⟩ := hNi.free
  obtain ⟨r0, r1, r2, r3, r4, r5⟩ := hRi.cells
  obtain ⟨q0, q1, q2, q3, q4, q5⟩ := hRi.free
  go_wp2
  refine bodyPost_ret (v := .agg #[.int .i64 k.op, .slice ra k.rs.length rc, .string k.nm, .slice ka k.kids.length kc, .int .i64 k.mn, .int .i64 k.mx]) (by simp [results, Try.results36, go_sem, r0, r1, r2, r3, r4, r5]) rfl ?_
  exact ⟨_, rfl, NodeIn.lower (by omega) _ _ (NodeIn.keeps (put6_keeps ((hfk.trans hf6).keeps (by omega)) (by omega) _ _ _ _ _ _) _ _ hv), put6_pat h6 (by omega) _ _ _ _ _ _, put6_fr (((Fr.refl B w).alloc _).trans ((hf1.trans hfk).trans hf6)) (Nat.le_refl _) _ _ _ _ _ _⟩

set_option maxRecDepth 100000 in
set_option maxHeartbeats 4000000 in
theorem repeat_brace (s : ByteArray) (B lo : Nat) (p p1 : PS) (k : Nd) (w : World) (h : PAt s B p w) (hB : B < lo) (hlo : lo ≤ w.heap.size)
    (hat : ∀ W, PAt s B p W → w.heap.size + 1 ≤ W.heap.size → Calls Try.prog 42 #[pPtr B] W (NodeOut s B (w.heap.size + 1) W (k, p1))) (x y : Int) (hx : i64In x) (hy : i64In y) (p3 : PS) (hc : peekS s p1 = 123)
    (hbd : ∀ W, PAt s B p1.next W → Calls Try.prog 43 #[pPtr B] W fun e w' => e = .returned (.tuple #[.int .i64 x, .int .i64 y]) ∧ PAt s B p3 w' ∧ Fr B W w') :
    Calls Try.prog 36 #[pPtr B] w (NodeOut s B lo w (ndRep k x y, p3)) := by
  have hta := take_all s B p1 _ hc
  have H := Lib.hid (And.intro hat (And.intro hta hbd))
  clear hat hta hc hbd
  unfold pPtr at H ⊢
  go_enter Try.func36, Try.ntmps36
  go_wp2_with fail
  refine (H.out.1 _ (h.alloc _) (by rw [Go.Deep.nblk_alloc]; omega)).mono ?_
  rintro e w1 ⟨v, rfl, hv, h1, hf1⟩
  have hvk := hv
  obtain ⟨ra, rc, ka, kc, rfl⟩ := hvk.shape
  have hk := one_kid (w.heap.size + 1) w1 k k.op (.slice ra k.rs.length rc) k.nm (.slice ka k.kids.length kc) k.mn k.mx 25 hv
  clear hvk
  go_wp2_with fail
  have hz1 := hf1.size
  rw [Go.Deep.nblk_alloc] at hz1
  obtain ⟨wk, hwk⟩ : ∃ wk, wk = w1.alloc (.cells #[.int .i64 k.op, .slice ra k.rs.length rc, .string k.nm, .slice ka k.kids.length kc, .int .i64 k.mn, .int .i64 k.mx] 25) := ⟨_, rfl⟩
  rw [← hwk] at hk
  have hzk : wk.heap.size = w1.heap.size + 1 := by rw [hwk, Go.Deep.nblk_alloc]
  have hK := SixAt.new w1 (.int .i64 k.op) (.slice ra k.rs.length rc) (.string k.nm) (.slice ka k.kids.length kc) (.int .i64 k.mn) (.int .i64 k.mx) 25
  rw [← hwk] at hK
  have hN := SixAt.new wk (.int .i64 4) (.slice none 0 0) (.string ⟨#[]⟩) (.slice (some ⟨w1.heap.size, 0, none⟩) 1 1) (.int .i64 0) (.int .i64 0) 25
  have hfk : Fr B w1 wk := by rw [hwk]; exact (Fr.refl B w1).alloc _
  have hfn := (Fr.refl B wk).alloc (.cells #[.int .i64 4, .slice none 0 0, .string ⟨#[]⟩, .slice (some ⟨w1.heap.size, 0, none⟩) 1 1, .int .i64 0, .int .i64 0] 25)
  have h2 : PAt s B p1 (wk.alloc (.cells #[.int .i64 4, .slice none 0 0, .string ⟨#[]⟩, .slice (some ⟨w1.heap.size, 0, none⟩) 1 1, .int .i64 0, .int .i64 0] 25)) := by
    have := h1.alloc (.cells #[.int .i64 k.op, .slice ra k.rs.length rc, .string k.nm, .slice ka k.kids.length kc, .int .i64 k.mn, .int .i64 k.mx] 25)
    rw [← hwk] at this
    exact this.alloc _
  rw [← hwk]
  have HWK := Lib.hid hwk
  have HZK := Lib.hid hzk
  clear hwk hzk
  refine (H.out.2.1.1 42 _ h2 (by omega)).mono ?_
  rintro e w3 ⟨rfl, h3, hg⟩
  have hf3 := hfn.trans hg
  have hn3 := hg
  clear hg
  go_wp2_with fail
  refine (H.out.2.1.1 43 _ h3 (by omega)).mono ?_
  rintro e w4 ⟨rfl, h4, hg⟩
  have hf4 := hf3.trans hg
  have hn4 := hn3.trans hg
  clear hg
  go_wp2_with fail
  refine (H.out.2.1.1 63 _ h4 (by omega)).mono ?_
  rintro e w5 ⟨rfl, h5, hg⟩
  have hf5 := hf4.trans hg
  have hn5 := hn4.trans hg
  clear hg
  go_wp2_with fail
  refine (H.out.2.1.2 123 _ h5 rfl (by omega)).mono ?_
  rintro e w6 ⟨rfl, h6, hg⟩
  have hf6 := hf5.trans hg
  have hn6 := hn5.trans hg
  clear hg
  go_wp2_with fail
  refine (H.out.2.2 _ h6).mono ?_
  rintro e w7 ⟨rfl, h7, hg⟩
  have hf7 := hf6.trans hg
  have hn7 := hn6.trans hg
  clear hg
  have hzi := hf7.size
  have hKi := hK.fr hf7 (by omega)
  have hNi := hN.fr hn7 (by have := HZK.out; omega)
  have hRi := (SixAt.new w (.int .i64 0) (.slice none 0 0) (.string ⟨#[]⟩) (.slice none 0 0) (.int .i64 0) (.int .i64 0) 25).fr ((hf1.trans hfk).trans hf7) (by omega)
  rw [HZK.out] at hNi
  obtain ⟨k0, k1, k2, k3, k4, k5⟩ := hKi.cells
  obtain ⟨n0, n1, n2, n3, n4, n5⟩ := hNi.cells
  obtain ⟨g0, g1, g2, g3, g4, g5⟩ := hNi.free
  obtain ⟨r0, r1, r2, r3, r4, r5⟩ := hRi.cells
  obtain ⟨q0, q1, q2, q3, q4, q5⟩ := hRi.free
  go_wp2
  refine bodyPost_ret (v := .agg #[.int .i64 4, .slice none 0 0, .string ⟨#[]⟩, .slice (some ⟨w1.heap.size, 0, none⟩) 1 1, .int .i64 x, .int .i64 y]) (by simp [results, Try.results36, go_sem, r0, r1, r2, r3, r4, r5]) rfl ?_
  have hkw : KidsIn (w.heap.size + 1) (put6 ((w7.setCell ⟨w1.heap.size + 1, 4, none⟩ (.int .i64 x)).setCell ⟨w1.heap.size + 1, 5, none⟩ (.int .i64 y)) w.heap.size (.int .i64 4) (.slice none 0 0) (.string ⟨#[]⟩) (.slice (some ⟨w1.heap.size, 0, none⟩) 1 1) (.int .i64 x) (.int .i64 y)) [k] w1.heap.size 0 :=
    KidsIn.keeps (put6_keeps (((hf7.setNew (Nat.le_of_eq HZK.out) _).setNew (Nat.le_of_eq HZK.out) _).keeps (by omega)) (by omega) _ _ _ _ _ _) _ _ _ (by omega) hk
  exact ⟨_, rfl, NodeIn.lower (by omega) _ _ (rep_node _ _ _ _ _ _ hx hy (by omega) hkw), put6_pat ((h7.setOther (by simp only; omega) _).setOther (by simp only; omega) _) (by omega) _ _ _ _ _ _, put6_fr ((((((Fr.refl B w).alloc _).trans (hf1.trans hfk)).trans hf7).setNew (by simp only; omega) _).setNew (by simp only; omega) _) (Nat.le_refl _) _ _ _ _ _ _⟩
end Go.Proofs.Ytfmoidhpafpgnaa
