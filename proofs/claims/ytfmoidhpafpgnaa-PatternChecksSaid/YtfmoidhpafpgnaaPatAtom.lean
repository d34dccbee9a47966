/- The contract of the parser's atom, where choice and brackets keep theirs. -/
import Derived.Test.YtfmoidhpafpgnaaPatParen
namespace Go.Proofs.Ytfmoidhpafpgnaa
open Go.RowKit

theorem class_node (lo : Nat) (w : World) (v : Value) (rs : List (Nat × Nat)) (h : RangesIn lo w v rs) :
    NodeIn lo w (ndClass rs) (.agg #[.int .i64 1, v, .string ⟨#[]⟩, .slice none 0 0, .int .i64 0, .int .i64 0]) := by
  unfold ndClass NodeIn
  exact ⟨v, none, 0, rfl, small64 (by omega), small64 (by omega), small64 (by omega), by simp [noName, maxLen, ByteArray.size], by simp, h, .inl rfl⟩
theorem leaf_node (lo : Nat) (w : World) (o : Int) (ho : 0 ≤ o ∧ o ≤ 7) : NodeIn lo w (ndLeaf o) (.agg #[.int .i64 o, .slice none 0 0, .string ⟨#[]⟩, .slice none 0 0, .int .i64 0, .int .i64 0]) := by
  unfold ndLeaf NodeIn
  exact ⟨_, none, 0, rfl, small64 (by omega), small64 (by omega), small64 (by omega), by simp [noName, maxLen, ByteArray.size], by simp, no_ranges _ _, .inl rfl⟩
def BrOk (s : ByteArray) (br : PS → Nd × PS) : Prop :=
  ∀ (p : PS) (B lo : Nat) (w : World), p.er = 0 → byteN s p.pos = 91 → PAt s B p.next w → B < lo → lo ≤ w.heap.size →
    Adv s p.next (br p.next).2 ∧ Calls Try.prog 48 #[pPtr B] w (NodeOut s B lo w (br p.next))
theorem take_all (s : ByteArray) (B : Nat) (p : PS) (c : Nat) (hc : peekS s p = c) :
    (∀ d W, PAt s B p W → c ≠ d → Calls Try.prog 28 #[pPtr B, .int .u8 (d : Int)] W fun e w' => e = .returned (.bool false) ∧ PAt s B p w' ∧ Fr B W w') ∧
    (∀ d W, PAt s B p W → c = d → d ≠ 0 → Calls Try.prog 28 #[pPtr B, .int .u8 (d : Int)] W fun e w' => e = .returned (.bool true) ∧ PAt s B p.next w' ∧ Fr B W w') :=
  ⟨fun d W hW h => take_no s B p d W hW (by rw [hc]; exact h), fun d W hW h h0 => take_yes s B p d W hW (by rw [hc]; exact h) h0⟩
theorem dot_ranges : ∀ x ∈ [((0 : Nat), (9 : Nat)), (11, 255)], x.1 < 256 ∧ x.2 < 256 := by decide

set_option maxRecDepth 100000 in
set_option maxHeartbeats 2000000 in
theorem atom_esc (s : ByteArray) (n : Nat) (ch br : PS → Nd × PS) (_hch : ChOk s n ch) (_hbr : BrOk s br) (p : PS) (B lo : Nat) (w : World) (_he : p.er = 0) (_hn : s.size - p.pos ≤ n) (h : PAt s B p w) (hB : B < lo) (hlo : lo ≤ w.heap.size) (hc : peekS s p = 92) :
    AdvS s p (atomS s ch br p).2 ∧ Calls Try.prog 42 #[pPtr B] w (NodeOut s B lo w (atomS s ch br p)) := by
    have hv : atomS s ch br p = (ndClass (escapeS s p).1, (escapeS s p).2) := by unfold atomS; rw [if_pos hc]
    rw [hv]
    refine ⟨escape_advS h.le, ?_⟩
    have hpk := fun W hW => peek_to s B p W hW
    rw [hc] at hpk
    have hta := take_all s B p _ hc
    have hes := fun W (hW : PAt s B p W) hl => escape_any s B (w.heap.size + 1) p W hW hl (by omega)
    obtain ⟨⟨r, p1⟩, hr⟩ : ∃ r, escapeS s p = r := ⟨_, rfl⟩
    rw [hr] at hes ⊢
    have H := Lib.hid (And.intro hpk (And.intro hta hes))
    clear hpk hta hes hr hv hc
    unfold pPtr at H ⊢
    go_enter Try.func42, Try.ntmps42
    go_wp2_with fail
    refine (H.out.1 _ (h.alloc _)).mono ?_
    rintro e w1 ⟨rfl, h1, hf1⟩
    go_wp2_with fail
    refine (H.out.2.2 _ h1 (by have := hf1.size; rw [Go.Deep.nblk_alloc] at this; omega)).mono ?_
    rintro e w2 ⟨v, rfl, hv, h2, hg⟩
    have hf2 := hf1.trans hg
    have hvk := hv
    obtain ⟨ra, rc, rfl, -⟩ := hvk
    clear hg
    have hz2 := hf2.size
    rw [Go.Deep.nblk_alloc] at hz2
    have hR2 := (SixAt.new w (.int .i64 0) (.slice none 0 0) (.string ⟨#[]⟩) (.slice none 0 0) (.int .i64 0) (.int .i64 0) 25).fr hf2 (by omega)
    obtain ⟨r0, r1, r2, r3, r4, r5⟩ := hR2.cells
    obtain ⟨q0, q1, q2, q3, q4, q5⟩ := hR2.free
    go_wp2
    refine bodyPost_ret (v := .agg #[.int .i64 1, .slice ra r.length rc, .string ⟨#[]⟩, .slice none 0 0, .int .i64 0, .int .i64 0]) (by simp [results, Try.results42, go_sem, r0, r1, r2, r3, r4, r5]) rfl ?_
    exact ⟨_, rfl, NodeIn.lower (by omega) _ _ (class_node _ _ _ _ (hv.keeps (put6_keeps (keeps_refl _ _) (by omega) _ _ _ _ _ _))), put6_pat h2 (by omega) _ _ _ _ _ _, put6_fr (((Fr.refl B w).alloc _).trans hf2) (Nat.le_refl _) _ _ _ _ _ _⟩

set_option maxRecDepth 100000 in
set_option maxHeartbeats 2000000 in
theorem atom_par (s : ByteArray) (n : Nat) (ch br : PS → Nd × PS) (hch : ChOk s n ch) (_hbr : BrOk s br) (p : PS) (B lo : Nat) (w : World) (he : p.er = 0) (hn : s.size - p.pos ≤ n) (h : PAt s B p w) (hB : B < lo) (hlo : lo ≤ w.heap.size) (hc : peekS s p = 40) :
    AdvS s p (atomS s ch br p).2 ∧ Calls Try.prog 42 #[pPtr B] w (NodeOut s B lo w (atomS s ch br p)) := by
    have hpl := (peekS_in (s := s) (p := p) (by omega)).2
    have hv : atomS s ch br p = parenS s ch p.next := by unfold atomS; rw [if_neg (by omega), if_pos hc]
    rw [hv]
    have hpa := fun W (hW : PAt s B p.next W) hl => (paren_any s n ch hch p.next B (w.heap.size + 1) W he (by simp only [PS.next]; omega) hW (by omega) hl).2
    have hw0 : PAt s B p.next (w.setCell ⟨B, 1, none⟩ (.int .i64 ((p.pos + 1 : Nat) : Int))) := h.setPos _ _ rfl hpl
    have hadv := (paren_any s n ch hch p.next B lo _ he (by simp only [PS.next]; omega) hw0 hB (by simp [World.setCell]; omega)).1
    refine ⟨(next_adv (by omega)).trans hadv, ?_⟩
    have hpk := fun W hW => peek_to s B p W hW
    rw [hc] at hpk
    have hta := take_all s B p _ hc
    obtain ⟨⟨k, p1⟩, hr⟩ : ∃ r, parenS s ch p.next = r := ⟨_, rfl⟩
    rw [hr] at hpa ⊢
    have H := Lib.hid (And.intro hpk (And.intro hta hpa))
    clear hpk hta hpa hr hv hc he hch hadv hw0
    unfold pPtr at H ⊢
    go_enter Try.func42, Try.ntmps42
    go_wp2_with fail
    refine (H.out.1 _ (h.alloc _)).mono ?_
    rintro e w1 ⟨rfl, h1, hf1⟩
    go_wp2_with fail
    refine (H.out.2.1.2 40 _ h1 rfl (by omega)).mono ?_
    rintro e w2 ⟨rfl, h2, hg⟩
    have hf2 := hf1.trans hg
    clear hg
    go_wp2_with fail
    refine (H.out.2.2 _ h2 (by have := hf2.size; rw [Go.Deep.nblk_alloc] at this; omega)).mono ?_
    rintro e w3 ⟨v, rfl, hv, h3, hg⟩
    have hf3 := hf2.trans hg
    have hvk := hv
    obtain ⟨ra, rc, ka, kc, rfl⟩ := hvk.shape
    clear hg hvk
    have hz3 := hf3.size
    rw [Go.Deep.nblk_alloc] at hz3
    have hR3 := (SixAt.new w (.int .i64 0) (.slice none 0 0) (.string ⟨#[]⟩) (.slice none 0 0) (.int .i64 0) (.int .i64 0) 25).fr hf3 (by omega)
    obtain ⟨r0, r1, r2, r3, r4, r5⟩ := hR3.cells
    obtain ⟨q0, q1, q2, q3, q4, q5⟩ := hR3.free
    go_wp2
    refine bodyPost_ret (v := .agg #[.int .i64 k.op, .slice ra k.rs.length rc, .string k.nm, .slice ka k.kids.length kc, .int .i64 k.mn, .int .i64 k.mx]) (by simp [results, Try.results42, go_sem, r0, r1, r2, r3, r4, r5]) rfl ?_
    exact ⟨_, rfl, NodeIn.lower (by omega) _ _ (NodeIn.keeps (put6_keeps (keeps_refl _ _) (by omega) _ _ _ _ _ _) _ _ hv), put6_pat h3 (by omega) _ _ _ _ _ _, put6_fr (((Fr.refl B w).alloc _).trans hf3) (Nat.le_refl _) _ _ _ _ _ _⟩

set_option maxRecDepth 100000 in
set_option maxHeartbeats 2000000 in
theorem atom_bra (s : ByteArray) (n : Nat) (ch br : PS → Nd × PS) (_hch : ChOk s n ch) (hbr : BrOk s br) (p : PS) (B lo : Nat) (w : World) (he : p.er = 0) (_hn : s.size - p.pos ≤ n) (h : PAt s B p w) (hB : B < lo) (hlo : lo ≤ w.heap.size) (hc : peekS s p = 91) :
    AdvS s p (atomS s ch br p).2 ∧ Calls Try.prog 42 #[pPtr B] w (NodeOut s B lo w (atomS s ch br p)) := by
    have hpl := (peekS_in (s := s) (p := p) (by omega)).2
    have hb91 : byteN s p.pos = 91 := by rw [← peekS_ok he]; exact hc
    have hv : atomS s ch br p = br p.next := by unfold atomS; rw [if_neg (by omega), if_neg (by omega), if_pos hc]
    rw [hv]
    have hpa := fun W (hW : PAt s B p.next W) hl => (hbr p B (w.heap.size + 1) W he hb91 hW (by omega) hl).2
    have hw0 : PAt s B p.next (w.setCell ⟨B, 1, none⟩ (.int .i64 ((p.pos + 1 : Nat) : Int))) := h.setPos _ _ rfl hpl
    have hadv := (hbr p B lo _ he hb91 hw0 hB (by simp [World.setCell]; omega)).1
    refine ⟨(next_adv (by omega)).trans hadv, ?_⟩
    have hpk := fun W hW => peek_to s B p W hW
    rw [hc] at hpk
    have hta := take_all s B p _ hc
    obtain ⟨⟨k, p1⟩, hr⟩ : ∃ r, br p.next = r := ⟨_, rfl⟩
    rw [hr] at hpa ⊢
    have H := Lib.hid (And.intro hpk (And.intro hta hpa))
    clear hpk hta hpa hr hv hc he hbr hadv hw0 hb91
    unfold pPtr at H ⊢
    go_enter Try.func42, Try.ntmps42
    go_wp2_with fail
    refine (H.out.1 _ (h.alloc _)).mono ?_
    rintro e w1 ⟨rfl, h1, hf1⟩
    go_wp2_with fail
    refine (H.out.2.1.1 40 _ h1 (by omega)).mono ?_
    rintro e w2 ⟨rfl, h2, hg⟩
    have hf2 := hf1.trans hg
    clear hg
    go_wp2_with fail
    refine (H.out.2.1.2 91 _ h2 rfl (by omega)).mono ?_
    rintro e w3 ⟨rfl, h3, hg⟩
    have hf3 := hf2.trans hg
    clear hg
    go_wp2_with fail
    refine (H.out.2.2 _ h3 (by have := hf3.size; rw [Go.Deep.nblk_alloc] at this; omega)).mono ?_
    rintro e w4 ⟨v, rfl, hv, h4, hg⟩
    have hf4 := hf3.trans hg
    have hvk := hv
    obtain ⟨ra, rc, ka, kc, rfl⟩ := hvk.shape
    clear hg hvk
    have hz4 := hf4.size
    rw [Go.Deep.nblk_alloc] at hz4
    have hR4 := (SixAt.new w (.int .i64 0) (.slice none 0 0) (.string ⟨#[]⟩) (.slice none 0 0) (.int .i64 0) (.int .i64 0) 25).fr hf4 (by omega)
    obtain ⟨r0, r1, r2, r3, r4, r5⟩ := hR4.cells
    obtain ⟨q0, q1, q2, q3, q4, q5⟩ := hR4.free
    go_wp2
    refine bodyPost_ret (v := .agg #[.int .i64 k.op, .slice ra k.rs.length rc, .string k.nm, .slice ka k.kids.length kc, .int .i64 k.mn, .int .i64 k.mx]) (by simp [results, Try.results42, go_sem, r0, r1, r2, r3, r4, r5]) rfl ?_
    exact ⟨_, rfl, NodeIn.lower (by omega) _ _ (NodeIn.keeps (put6_keeps (keeps_refl _ _) (by omega) _ _ _ _ _ _) _ _ hv), put6_pat h4 (by omega) _ _ _ _ _ _, put6_fr (((Fr.refl B w).alloc _).trans hf4) (Nat.le_refl _) _ _ _ _ _ _⟩

set_option maxRecDepth 100000 in
set_option maxHeartbeats 2000000 in
theorem atom_dot (s : ByteArray) (n : Nat) (ch br : PS → Nd × PS) (_hch : ChOk s n ch) (_hbr : BrOk s br) (p : PS) (B lo : Nat) (w : World) (_he : p.er = 0) (_hn : s.size - p.pos ≤ n) (h : PAt s B p w) (hB : B < lo) (hlo : lo ≤ w.heap.size) (hc : peekS s p = 46) :
    AdvS s p (atomS s ch br p).2 ∧ Calls Try.prog 42 #[pPtr B] w (NodeOut s B lo w (atomS s ch br p)) := by
    have hv : atomS s ch br p = (ndClass [(0, 9), (11, 255)], p.next) := by unfold atomS; rw [if_neg (by omega), if_neg (by omega), if_neg (by omega), if_pos hc]
    rw [hv]
    refine ⟨next_adv (by omega), ?_⟩
    have hpk := fun W hW => peek_to s B p W hW
    rw [hc] at hpk
    have hta := take_all s B p _ hc
    have H := Lib.hid (And.intro hpk (And.intro hta fun a b W => byteRange_any a b W))
    clear hpk hta hv hc
    unfold pPtr at H ⊢
    go_enter Try.func42, Try.ntmps42
    go_wp2_with fail
    refine (H.out.1 _ (h.alloc _)).mono ?_
    rintro e w1 ⟨rfl, h1, hf1⟩
    go_wp2_with fail
    refine (H.out.2.1.1 40 _ h1 (by omega)).mono ?_
    rintro e w2 ⟨rfl, h2, hg⟩
    have hf2 := hf1.trans hg
    clear hg
    go_wp2_with fail
    refine (H.out.2.1.1 91 _ h2 (by omega)).mono ?_
    rintro e w3 ⟨rfl, h3, hg⟩
    have hf3 := hf2.trans hg
    clear hg
    go_wp2_with fail
    refine (H.out.2.1.2 46 _ h3 rfl (by omega)).mono ?_
    rintro e w4 ⟨rfl, h4, hg⟩
    have hf4 := hf3.trans hg
    clear hg
    go_wp2_with fail
    refine (H.out.2.2 _ _ _).mono ?_
    rintro e w5 ⟨rfl, hb5⟩
    go_wp2_with fail
    refine (H.out.2.2 _ _ _).mono ?_
    rintro e w6 ⟨rfl, hb6⟩
    have h6 := (h4.below hb5).below hb6
    have hf6 := ((hf4.below hb5).below hb6)
    have hz6 := hf6.size
    rw [Go.Deep.nblk_alloc] at hz6
    have hR6 := (SixAt.new w (.int .i64 0) (.slice none 0 0) (.string ⟨#[]⟩) (.slice none 0 0) (.int .i64 0) (.int .i64 0) 25).fr hf6 (by omega)
    have hR7 := hR6.fr ((Fr.refl B w6).alloc (.cells #[.int .u8 0, .int .u8 9, .int .u8 11, .int .u8 255] 46)) (by omega)
    obtain ⟨r0, r1, r2, r3, r4, r5⟩ := hR7.cells
    obtain ⟨q0, q1, q2, q3, q4, q5⟩ := hR7.free
    go_wp2
    refine bodyPost_ret (v := .agg #[.int .i64 1, .slice (some ⟨w6.heap.size, 0, none⟩) 2 2, .string ⟨#[]⟩, .slice none 0 0, .int .i64 0, .int .i64 0]) (by simp [results, Try.results42, go_sem, r0, r1, r2, r3, r4, r5]) rfl ?_
    have hv := some_ranges (w.heap.size + 1) w6 [(0, 9), (11, 255)] 46 2 rfl dot_ranges (by decide) (by omega)
    exact ⟨_, rfl, NodeIn.lower (by omega) _ _ (class_node _ _ _ _ (hv.keeps (put6_keeps (keeps_refl _ _) (by omega) _ _ _ _ _ _))), put6_pat (h6.alloc _) (by omega) _ _ _ _ _ _, put6_fr ((((Fr.refl B w).alloc _).trans hf6).alloc _) (Nat.le_refl _) _ _ _ _ _ _⟩

set_option maxRecDepth 100000 in
set_option maxHeartbeats 2000000 in
theorem atom_beg (s : ByteArray) (n : Nat) (ch br : PS → Nd × PS) (_hch : ChOk s n ch) (_hbr : BrOk s br) (p : PS) (B lo : Nat) (w : World) (_he : p.er = 0) (_hn : s.size - p.pos ≤ n) (h : PAt s B p w) (hB : B < lo) (hlo : lo ≤ w.heap.size) (hc : peekS s p = 94) :
    AdvS s p (atomS s ch br p).2 ∧ Calls Try.prog 42 #[pPtr B] w (NodeOut s B lo w (atomS s ch br p)) := by
    have hv : atomS s ch br p = (ndLeaf 6, p.next) := by unfold atomS; rw [if_neg (by omega), if_neg (by omega), if_neg (by omega), if_neg (by omega), if_pos hc]
    rw [hv]
    refine ⟨next_adv (by omega), ?_⟩
    have hpk := fun W hW => peek_to s B p W hW
    rw [hc] at hpk
    have hta := take_all s B p _ hc
    have H := Lib.hid (And.intro hpk hta)
    clear hpk hta hv hc
    unfold pPtr at H ⊢
    go_enter Try.func42, Try.ntmps42
    go_wp2_with fail
    refine (H.out.1 _ (h.alloc _)).mono ?_
    rintro e w1 ⟨rfl, h1, hf1⟩
    go_wp2_with fail
    refine (H.out.2.1 40 _ h1 (by omega)).mono ?_
    rintro e w2 ⟨rfl, h2, hg⟩
    have hf2 := hf1.trans hg
    clear hg
    go_wp2_with fail
    refine (H.out.2.1 91 _ h2 (by omega)).mono ?_
    rintro e w3 ⟨rfl, h3, hg⟩
    have hf3 := hf2.trans hg
    clear hg
    go_wp2_with fail
    refine (H.out.2.1 46 _ h3 (by omega)).mono ?_
    rintro e w4 ⟨rfl, h4, hg⟩
    have hf4 := hf3.trans hg
    clear hg
    go_wp2_with fail
    refine (H.out.2.2 94 _ h4 rfl (by omega)).mono ?_
    rintro e w5 ⟨rfl, h5, hg⟩
    have hf5 := hf4.trans hg
    clear hg
    have hz5 := hf5.size
    rw [Go.Deep.nblk_alloc] at hz5
    have hR5 := (SixAt.new w (.int .i64 0) (.slice none 0 0) (.string ⟨#[]⟩) (.slice none 0 0) (.int .i64 0) (.int .i64 0) 25).fr hf5 (by omega)
    obtain ⟨r0, r1, r2, r3, r4, r5⟩ := hR5.cells
    obtain ⟨q0, q1, q2, q3, q4, q5⟩ := hR5.free
    go_wp2
    refine bodyPost_ret (v := .agg #[.int .i64 6, .slice none 0 0, .string ⟨#[]⟩, .slice none 0 0, .int .i64 0, .int .i64 0]) (by simp [results, Try.results42, go_sem, r0, r1, r2, r3, r4, r5]) rfl ?_
    exact ⟨_, rfl, leaf_node _ _ _ (by omega), put6_pat h5 (by omega) _ _ _ _ _ _, put6_fr (((Fr.refl B w).alloc _).trans hf5) (Nat.le_refl _) _ _ _ _ _ _⟩

set_option maxRecDepth 100000 in
set_option maxHeartbeats 2000000 in
theorem atom_end (s : ByteArray) (n : Nat) (ch br : PS → Nd × PS) (_hch : ChOk s n ch) (_hbr : BrOk s br) (p : PS) (B lo : Nat) (w : World) (_he : p.er = 0) (_hn : s.size - p.pos ≤ n) (h : PAt s B p w) (hB : B < lo) (hlo : lo ≤ w.heap.size) (hc : peekS s p = 36) :
    AdvS s p (atomS s ch br p).2 ∧ Calls Try.prog 42 #[pPtr B] w (NodeOut s B lo w (atomS s ch br p)) := by
    have hv : atomS s ch br p = (ndLeaf 7, p.next) := by unfold atomS; rw [if_neg (by omega), if_neg (by omega), if_neg (by omega), if_neg (by omega), if_neg (by omega), if_pos hc]
    rw [hv]
    refine ⟨next_adv (by omega), ?_⟩
    have hpk := fun W hW => peek_to s B p W hW
    rw [hc] at hpk
    have hta := take_all s B p _ hc
    have H := Lib.hid (And.intro hpk hta)
    clear hpk hta hv hc
    unfold pPtr at H ⊢
    go_enter Try.func42, Try.ntmps42
    go_wp2_with fail
    refine (H.out.1 _ (h.alloc _)).mono ?_
    rintro e w1 ⟨rfl, h1, hf1⟩
    go_wp2_with fail
    refine (H.out.2.1 40 _ h1 (by omega)).mono ?_
    rintro e w2 ⟨rfl, h2, hg⟩
    have hf2 := hf1.trans hg
    clear hg
    go_wp2_with fail
    refine (H.out.2.1 91 _ h2 (by omega)).mono ?_
    rintro e w3 ⟨rfl, h3, hg⟩
    have hf3 := hf2.trans hg
    clear hg
    go_wp2_with fail
    refine (H.out.2.1 46 _ h3 (by omega)).mono ?_
    rintro e w4 ⟨rfl, h4, hg⟩
    have hf4 := hf3.trans hg
    clear hg
    go_wp2_with fail
    refine (H.out.2.1 94 _ h4 (by omega)).mono ?_
    rintro e w5 ⟨rfl, h5, hg⟩
    have hf5 := hf4.trans hg
    clear hg
    go_wp2_with fail
    refine (H.out.2.2 36 _ h5 rfl (by omega)).mono ?_
    rintro e w6 ⟨rfl, h6, hg⟩
    have hf6 := hf5.trans hg
    clear hg
    have hz6 := hf6.size
    rw [Go.Deep.nblk_alloc] at hz6
    have hR6 := (SixAt.new w (.int .i64 0) (.slice none 0 0) (.string ⟨#[]⟩) (.slice none 0 0) (.int .i64 0) (.int .i64 0) 25).fr hf6 (by omega)
    obtain ⟨r0, r1, r2, r3, r4, r5⟩ := hR6.cells
    obtain ⟨q0, q1, q2, q3, q4, q5⟩ := hR6.free
    go_wp2
    refine bodyPost_ret (v := .agg #[.int .i64 7, .slice none 0 0, .string ⟨#[]⟩, .slice none 0 0, .int .i64 0, .int .i64 0]) (by simp [results, Try.results42, go_sem, r0, r1, r2, r3, r4, r5]) rfl ?_
    exact ⟨_, rfl, leaf_node _ _ _ (by omega), put6_pat h6 (by omega) _ _ _ _ _ _, put6_fr (((Fr.refl B w).alloc _).trans hf6) (Nat.le_refl _) _ _ _ _ _ _⟩

set_option maxRecDepth 100000 in
set_option maxHeartbeats 2000000 in
theorem atom_lit (s : ByteArray) (n : Nat) (ch br : PS → Nd × PS) (_hch : ChOk s n ch) (_hbr : BrOk s br) (p : PS) (B lo : Nat) (w : World) (_he : p.er = 0) (_hn : s.size - p.pos ≤ n) (h : PAt s B p w) (hB : B < lo) (hlo : lo ≤ w.heap.size) (c : Nat) (hc : peekS s p = c) (n1 : c ≠ 92) (n2 : c ≠ 40) (n3 : c ≠ 91) (n4 : c ≠ 46) (n5 : c ≠ 94) (n6 : c ≠ 36) :
    AdvS s p (atomS s ch br p).2 ∧ Calls Try.prog 42 #[pPtr B] w (NodeOut s B lo w (atomS s ch br p)) := by
    have hv : atomS s ch br p = (ndClass (literalS s outside p).1, (literalS s outside p).2) := by unfold atomS; rw [if_neg (by omega), if_neg (by omega), if_neg (by omega), if_neg (by omega), if_neg (by omega), if_neg (by omega)]
    rw [hv]
    refine ⟨literal_advS outside h.le, ?_⟩
    have hpk := fun W hW => peek_to s B p W hW
    rw [hc] at hpk
    have hta := take_all s B p _ hc
    have hes := fun W (hW : PAt s B p W) hl => literal_any s B (w.heap.size + 1) p outside W hW hl
    obtain ⟨⟨r, p1⟩, hr⟩ : ∃ r, literalS s outside p = r := ⟨_, rfl⟩
    rw [hr] at hes ⊢
    have e1 : ((c : Int) == 92) = false := by rw [beq_eq_false_iff_ne]; omega
    have H := Lib.hid (And.intro hpk (And.intro hta hes))
    clear hpk hta hes hr hv hc n1
    unfold specials outside at H
    unfold pPtr at H ⊢
    go_enter Try.func42, Try.ntmps42
    go_wp2_with fail
    refine (H.out.1 _ (h.alloc _)).mono ?_
    rintro e w1 ⟨rfl, h1, hf1⟩
    go_wp2_with fail
    refine (H.out.2.1.1 40 _ h1 (by omega)).mono ?_
    rintro e w2 ⟨rfl, h2, hg⟩
    have hf2 := hf1.trans hg
    clear hg
    go_wp2_with fail
    refine (H.out.2.1.1 91 _ h2 (by omega)).mono ?_
    rintro e w3 ⟨rfl, h3, hg⟩
    have hf3 := hf2.trans hg
    clear hg
    go_wp2_with fail
    refine (H.out.2.1.1 46 _ h3 (by omega)).mono ?_
    rintro e w4 ⟨rfl, h4, hg⟩
    have hf4 := hf3.trans hg
    clear hg
    go_wp2_with fail
    refine (H.out.2.1.1 94 _ h4 (by omega)).mono ?_
    rintro e w5 ⟨rfl, h5, hg⟩
    have hf5 := hf4.trans hg
    clear hg
    go_wp2_with fail
    refine (H.out.2.1.1 36 _ h5 (by omega)).mono ?_
    rintro e w6 ⟨rfl, h6, hg⟩
    have hf6 := hf5.trans hg
    clear hg
    go_wp2_with fail
    refine (H.out.2.2 _ h6 (by have := hf6.size; rw [Go.Deep.nblk_alloc] at this; omega)).mono ?_
    rintro e w7 ⟨v, rfl, hv, h7, hg⟩
    have hf7 := hf6.trans hg
    have hvk := hv
    obtain ⟨ra, rc, rfl, -⟩ := hvk
    clear hg
    have hz7 := hf7.size
    rw [Go.Deep.nblk_alloc] at hz7
    have hR7 := (SixAt.new w (.int .i64 0) (.slice none 0 0) (.string ⟨#[]⟩) (.slice none 0 0) (.int .i64 0) (.int .i64 0) 25).fr hf7 (by omega)
    obtain ⟨r0, r1, r2, r3, r4, r5⟩ := hR7.cells
    obtain ⟨q0, q1, q2, q3, q4, q5⟩ := hR7.free
    go_wp2
    refine bodyPost_ret (v := .agg #[.int .i64 1, .slice ra r.length rc, .string ⟨#[]⟩, .slice none 0 0, .int .i64 0, .int .i64 0]) (by simp [results, Try.results42, go_sem, r0, r1, r2, r3, r4, r5]) rfl ?_
    exact ⟨_, rfl, NodeIn.lower (by omega) _ _ (class_node _ _ _ _ (hv.keeps (put6_keeps (keeps_refl _ _) (by omega) _ _ _ _ _ _))), put6_pat h7 (by omega) _ _ _ _ _ _, put6_fr (((Fr.refl B w).alloc _).trans hf7) (Nat.le_refl _) _ _ _ _ _ _⟩

/-- The seven ways of atom. -/
theorem atom_any (s : ByteArray) (n : Nat) (ch br : PS → Nd × PS) (hch : ChOk s n ch) (hbr : BrOk s br) (p : PS) (B lo : Nat) (w : World) (he : p.er = 0) (hn : s.size - p.pos ≤ n) (h : PAt s B p w) (hB : B < lo) (hlo : lo ≤ w.heap.size) :
    AdvS s p (atomS s ch br p).2 ∧ Calls Try.prog 42 #[pPtr B] w (NodeOut s B lo w (atomS s ch br p)) := by
  by_cases h1 : peekS s p = 92
  · exact atom_esc s n ch br hch hbr p B lo w he hn h hB hlo h1
  by_cases h2 : peekS s p = 40
  · exact atom_par s n ch br hch hbr p B lo w he hn h hB hlo h2
  by_cases h3 : peekS s p = 91
  · exact atom_bra s n ch br hch hbr p B lo w he hn h hB hlo h3
  by_cases h4 : peekS s p = 46
  · exact atom_dot s n ch br hch hbr p B lo w he hn h hB hlo h4
  by_cases h5 : peekS s p = 94
  · exact atom_beg s n ch br hch hbr p B lo w he hn h hB hlo h5
  by_cases h6 : peekS s p = 36
  · exact atom_end s n ch br hch hbr p B lo w he hn h hB hlo h6
  exact atom_lit s n ch br hch hbr p B lo w he hn h hB hlo _ rfl h1 h2 h3 h4 h5 h6
end Go.Proofs.Ytfmoidhpafpgnaa
