/- The contracts of package pattern's Check and Parse, where brackets and bounds keep theirs. -/
import Derived.Test.YtfmoidhpafpgnaaPatVis
import Derived.BigRegion
namespace Go.Proofs.Ytfmoidhpafpgnaa
open Go.RowKit

theorem strs_of_own {w : World} {base : Nat} {nv : Value} {L : List ByteArray} (h : w.ownsRow base 9 1 nv L.length (L.map Value.string)) (hl : L.length ≤ 4096) (hs : ∀ x ∈ L, x.size ≤ maxLen) : StrsIn w nv L := by
  have h2 := h.2
  rcases h2 with ⟨hv, h0⟩ | ⟨g, cap, cur, hv, -⟩
  · exact ⟨none, 0, by rw [hv, h0], hl, hs, fun i hi => by omega⟩
  · refine ⟨_, _, hv, hl, hs, fun i hi => ⟨g, rfl, ?_⟩⟩
    have := h.cells (g := g) (by rw [hv]; rfl) i (.string L[i]) (by simp [hi])
    rw [← this]
    unfold Addr.add
    by_cases hz : i = 0
    · rw [if_pos hz, hz]
    · rw [if_neg hz]; simp

set_option maxRecDepth 100000 in
set_option maxHeartbeats 4000000 in
theorem check_any (t : Nd) (v : Value) (w : World) (h : NodeIn 0 w t v) :
    Calls Try.prog 8 #[v] w fun e w' => e = .returned (.int .i64 (chkN t)) ∧ Below w.heap.size w w' := by
  have hv := h
  obtain ⟨ra, rc, ka, kc, rfl⟩ := hv.shape
  clear hv
  have hb : Below w.heap.size w ((w.alloc (.cells #[.int .i64 t.op, .slice ra t.rs.length rc, .string t.nm, .slice ka t.kids.length kc, .int .i64 t.mn, .int .i64 t.mx] 25)).alloc (.cells #[.int .i64 0, .slice none 0 0] 49)) :=
    ((Below.refl _ w).alloc (Nat.le_refl _) _).alloc (by rw [Go.Deep.nblk_alloc]; omega) _
  have hck : CkAt w.heap.size (w.heap.size + 1) 0 [] ((w.alloc (.cells #[.int .i64 t.op, .slice ra t.rs.length rc, .string t.nm, .slice ka t.kids.length kc, .int .i64 t.mn, .int .i64 t.mx] 25)).alloc (.cells #[.int .i64 0, .slice none 0 0] 49)) := by
    refine ⟨by omega, ⟨.slice none 0 0, ?_, World.ownsRow_nil _ _ _ _, by simp [Value.ownBlock]⟩, by simp, by simp⟩
    have := heap_alloc_new (w.alloc (.cells #[.int .i64 t.op, .slice ra t.rs.length rc, .string t.nm, .slice ka t.kids.length kc, .int .i64 t.mn, .int .i64 t.mx] 25)) (.cells #[.int .i64 0, .slice none 0 0] 49)
    rw [Go.Deep.nblk_alloc] at this
    exact this
  have hvis := visit_any t w _ 0 _ _ 0 [] h hb hck (by omega) (by omega)
  have hle := vis_le t 0 (0, [])
  unfold chkN
  obtain ⟨⟨er, k2, L2⟩, hx⟩ : ∃ x, visN t 0 (0, []) = x := ⟨_, rfl⟩
  rw [hx] at hvis hle ⊢
  simp only at hvis hle ⊢
  have HV := Lib.hid hvis
  have HL := Lib.hid hle
  clear hvis hle hx hck h hb
  by_cases h0 : er = 0
  · subst h0
    rw [if_neg (by simp)]
    go_enter Try.func8, Try.ntmps8
    go_wp2_with fail
    refine (HV.out).mono ?_
    rintro e w2 ⟨rfl, hck2, hb2⟩
    have hk2 := HL.out trivial
    obtain ⟨nv, n1, n2, -⟩ := hck2.ex
    have hst := strs_of_own n2 (by have := hck2.le; omega) hck2.sz
    have hst2 := hst
    obtain ⟨na, nc, rfl, -⟩ := hst2
    have m1 : w2.cell? ⟨w.heap.size + 1, 1, none⟩ = some (.slice na L2.length nc) := by rw [Lib.cell_of_heap n1]; rfl
    have HS := Lib.hid (checkNames_any L2 _ w2 hst)
    clear n1 n2 hst hk2
    go_wp2_with fail
    refine (HS.out).mono ?_
    rintro e w3 ⟨rfl, hb3⟩
    go_wp2
    go_ret
    exact ⟨rfl, hb2.trans (hb3.mono hb2.size)⟩
  · rw [if_pos h0]
    have e1 : (er == 0) = false := by rw [beq_eq_false_iff_ne]; exact h0
    have e2 : (er != 0) = true := by rw [bne_iff_ne]; exact h0
    clear h0
    go_enter Try.func8, Try.ntmps8
    go_wp2_with fail
    refine (HV.out).mono ?_
    rintro e w2 ⟨rfl, hck2, hb2⟩
    go_wp2
    go_ret
    exact ⟨rfl, hb2⟩

theorem chLoop_adv {s : ByteArray} {n : Nat} {ch br : PS → Nd × PS} (hf : ∀ q, q.er = 0 → q.pos ≤ s.size → s.size - q.pos ≤ n → Adv s q (concatS s ch br q).2) :
    ∀ (k : Nat) (q : PS) (acc : List Nd), q.pos ≤ s.size → (q.er = 0 → s.size - q.pos ≤ n) → Adv s q (chLoop s ch br k q acc).2 := by
  intro k
  induction k with
  | zero => intro q acc hq _; exact Adv.refl hq
  | succ k ih =>
    intro q acc hq hn
    unfold chLoop
    by_cases hend : peekS s q = 124
    · rw [if_pos hend]
      obtain ⟨he, hql⟩ := peekS_in (s := s) (p := q) (by omega)
      have h0 := next_adv (s := s) (p := q) (by omega)
      have hn1 : s.size - q.next.pos ≤ n := by have := hn he; simp only [PS.next]; omega
      have h1 := hf q.next he h0.le hn1
      exact (h0.adv.trans h1).trans (ih _ _ h1.le fun e => by have := (h1.er e).2; omega)
    · rw [if_neg hend]; exact Adv.refl hq
/-- choice, at every depth. -/
theorem ch_ok (s : ByteArray) (br : PS → Nd × PS) (hbr : BrOk s br) (hbd : BdOk s) : ∀ n, ChOk s n (choiceF s br n) := by
  intro n
  induction n with
  | zero => intro p B lo w _ hn; omega
  | succ n ih =>
    intro p B lo w he hn h hB hlo
    have hcn : CnOk s n (concatS s (choiceF s br n) br) := concat_ok s n _ br fun p B lo w he hn h hB hlo => repeat_any s n _ br ih hbr hbd p B lo w he hn h hB hlo
    refine ⟨?_, choice_any s n _ br hcn p B lo w he (by omega) h hB hlo⟩
    have hf : ∀ q, q.er = 0 → q.pos ≤ s.size → s.size - q.pos ≤ n → Adv s q (concatS s (choiceF s br n) br q).2 := fun q hq hl hnq => by
      obtain ⟨W, hW, hz⟩ := h.to q hl
      exact (hcn q B lo W hq hnq hW hB (by omega)).1
    have h1 := hf p he h.le (by omega)
    exact h1.trans (chLoop_adv hf _ _ _ h1.le fun e => by have := (h1.er e).2; omega)

/-- What Parse answers: the node, the offset, the error. -/
def parseN (s : ByteArray) (br : PS → Nd × PS) : Nd × Nat × Int :=
  if 400 < s.size then (ndLeaf 0, 0, 3)
  else
    let r := choiceF s br (s.size + 1) ⟨0, 0⟩
    if r.2.pos < s.size then (ndLeaf 0, (failS r.2 r.2.pos 1).pos, (failS r.2 r.2.pos 1).er)
    else if r.2.er ≠ 0 then (ndLeaf 0, r.2.pos, r.2.er)
    else if chkN r.1 ≠ 0 then (ndLeaf 0, r.2.pos, chkN r.1)
    else (r.1, r.2.pos, 0)
def ParseOut (lo : Nat) (w : World) (r : Nd × Nat × Int) (e : Ending) (w' : World) : Prop :=
  ∃ v, e = .returned (.tuple #[v, .int .i64 (r.2.1 : Int), .int .i64 r.2.2]) ∧ NodeIn lo w' r.1 v ∧ Below w.heap.size w w'
theorem keeps_drew {lo : Nat} {a w : World} (h : Keeps lo a w) : Keeps lo a w.drew := fun b o v hl hc => h b o v hl hc
theorem fr_below {B : Nat} {a w : World} (h : Fr B a w) (hB : a.heap.size ≤ B) : Below a.heap.size a w :=
  ⟨h.os, h.tape, h.output, h.size, fun i hi => World.grownBy.block h i hi (by simp; omega)⟩

set_option maxRecDepth 100000 in
set_option maxHeartbeats 8000000 in
theorem parse_any (s : ByteArray) (br : PS → Nd × PS) (hbr : BrOk s br) (hbd : BdOk s) (w : World) :
    Calls Try.prog 12 #[.string s] w (ParseOut w.heap.size w (parseN s br)) := by
  unfold parseN
  by_cases hsz : 400 < s.size
  · rw [if_pos hsz]
    go_enter Try.func12, Try.ntmps12
    go_wp2
    refine bodyPost_ret (v := .tuple #[.agg #[.int .i64 0, .slice none 0 0, .string ⟨#[]⟩, .slice none 0 0, .int .i64 0, .int .i64 0], .int .i64 0, .int .i64 3]) (by simp [results, Try.results12, go_sem]) rfl ?_
    exact ⟨_, rfl, leaf_node _ _ _ (by omega), (Below.refl _ _).alloc (Nat.le_refl _) _⟩
  rw [if_neg hsz]
  have hch := ch_ok s br hbr hbd (s.size + 1)
  have hcho := fun W (hW : PAt s (w.heap.size + 1) ⟨0, 0⟩ W) hl => (hch ⟨0, 0⟩ (w.heap.size + 1) (w.heap.size + 2) W rfl (by simp only; omega) hW (by omega) hl).2
  obtain ⟨⟨t, p1⟩, hr⟩ : ∃ r, choiceF s br (s.size + 1) ⟨0, 0⟩ = r := ⟨_, rfl⟩
  rw [hr] at hcho ⊢
  simp only
  obtain ⟨goal, hgoal⟩ : ∃ g, (if p1.pos < s.size then (ndLeaf 0, (failS p1 p1.pos 1).pos, (failS p1 p1.pos 1).er) else if p1.er ≠ 0 then (ndLeaf 0, p1.pos, p1.er) else if chkN t ≠ 0 then (ndLeaf 0, p1.pos, chkN t) else (t, p1.pos, 0)) = g := ⟨_, rfl⟩
  rw [hgoal]
  have HG := Lib.hid hgoal
  clear hgoal
  have hp0 : PAt s (w.heap.size + 1) ⟨0, 0⟩ ((w.alloc (.cells #[.int .i64 0, .slice none 0 0, .string ⟨#[]⟩, .slice none 0 0, .int .i64 0, .int .i64 0] 25)).alloc (.cells #[.string s, .int .i64 0, .int .i64 0] 56)) := by
    refine ⟨?_, Nat.zero_le _, by omega⟩
    have := heap_alloc_new (w.alloc (.cells #[.int .i64 0, .slice none 0 0, .string ⟨#[]⟩, .slice none 0 0, .int .i64 0, .int .i64 0] 25)) (.cells #[.string s, .int .i64 0, .int .i64 0] 56)
    rw [Go.Deep.nblk_alloc] at this
    exact this
  have hf0 : Fr (w.heap.size + 1) w ((w.alloc (.cells #[.int .i64 0, .slice none 0 0, .string ⟨#[]⟩, .slice none 0 0, .int .i64 0, .int .i64 0] 25)).alloc (.cells #[.string s, .int .i64 0, .int .i64 0] 56)) := ((Fr.refl _ w).alloc _).alloc _
  have hR0 := (SixAt.new w (.int .i64 0) (.slice none 0 0) (.string ⟨#[]⟩) (.slice none 0 0) (.int .i64 0) (.int .i64 0) 25).fr ((Fr.refl (w.heap.size + 1) _).alloc (.cells #[.string s, .int .i64 0, .int .i64 0] 56)) (by omega)
  have hz0 : ((w.alloc (.cells #[.int .i64 0, .slice none 0 0, .string ⟨#[]⟩, .slice none 0 0, .int .i64 0, .int .i64 0] 25)).alloc (.cells #[.string s, .int .i64 0, .int .i64 0] 56)).heap.size = w.heap.size + 2 := by rw [Go.Deep.nblk_alloc, Go.Deep.nblk_alloc]
  have HC := Lib.hid (hcho _ hp0 (by omega))
  have HF0 := Lib.hid hf0
  have HR0 := Lib.hid hR0
  have HZ0 := Lib.hid hz0
  have hs4 : (s.size : Int) ≤ 400 := by omega
  clear hcho hch hr hp0 hf0 hR0 hz0 hsz
  unfold pPtr at HC
  go_enter Try.func12, Try.ntmps12
  go_wp2_with fail
  refine (HC.out).mono ?_
  rintro e w1 ⟨v, rfl, hv, h1, hf1⟩
  change NodeIn _ w1 t v at hv
  change PAt s _ p1 w1 at h1
  have hvk := hv
  obtain ⟨ra, rc, ka, kc, rfl⟩ := hvk.shape
  clear hvk
  have hz1 : w.heap.size + 2 ≤ w1.heap.size := by have := hf1.size; rw [HZ0.out] at this; exact this
  have hR1 := HR0.out.fr hf1 (by omega)
  have hF1 := HF0.out.trans hf1
  have hN := SixAt.new w1 (.int .i64 t.op) (.slice ra t.rs.length rc) (.string t.nm) (.slice ka t.kids.length kc) (.int .i64 t.mn) (.int .i64 t.mx) 25
  have hfa := (Fr.refl (w.heap.size + 1) w1).alloc (.cells #[.int .i64 t.op, .slice ra t.rs.length rc, .string t.nm, .slice ka t.kids.length kc, .int .i64 t.mn, .int .i64 t.mx] 25)
  have h2 := h1.alloc (.cells #[.int .i64 t.op, .slice ra t.rs.length rc, .string t.nm, .slice ka t.kids.length kc, .int .i64 t.mn, .int .i64 t.mx] 25)
  have hR2 := hR1.fr hfa (by omega)
  have hnode := NodeIn.keeps (keeps_alloc _ w1 (.cells #[.int .i64 t.op, .slice ra t.rs.length rc, .string t.nm, .slice ka t.kids.length kc, .int .i64 t.mn, .int .i64 t.mx] 25)) _ _ hv
  have HN := Lib.hid hN
  have HR2 := Lib.hid hR2
  have HF1 := Lib.hid (hF1.trans hfa)
  have HV := Lib.hid hnode
  have HFN := Lib.hid (fun W (hW : PAt s (w.heap.size + 1) p1 W) => fail_any s (w.heap.size + 1) p1 p1.pos 1 W hW hW.le)
  obtain ⟨d0, d1, d2, f1, f2⟩ := h2.parts
  have hN' := hN
  obtain ⟨n0, n1, n2, n3, n4, n5⟩ := hN'.cells
  obtain ⟨r0, r1, r2, r3, r4, r5⟩ := hR2.cells
  obtain ⟨q0, q1, q2, q3, q4, q5⟩ := hR2.free
  have hle := h1.le
  clear hN hN' hR2 hR1 hF1 hfa hnode hv h1 hf1 HR0 HF0 HC
  by_cases hlt : p1.pos < s.size
  · obtain rfl : (ndLeaf 0, (failS p1 p1.pos 1).pos, (failS p1 p1.pos 1).er) = goal := by rw [← HG.out, if_pos hlt]
    clear HG
    have hfe : (failS p1 p1.pos 1).er ≠ 0 := by
      unfold failS
      by_cases h0 : p1.er = 0
      · rw [if_pos h0]; simp
      · rw [if_neg h0]; exact h0
    go_wp2_with fail
    refine (HFN.out _ h2).mono ?_
    rintro e w2 ⟨rfl, h3, hf2⟩
    obtain ⟨q1p, hq1p⟩ : ∃ q, failS p1 p1.pos 1 = q := ⟨_, rfl⟩
    rw [hq1p] at h3 hfe
    have HQ := Lib.hid hq1p
    have hR3 := HR2.out.fr hf2 (by omega)
    obtain ⟨g0, g1, g2, g3, g4⟩ := h3.parts
    obtain ⟨r0, r1, r2, r3, r4, r5⟩ := hR3.cells
    obtain ⟨q0, q1, q2, q3, q4, q5⟩ := hR3.free
    have e1 : (q1p.er == 0) = false := by rw [beq_eq_false_iff_ne]; exact hfe
    have e2 : (q1p.er != 0) = true := by rw [bne_iff_ne]; exact hfe
    clear hR3 hq1p hfe
    go_wp2
    go_region
    all_goals
      go_wp2
      refine bodyPost_ret (v := .tuple #[.agg #[.int .i64 0, .slice none 0 0, .string ⟨#[]⟩, .slice none 0 0, .int .i64 0, .int .i64 0], .int .i64 (q1p.pos : Int), .int .i64 q1p.er]) (by simp [results, Try.results12, go_sem, r0, r1, r2, r3, r4, r5]) rfl ?_
      rw [HQ.out]
      exact ⟨_, rfl, leaf_node _ _ _ (by omega), fr_below (put6_fr ((HF1.out.trans hf2)) (Nat.le_refl _) _ _ _ _ _ _).drew (by omega)⟩
  have hpe : (s.size : Int) ≤ (p1.pos : Int) := by omega
  by_cases he : p1.er ≠ 0
  · obtain rfl : (ndLeaf 0, p1.pos, p1.er) = goal := by rw [← HG.out, if_neg hlt, if_pos he]
    clear HG
    have e1 : (p1.er == 0) = false := by rw [beq_eq_false_iff_ne]; exact he
    have e2 : (p1.er != 0) = true := by rw [bne_iff_ne]; exact he
    clear he hlt
    go_wp2
    go_region
    all_goals
      go_wp2
      refine bodyPost_ret (v := .tuple #[.agg #[.int .i64 0, .slice none 0 0, .string ⟨#[]⟩, .slice none 0 0, .int .i64 0, .int .i64 0], .int .i64 (p1.pos : Int), .int .i64 p1.er]) (by simp [results, Try.results12, go_sem, r0, r1, r2, r3, r4, r5]) rfl ?_
      exact ⟨_, rfl, leaf_node _ _ _ (by omega), fr_below (put6_fr (HF1.out) (Nat.le_refl _) _ _ _ _ _ _).drew (by omega)⟩
  have hg2 : (if chkN t ≠ 0 then (ndLeaf 0, p1.pos, chkN t) else (t, p1.pos, 0)) = goal := by rw [← HG.out, if_neg hlt, if_neg he]
  have he0 : p1.er = 0 := by simpa using he
  rw [he0] at d2
  have HCK := Lib.hid (check_any t _ _ (NodeIn.lower (Nat.zero_le _) _ _ HV.out))
  obtain ⟨er, her⟩ : ∃ er, chkN t = er := ⟨_, rfl⟩
  rw [her] at HCK hg2
  have HG2 := Lib.hid hg2
  clear he he0 her hlt HG hg2
  go_wp2_with fail
  refine (HCK.out).mono ?_
  rintro e w2 ⟨rfl, hb2⟩
  have h3 := (h2.below hb2)
  have hb2z := hb2.size
  rw [Go.Deep.nblk_alloc] at hb2z
  have hf2 : Fr (w.heap.size + 1) (w1.alloc (.cells #[.int .i64 t.op, .slice ra t.rs.length rc, .string t.nm, .slice ka t.kids.length kc, .int .i64 t.mn, .int .i64 t.mx] 25)) w2 := (Fr.refl _ _).below hb2
  have hR3 := HR2.out.fr hf2 (by omega)
  have hN3 := HN.out.fr hf2 (by omega)
  obtain ⟨g0, g1, g2, g3, g4⟩ := h3.parts
  obtain ⟨r0, r1, r2, r3, r4, r5⟩ := hR3.cells
  obtain ⟨q0, q1, q2, q3, q4, q5⟩ := hR3.free
  obtain ⟨k0, k1, k2, k3, k4, k5⟩ := hN3.cells
  clear hR3 hN3
  by_cases h0 : er ≠ 0
  · obtain rfl : (ndLeaf 0, p1.pos, er) = goal := by rw [← HG2.out, if_pos h0]
    have e1 : (er == 0) = false := by rw [beq_eq_false_iff_ne]; exact h0
    have e2 : (er != 0) = true := by rw [bne_iff_ne]; exact h0
    clear h0 HG2
    go_wp2
    go_region
    all_goals
      go_wp2
      refine bodyPost_ret (v := .tuple #[.agg #[.int .i64 0, .slice none 0 0, .string ⟨#[]⟩, .slice none 0 0, .int .i64 0, .int .i64 0], .int .i64 (p1.pos : Int), .int .i64 er]) (by simp [results, Try.results12, go_sem, r0, r1, r2, r3, r4, r5]) rfl ?_
      exact ⟨_, rfl, leaf_node _ _ _ (by omega), fr_below (put6_fr (((HF1.out.trans hf2).setCell 2 _)) (Nat.le_refl _) _ _ _ _ _ _).drew (by omega)⟩
  · obtain rfl : er = 0 := by simpa using h0
    obtain rfl : (t, p1.pos, 0) = goal := by rw [← HG2.out, if_neg h0]
    clear h0 HG2
    go_wp2
    go_region
    all_goals
      go_wp2
      refine bodyPost_ret (v := .tuple #[.agg #[.int .i64 t.op, .slice ra t.rs.length rc, .string t.nm, .slice ka t.kids.length kc, .int .i64 t.mn, .int .i64 t.mx], .int .i64 (p1.pos : Int), .int .i64 0]) (by simp [results, Try.results12, go_sem, r0, r1, r2, r3, r4, r5]) rfl ?_
      exact ⟨_, rfl, NodeIn.lower (by omega) _ _ (NodeIn.keeps (keeps_drew (put6_keeps (keeps_setCell (hf2.keeps (Nat.lt_succ_self _)) (by simp) _) (by omega) _ _ _ _ _ _)) _ _ HV.out), fr_below (put6_fr (((HF1.out.trans hf2).setCell 2 _)) (Nat.le_refl _) _ _ _ _ _ _).drew (by omega)⟩
end Go.Proofs.Ytfmoidhpafpgnaa
