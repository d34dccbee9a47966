/- The contract of the parser's choice, and of the parser as a whole below Parse, where brackets and bounds keep theirs. -/
import Derived.Test.YtfmoidhpafpgnaaPatCat
namespace Go.Proofs.Ytfmoidhpafpgnaa
open Go.RowKit

theorem mPS_le {s : ByteArray} {p q : PS} (h : Adv s p q) : mPS s q ≤ mPS s p := by
  unfold mPS
  by_cases hq : q.er = 0
  · rw [if_pos hq, if_pos (h.er hq).1]; have := (h.er hq).2; omega
  · rw [if_neg hq]; omega
theorem PAt.to {s : ByteArray} {B : Nat} {p : PS} {w : World} (h : PAt s B p w) (q : PS) (hq : q.pos ≤ s.size) : ∃ W, PAt s B q W ∧ W.heap.size = w.heap.size :=
  ⟨_, (h.setPos q.pos _ rfl hq).setErr q.er, by simp [World.setCell]⟩
theorem cat_adv {s : ByteArray} {n : Nat} {ch br : PS → Nd × PS} (hf : ∀ q, q.er = 0 → q.pos ≤ s.size → s.size - q.pos ≤ n → AdvS s q (repeatS s ch br q).2) :
    ∀ (k : Nat) (q : PS) (acc : List Nd), q.pos ≤ s.size → (q.er = 0 → s.size - q.pos ≤ n) → Adv s q (catLoop s ch br k q acc).2 := by
  intro k
  induction k with
  | zero => intro q acc hq _; exact Adv.refl hq
  | succ k ih =>
    intro q acc hq hn
    unfold catLoop
    by_cases hend : endsCat (peekS s q) = true
    · rw [if_pos hend]; exact Adv.refl hq
    · rw [if_neg hend]
      have n0 : peekS s q ≠ 0 := by
        intro e
        rw [e] at hend
        exact hend rfl
      obtain ⟨he, -⟩ := peekS_in n0
      have h1 := hf q he hq (hn he)
      exact h1.adv.trans (ih _ _ h1.le fun e => by have := (h1.er e).2; have := hn he; omega)
def CnOk (s : ByteArray) (n : Nat) (cn : PS → Nd × PS) : Prop :=
  ∀ (p : PS) (B lo : Nat) (w : World), p.er = 0 → s.size - p.pos ≤ n → PAt s B p w → B < lo → lo ≤ w.heap.size →
    Adv s p (cn p).2 ∧ Calls Try.prog 27 #[pPtr B] w (NodeOut s B lo w (cn p))
theorem concat_ok (s : ByteArray) (n : Nat) (ch br : PS → Nd × PS) (hrp : RpOk s n (repeatS s ch br)) : CnOk s n (concatS s ch br) := fun p B lo w he hn h hB hlo =>
  ⟨cat_adv (fun q hq hl hnq => by
      obtain ⟨W, hW, hz⟩ := h.to q hl
      exact (hrp q B lo W hq hnq hW hB (by omega)).1) _ p [] h.le (fun _ => hn), concat_any s n ch br hrp p B lo w he hn h hB hlo⟩
theorem ownNodes_one {lo lo2 : Nat} (w : World) (t : Nd) (a : Array Value) (hs : SixOf t a) (ht : NodeIn lo2 w t (.agg a)) (h1 : lo ≤ lo2) (hlo : lo ≤ w.heap.size) :
    OwnNodes lo (w.alloc (.cells a 25)) (.slice (some ⟨w.heap.size, 0, none⟩) 1 1) [t] := by
  refine ⟨fun _ => a, ⟨by have := hs.size; simp [flat6]; simpa using this, .inr ⟨w.heap.size, 1, a, rfl, hlo, heap_alloc_new _ _, Nat.le_refl _, by simp [maxLen], by have := hs.size; simpa using this, by have := hs.size; simp [flat6]; rw [List.take_of_length_le (by omega)]⟩⟩, fun i hi => ?_⟩
  obtain rfl : i = 0 := by simpa using hi
  refine ⟨hs, fun w' hw => NodeIn.lower h1 _ _ (NodeIn.keeps (fun b o x hb hc => ?_) _ _ ht)⟩
  have hbl : b < w.heap.size := block_lt_of_cell (a := ⟨b, o, none⟩) hc
  exact hw b o x (by omega) (by simp [Value.ownBlock]; omega) (keeps_alloc lo w _ b o x (by omega) hc)

structure ChAt (s : ByteArray) (B L n : Nat) (ch br : PS → Nd × PS) (w0 : World) (goal : List Nd × PS) (v : Value) (wr : World) (k : Nat) (q : PS) (acc : List Nd) : Prop where
  run : chLoop s ch br k q acc = goal
  room : mPS s q < k
  len : acc.length + k ≤ s.size + 3
  some : acc ≠ []
  left : q.er = 0 → s.size - q.pos ≤ n
  hp : PAt s B q wr
  own : OwnNodes L wr v acc
  fr : Fr B w0 wr

set_option maxRecDepth 100000 in
set_option maxHeartbeats 4000000 in
theorem choice_any (s : ByteArray) (n : Nat) (ch br : PS → Nd × PS) (hcn : CnOk s n (concatS s ch br)) (p : PS) (B lo : Nat) (w : World) (he : p.er = 0) (hn : s.size - p.pos ≤ n) (h : PAt s B p w) (hB : B < lo) (hlo : lo ≤ w.heap.size) :
    Calls Try.prog 22 #[pPtr B] w (NodeOut s B lo w (choiceS s ch br p)) := by
  obtain ⟨i0, hi, hz0, hz1, hz2⟩ := info_parts infoNode
  have hcon := fun W (hW : PAt s B p W) (hl : w.heap.size + 1 ≤ W.heap.size) => (hcn p B (w.heap.size + 1) W he hn hW (by omega) hl).2
  have hadv := (hcn p B lo w he hn h hB hlo).1
  unfold choiceS
  obtain ⟨⟨t, p1⟩, hr⟩ : ∃ r, concatS s ch br p = r := ⟨_, rfl⟩
  rw [hr] at hcon hadv ⊢
  simp only at hadv ⊢
  obtain ⟨goal, hgoal⟩ : ∃ g, chLoop s ch br (s.size + 2) p1 [t] = g := ⟨_, rfl⟩
  rw [hgoal]
  have hmp : mPS s p1 < s.size + 2 := by unfold mPS; split <;> omega
  have hleft : p1.er = 0 → s.size - p1.pos ≤ n := fun e => by have := (hadv.er e).2; omega
  have HC := Lib.hid hcon
  have HN := Lib.hid hcn
  have HG := Lib.hid hgoal
  have HL := Lib.hid hleft
  have hsz := h.sz
  clear hcon hcn hgoal he hr hadv hleft
  unfold pPtr at HC ⊢
  go_enter Try.func22, Try.ntmps22
  go_wp2_with fail
  refine (HC.out _ (h.alloc _) (by rw [Go.Deep.nblk_alloc]; omega)).mono ?_
  rintro e w1 ⟨v, rfl, hv, h1, hf1⟩
  have hvk := hv
  obtain ⟨ra, rc, ka, kc, rfl⟩ := hvk.shape
  clear hvk
  go_wp2_with fail
  obtain ⟨w0, hw0⟩ : ∃ w0, w0 = w.alloc (.cells #[.int .i64 0, .slice none 0 0, .string ⟨#[]⟩, .slice none 0 0, .int .i64 0, .int .i64 0] 25) := ⟨_, rfl⟩
  rw [← hw0] at hf1
  have hzw1 : w.heap.size + 1 ≤ w1.heap.size := by have := hf1.size; rw [hw0, Go.Deep.nblk_alloc] at this; omega
  have hown1 := ownNodes_one w1 t _ ⟨_, _, _, _, rfl⟩ hv (Nat.le_refl _) hzw1
  have h1a := h1.alloc (.cells #[.int .i64 t.op, .slice ra t.rs.length rc, .string t.nm, .slice ka t.kids.length kc, .int .i64 t.mn, .int .i64 t.mx] 25)
  have hf1a := hf1.alloc (.cells #[.int .i64 t.op, .slice ra t.rs.length rc, .string t.nm, .slice ka t.kids.length kc, .int .i64 t.mn, .int .i64 t.mx] 25)
  have HO1 := Lib.hid hown1
  clear hown1
  go_loopw [3] (fun v wr => ∃ k q acc, ChAt s B (w.heap.size + 1) n ch br w0 goal v wr k q acc) (fun v _ => 500 - lenOf v)
  case atStart => exact ⟨s.size + 2, p1, [t], ⟨HG.out, hmp, by simp; omega, by simp, HL.out, h1a, HO1.out, hf1a⟩⟩
  case round =>
    clear hv h1 hf1 h1a hf1a HO1 hzw1
    obtain ⟨k, q, acc, hrun, hroom, hlen, hsome, hleft, hp, hown, hfr⟩ := hrel
    have hlq := hp.le
    have hzw : w.heap.size + 1 ≤ wr.heap.size := by have := hfr.size; rw [hw0, Go.Deep.nblk_alloc] at this; omega
    obtain ⟨k, rfl⟩ : ∃ k', k = k' + 1 := ⟨k - 1, by omega⟩
    by_cases hend : peekS s q = 124
    · obtain ⟨hq0, hql⟩ := peekS_in (s := s) (p := q) (by omega)
      have hrun2 : chLoop s ch br k (concatS s ch br q.next).2 (acc ++ [(concatS s ch br q.next).1]) = goal := by rw [← hrun, chLoop, if_pos hend]
      have hnl : s.size - q.next.pos ≤ n := by have := hleft hq0; simp only [PS.next]; omega
      have hta := take_yes s B q 124 wr hp hend (by omega)
      have hadvn := next_adv (s := s) (p := q) (by omega)
      obtain ⟨W, hW, hWz⟩ := hp.to q.next hql
      have hadv := (HN.out q.next B (w.heap.size + 1) W hq0 hnl hW (by omega) (by omega)).1
      have hcal := fun W (hW : PAt s B q.next W) => (HN.out q.next B W.heap.size W hq0 hnl hW hW.lt (Nat.le_refl _)).2
      clear hW hWz W
      obtain ⟨⟨t2, q2⟩, hr⟩ : ∃ r, concatS s ch br q.next = r := ⟨_, rfl⟩
      rw [hr] at hrun2 hadv hcal
      simp only at hrun2 hadv
      have hm := Nat.lt_of_le_of_lt (mPS_le hadv) (mPS_lt hadvn hq0)
      have hleft2 : q2.er = 0 → s.size - q2.pos ≤ n := fun e => by have := (hadv.er e).2; omega
      obtain ⟨va, vc, rfl⟩ := hown.slice
      have K := Lib.hid (And.intro hta hcal)
      have KR := Lib.hid (And.intro hrun2 (And.intro hm (And.intro hroom hleft2)))
      have KO := Lib.hid hown
      have KL := Lib.hid hown.lt
      clear hta hcal hrun hrun2 hr hend hown hm hadv hadvn hroom hsome hleft hnl hleft2
      unfold pPtr at K
      go_wp2_with fail
      refine (K.out.1).mono ?_
      rintro e w2 ⟨rfl, h2, hf2⟩
      go_wp2_with fail
      refine (K.out.2 _ h2).mono ?_
      rintro e w3 ⟨v, rfl, hv, h3, hf3⟩
      have hvk := hv
      obtain ⟨ra, rc, ka, kc, rfl⟩ := hvk.shape
      clear hvk
      have hzz2 := hf2.size
      have hzz3 := hf3.size
      have hO3 := ((KO.out.fr hf2 (by omega)).fr hf3 (by omega)).alloc (.cells #[.int .i64 t2.op, .slice ra t2.rs.length rc, .string t2.nm, .slice ka t2.kids.length kc, .int .i64 t2.mn, .int .i64 t2.mx] 25)
      obtain ⟨A, ho, hN⟩ := hO3
      have HO := Lib.hid ho
      have HNN := Lib.hid hN
      clear ho hN
      go_wp2_with (at_builtin; refine wpList_append_own_at _ rfl (.tmp 9) (.tmp 12) 23 rfl (w.heap.size + 1) 25 i0 (.agg #[.int .i64 0, .slice none 0 0, .string ⟨#[]⟩, .slice none 0 0, .int .i64 0, .int .i64 0]) 6 88 Try.underlying23 hi hz0 hz1 hz2 rfl (by decide) _ _ _ rfl HO.out ⟨w3.heap.size, 0, none⟩ 1 1 [.int .i64 t2.op, .slice ra t2.rs.length rc, .string t2.nm, .slice ka t2.kids.length kc, .int .i64 t2.mn, .int .i64 t2.mx] rfl rfl ?c1 ?c2 ?c3 ?c4 ?c5 ?_)
      case c1 => exact new_cells _ _ _
      case c2 => exact SixOf.one (t := t2) ⟨_, _, _, _, rfl⟩
      case c3 => unfold maxLen; omega
      case c4 => omega
      case c5 => rw [Go.Deep.nblk_alloc]; omega
      intro v' w4 hown' hgrow _ hat
      have hO4 := OwnNodes.snoc (lo2 := w2.heap.size) A t2 _ HNN.out hown' hgrow (by rw [Go.Deep.nblk_alloc]; exact hat) ⟨_, _, _, _, rfl⟩ (NodeIn.keeps (keeps_alloc _ _ _) _ _ hv) (by omega) (fun g hg => by have := (KL.out g hg).2; omega)
      have h4 := (h3.alloc (.cells #[.int .i64 t2.op, .slice ra t2.rs.length rc, .string t2.nm, .slice ka t2.kids.length kc, .int .i64 t2.mn, .int .i64 t2.mx] 25)).own hgrow (fun g hg => by have := (KL.out g hg).1; omega)
      have hf4 := (((hfr.trans hf2).trans hf3).alloc (.cells #[.int .i64 t2.op, .slice ra t2.rs.length rc, .string t2.nm, .slice ka t2.kids.length kc, .int .i64 t2.mn, .int .i64 t2.mx] 25)).own hgrow (fun g hg => by have := (KL.out g hg).1; rw [hw0, Go.Deep.nblk_alloc]; omega)
      obtain ⟨va', vc', e4⟩ := hO4.slice
      rw [List.length_append, List.length_singleton] at e4
      subst e4
      have KO4 := Lib.hid hO4
      clear hO4 hown' hat hgrow
      go_wp2
      go_roundw
      case rel => exact ⟨k, q2, acc ++ [t2], ⟨KR.out.1, by have := KR.out.2; omega, by simp; omega, by simp, KR.out.2.2.2, h4, KO4.out, hf4⟩⟩
      case measure => simp [lenOf]; omega
    · have hgo : goal = (acc, q) := by rw [← hrun, chLoop, if_neg hend]
      subst hgo
      have hta := take_no s B q 124 wr hp hend
      have K := Lib.hid hta
      have HGG := Lib.hid HG.out
      clear hrun hend hta HG
      unfold pPtr at K
      go_wp2_with fail
      refine (K.out).mono ?_
      rintro e w2 ⟨rfl, h2, hf2⟩
      have hown2 := hown.fr hf2 (by omega)
      have hfr2 := hfr.trans hf2
      have hR := (SixAt.new w (.int .i64 0) (.slice none 0 0) (.string ⟨#[]⟩) (.slice none 0 0) (.int .i64 0) (.int .i64 0) 25)
      rw [← hw0] at hR
      have hRr := hR.fr hfr2 (by omega)
      obtain ⟨r0, r1, r2, r3, r4, r5⟩ := hRr.cells
      obtain ⟨f0, f1, f2, f3, f4, f5⟩ := hRr.free
      clear hown hR hRr hp hfr
      match acc, hown2 with
      | [], _ => exact absurd rfl hsome
      | [t], hown =>
        obtain ⟨g, gc, ra, rc, ka, kc, rfl, hv, g0, g1, g2, g3, g4, g5⟩ := hown.first
        simp only [List.length_nil, Nat.zero_add]
        clear hown hsome
        go_wp2
        refine bodyPost_ret (v := .agg #[.int .i64 t.op, .slice ra t.rs.length rc, .string t.nm, .slice ka t.kids.length kc, .int .i64 t.mn, .int .i64 t.mx]) (by simp [results, Try.results22, go_sem, r0, r1, r2, r3, r4, r5]) rfl ?_
        exact ⟨_, rfl, NodeIn.lower (by omega) _ _ (NodeIn.keeps (put6_keeps (keeps_refl _ _) (by omega) _ _ _ _ _ _) _ _ hv), put6_pat h2 (by omega) _ _ _ _ _ _, put6_fr (((hw0 ▸ (Fr.refl B w).alloc _ : Fr B w w0)).trans hfr2) (Nat.le_refl _) _ _ _ _ _ _⟩
      | t :: u :: r, hown =>
        have hkd := hown.kids
        obtain ⟨va, vc, rfl⟩ := hown.slice
        obtain ⟨m, hm⟩ : ∃ m, m = (t :: u :: r).length := ⟨_, rfl⟩
        rw [← hm]
        have d1 : 2 ≤ m := by rw [hm]; simp
        have e1 : ((m : Int) == 1) = false := by rw [beq_eq_false_iff_ne]; omega
        have HM := Lib.hid (And.intro hm hkd)
        clear hown hm hkd hsome
        go_wp2
        refine bodyPost_ret (v := .agg #[.int .i64 3, .slice none 0 0, .string ⟨#[]⟩, .slice va m vc, .int .i64 0, .int .i64 0]) (by simp [results, Try.results22, go_sem, r0, r1, r2, r3, r4, r5]) rfl ?_
        rcases HM.out.2 with h0 | ⟨g, gc, hgv, hgl, hkids⟩
        · cases h0
        · simp only [Value.slice.injEq] at hgv
          obtain ⟨rfl, -, rfl⟩ := hgv
          refine ⟨_, rfl, NodeIn.lower (lo := w.heap.size + 1) (by omega) _ _ ?_, put6_pat h2 (by omega) _ _ _ _ _ _, put6_fr (((hw0 ▸ (Fr.refl B w).alloc _ : Fr B w w0)).trans hfr2) (Nat.le_refl _) _ _ _ _ _ _⟩
          rw [HM.out.1]
          exact kids_node _ _ 3 (by omega) (t :: u :: r) (by unfold maxLen; omega) g _ hgl (KidsIn.keeps (put6_keeps (keeps_refl _ _) (by omega) _ _ _ _ _ _) _ _ _ hgl hkids)
end Go.Proofs.Ytfmoidhpafpgnaa
