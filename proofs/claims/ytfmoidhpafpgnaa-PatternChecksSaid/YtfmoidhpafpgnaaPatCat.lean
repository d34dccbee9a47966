/- The contract of the parser's concat, where choice, brackets and bounds keep theirs. -/
import Derived.Test.YtfmoidhpafpgnaaPatOwn
namespace Go.Proofs.Ytfmoidhpafpgnaa
open Go.RowKit

/-- repeat, all ways. -/
theorem repeat_any (s : ByteArray) (n : Nat) (ch br : PS → Nd × PS) (hch : ChOk s n ch) (hbr : BrOk s br) (hbd : BdOk s) (p : PS) (B lo : Nat) (w : World) (he : p.er = 0) (hn : s.size - p.pos ≤ n) (h : PAt s B p w) (hB : B < lo) (hlo : lo ≤ w.heap.size) :
    AdvS s p (repeatS s ch br p).2 ∧ Calls Try.prog 36 #[pPtr B] w (NodeOut s B lo w (repeatS s ch br p)) := by
  have hadv := (atom_any s n ch br hch hbr p B lo w he hn h hB hlo).1
  have hat := fun W (hW : PAt s B p W) (hl : w.heap.size + 1 ≤ W.heap.size) => (atom_any s n ch br hch hbr p B (w.heap.size + 1) W he hn hW (by omega) hl).2
  unfold repeatS
  obtain ⟨⟨k, p1⟩, hr⟩ : ∃ r, atomS s ch br p = r := ⟨_, rfl⟩
  rw [hr] at hat hadv ⊢
  simp only at hadv ⊢
  by_cases h1 : peekS s p1 = 42
  · rw [if_pos h1]
    exact ⟨hadv.trans (next_adv (by omega)).adv, repeat_star s B lo p p1 k w h hB hlo hat h1⟩
  by_cases h2 : peekS s p1 = 43
  · rw [if_neg h1, if_pos h2]
    exact ⟨hadv.trans (next_adv (by omega)).adv, repeat_plus s B lo p p1 k w h hB hlo hat h2⟩
  by_cases h3 : peekS s p1 = 63
  · rw [if_neg h1, if_neg h2, if_pos h3]
    exact ⟨hadv.trans (next_adv (by omega)).adv, repeat_opt s B lo p p1 k w h hB hlo hat h3⟩
  by_cases h4 : peekS s p1 = 123
  · rw [if_neg h1, if_neg h2, if_neg h3, if_pos h4]
    obtain ⟨he1, hl1⟩ := peekS_in (s := s) (p := p1) (by omega)
    have hb1 : byteN s p1.pos = 123 := by rw [← peekS_ok he1]; exact h4
    have hw1 : PAt s B p1.next (w.setCell ⟨B, 1, none⟩ (.int .i64 ((p1.pos + 1 : Nat) : Int))) := by
      have := h.setPos (p1.pos + 1) _ rfl hl1
      rw [he] at this
      rw [show p1.next = ⟨p1.pos + 1, 0⟩ from by rw [PS.next, he1]]
      exact this
    obtain ⟨ha, hx, hy, -⟩ := hbd p1 B _ he1 hb1 hw1
    exact ⟨hadv.trans ((next_adv (by omega)).trans ha).adv, repeat_brace s B lo p p1 k w h hB hlo hat _ _ hx hy _ h4 fun W hW => (hbd p1 B W he1 hb1 hW).2.2.2⟩
  rw [if_neg h1, if_neg h2, if_neg h3, if_neg h4]
  exact ⟨hadv, repeat_none s B lo p p1 k w h hB hlo hat _ rfl h1 h2 h3 h4⟩

def lenOf : Value → Nat | .slice _ n _ => n | _ => 0
def mPS (s : ByteArray) (p : PS) : Nat := if p.er = 0 then s.size - p.pos + 1 else 0
theorem mPS_lt {s : ByteArray} {p q : PS} (h : AdvS s p q) (he : p.er = 0) : mPS s q < mPS s p := by
  unfold mPS
  rw [if_pos he]
  by_cases hq : q.er = 0
  · rw [if_pos hq]; have := (h.er hq).2; have := h.le; omega
  · rw [if_neg hq]; omega
theorem kids_node (lo : Nat) (w : World) (op : Int) (ho : 0 ≤ op ∧ op ≤ 7) (l : List Nd) (hl : l.length ≤ maxLen) (b c : Nat) (hlo : lo ≤ b) (h : KidsIn lo w l b 0) :
    NodeIn lo w (ndKids op l) (.agg #[.int .i64 op, .slice none 0 0, .string ⟨#[]⟩, .slice (some ⟨b, 0, none⟩) l.length c, .int .i64 0, .int .i64 0]) := by
  unfold ndKids NodeIn
  exact ⟨_, some ⟨b, 0, none⟩, c, rfl, small64 (by omega), small64 (by omega), small64 (by omega), by simp [noName, maxLen, ByteArray.size], hl, no_ranges _ _, .inr ⟨b, 0, rfl, hlo, h⟩⟩
/-- The first of a slice of nodes, as it is read. -/
theorem OwnNodes.first {lo : Nat} {w : World} {v : Value} {t : Nd} {r : List Nd} (h : OwnNodes lo w v (t :: r)) :
    ∃ g c ra rc ka kc, v = .slice (some ⟨g, 0, none⟩) (r.length + 1) c ∧ NodeIn lo w t (.agg #[.int .i64 t.op, .slice ra t.rs.length rc, .string t.nm, .slice ka t.kids.length kc, .int .i64 t.mn, .int .i64 t.mx]) ∧
      w.cell? ⟨g, 0, none⟩ = some (.int .i64 t.op) ∧ w.cell? ⟨g, 1, none⟩ = some (.slice ra t.rs.length rc) ∧ w.cell? ⟨g, 2, none⟩ = some (.string t.nm) ∧ w.cell? ⟨g, 3, none⟩ = some (.slice ka t.kids.length kc) ∧ w.cell? ⟨g, 4, none⟩ = some (.int .i64 t.mn) ∧ w.cell? ⟨g, 5, none⟩ = some (.int .i64 t.mx) := by
  rcases h.kids with h0 | ⟨g, c, hv, -, hk⟩
  · cases h0
  · unfold KidsIn at hk
    obtain ⟨⟨op, rv, nm, kv, mn, mx, hn, c0, c1, c2, c3, c4, c5⟩, -⟩ := hk
    obtain ⟨ra, rc, ka, kc, hs⟩ := hn.shape
    unfold ndVals at hs
    simp only [Value.agg.injEq, Array.mk.injEq, List.cons.injEq, and_true] at hs
    obtain ⟨e0, rfl, e2, rfl, e4, e5⟩ := hs
    unfold ndVals at hn
    rw [e0, e2, e4, e5] at hn
    rw [e0] at c0
    rw [e2] at c2
    rw [e4] at c4
    rw [e5] at c5
    exact ⟨g, c, ra, rc, ka, kc, hv, hn, c0, c1, c2, c3, c4, c5⟩
def RpOk (s : ByteArray) (n : Nat) (rp : PS → Nd × PS) : Prop :=
  ∀ (p : PS) (B lo : Nat) (w : World), p.er = 0 → s.size - p.pos ≤ n → PAt s B p w → B < lo → lo ≤ w.heap.size →
    AdvS s p (rp p).2 ∧ Calls Try.prog 36 #[pPtr B] w (NodeOut s B lo w (rp p))
theorem infoNode : (Try.prog.info? 25).map (fun i => (i.zero, i.size, i.bytes)) = some (some (.agg #[.int .i64 0, .slice none 0 0, .string ⟨#[]⟩, .slice none 0 0, .int .i64 0, .int .i64 0]), 6, 88) := by kernel_rfl

theorem Fr.own {B : Nat} {a w w' : World} {row : Option Nat} (h : Fr B a w) (k : w.grownBy w' row) (hr : ∀ b, row = some b → a.heap.size ≤ b) : Fr B a w' :=
  ⟨k.os.trans h.os, k.tape.trans h.tape, k.output.trans h.output, Nat.le_trans h.size k.size, fun i hi hn => (k.block i (Nat.lt_of_lt_of_le hi h.size) (fun e => by have := hr i e.symm; omega)).trans (h.block i hi hn)⟩
theorem PAt.own {s : ByteArray} {B : Nat} {p : PS} {w w' : World} {row : Option Nat} (h : PAt s B p w) (k : w.grownBy w' row) (hr : ∀ b, row = some b → B < b) : PAt s B p w' :=
  ⟨(k.block B h.lt (fun e => by have := hr B e.symm; omega)).trans h.hp, h.le, h.sz⟩
theorem OwnNodes.alloc {lo : Nat} {w : World} {v : Value} {l : List Nd} (h : OwnNodes lo w v l) (o : Obj) : OwnNodes lo (w.alloc o) v l := h.grown (World.grownBy_alloc w o none) (fun _ hb => by cases hb)
theorem OwnNodes.lt {lo : Nat} {w : World} {v : Value} {l : List Nd} (h : OwnNodes lo w v l) : ∀ g, v.ownBlock = some g → lo ≤ g ∧ g < w.heap.size := by
  obtain ⟨A, ho, -⟩ := h
  exact fun g hg => ho.lt g hg
theorem new_cells (w : World) (l : List Value) (t : TypeId) : ∀ j u, l[j]? = some u → (w.alloc (.cells l.toArray t)).cell? ((⟨w.heap.size, 0, none⟩ : Addr).add j) = some u := fun j u hj => by
  have e : (⟨w.heap.size, 0, none⟩ : Addr).add j = ⟨w.heap.size, j, none⟩ := by unfold Addr.add; split <;> simp_all
  rw [e, Lib.cell_of_heap (heap_alloc_new _ _)]
  simpa using hj

/-- What the loop of concat holds at a round's head. -/
structure CatAt (s : ByteArray) (B L n : Nat) (ch br : PS → Nd × PS) (w0 : World) (goal : List Nd × PS) (v c : Value) (wr : World) (k : Nat) (q : PS) (acc : List Nd) : Prop where
  run : catLoop s ch br k q acc = goal
  room : mPS s q < k
  len : acc.length + k ≤ s.size + 2
  left : q.er = 0 → s.size - q.pos ≤ n
  hc : c = .int .u8 (peekS s q : Nat)
  hp : PAt s B q wr
  own : OwnNodes L wr v acc
  fr : Fr B w0 wr

set_option maxRecDepth 100000 in
set_option maxHeartbeats 4000000 in
theorem concat_any (s : ByteArray) (n : Nat) (ch br : PS → Nd × PS) (hrp : RpOk s n (repeatS s ch br)) (p : PS) (B lo : Nat) (w : World) (he : p.er = 0) (hn : s.size - p.pos ≤ n) (h : PAt s B p w) (hB : B < lo) (hlo : lo ≤ w.heap.size) :
    Calls Try.prog 27 #[pPtr B] w (NodeOut s B lo w (concatS s ch br p)) := by
  obtain ⟨i0, hi, hz0, hz1, hz2⟩ := info_parts infoNode
  have hpk := fun q W hW => peek_to s B q W hW
  unfold concatS
  obtain ⟨goal, hgoal⟩ : ∃ g, catLoop s ch br (s.size + 2) p [] = g := ⟨_, rfl⟩
  rw [hgoal]
  have hmp : mPS s p < s.size + 2 := by unfold mPS; split <;> omega
  have H := Lib.hid hpk
  have HR := Lib.hid hrp
  have HG := Lib.hid hgoal
  have hsz := h.sz
  clear hpk hrp hgoal he
  unfold pPtr at H ⊢
  go_enter Try.func27, Try.ntmps27
  go_wp2_with fail
  refine (H.out p _ (h.alloc _)).mono ?_
  rintro e w1 ⟨rfl, h1, hf1⟩
  go_wp2_with fail
  obtain ⟨w0, hw0⟩ : ∃ w0, w0 = w.alloc (.cells #[.int .i64 0, .slice none 0 0, .string ⟨#[]⟩, .slice none 0 0, .int .i64 0, .int .i64 0] 25) := ⟨_, rfl⟩
  rw [← hw0] at hf1
  go_loopw [3, 4] (fun v c wr => ∃ k q acc, CatAt s B (w.heap.size + 1) n ch br w0 goal v c wr k q acc) (fun v _ _ => 500 - lenOf v)
  case atStart => exact ⟨s.size + 2, p, [], ⟨HG.out, hmp, by simp, fun _ => hn, rfl, h1, ownNodes_nil _ _, hf1⟩⟩
  case round =>
    obtain ⟨k, q, acc, hrun, hroom, hlen, hleft, rfl, hp, hown, hfr⟩ := hrel
    have hlq := hp.le
    have hzw : w.heap.size + 1 ≤ wr.heap.size := by have := hfr.size; rw [hw0, Go.Deep.nblk_alloc] at this; omega
    by_cases hend : endsCat (peekS s q) = true
    · obtain ⟨k, rfl⟩ : ∃ k', k = k' + 1 := ⟨k - 1, by omega⟩
      have hgo : goal = (acc, q) := by rw [← hrun, catLoop, if_pos hend]
      subst hgo
      have hR := (SixAt.new w (.int .i64 0) (.slice none 0 0) (.string ⟨#[]⟩) (.slice none 0 0) (.int .i64 0) (.int .i64 0) 25)
      rw [← hw0] at hR
      have hRr := hR.fr hfr (by omega)
      obtain ⟨r0, r1, r2, r3, r4, r5⟩ := hRr.cells
      obtain ⟨f0, f1, f2, f3, f4, f5⟩ := hRr.free
      obtain ⟨c, hc⟩ : ∃ c, peekS s q = c := ⟨_, rfl⟩
      rw [hc] at hend ⊢
      have T : (((c : Int) != 0) = false ∧ ((c : Int) == 0) = true) ∨ (((c : Int) != 0) = true ∧ ((c : Int) == 0) = false ∧ ((c : Int) != 124) = false ∧ ((c : Int) == 124) = true) ∨
          (((c : Int) != 0) = true ∧ ((c : Int) == 0) = false ∧ ((c : Int) != 124) = true ∧ ((c : Int) == 124) = false ∧ ((c : Int) != 41) = false ∧ ((c : Int) == 41) = true) := by
        have h3 : c = 0 ∨ c = 124 ∨ c = 41 := by simpa [endsCat, or_assoc] using hend
        rcases h3 with rfl | rfl | rfl <;> decide
      have HO := Lib.hid hown
      have HGG := Lib.hid HG.out
      clear hrun hc hend hR hRr HG
      match acc, hown with
      | [], hown =>
        obtain ⟨va, vc, rfl⟩ := hown.slice
        simp only [List.length_nil]
        clear hown
        rcases T with ⟨t0, u0⟩ | ⟨t0, u0, t1, u1⟩ | ⟨t0, u0, t1, u1, t2, u2⟩
        all_goals
          go_wp2
          refine bodyPost_ret (v := .agg #[.int .i64 0, .slice none 0 0, .string ⟨#[]⟩, .slice none 0 0, .int .i64 0, .int .i64 0]) (by simp [results, Try.results27, go_sem, r0, r1, r2, r3, r4, r5]) rfl ?_
          exact ⟨_, rfl, leaf_node _ _ _ (by omega), put6_pat hp (by omega) _ _ _ _ _ _, put6_fr (((hw0 ▸ (Fr.refl B w).alloc _ : Fr B w w0)).trans hfr) (Nat.le_refl _) _ _ _ _ _ _⟩
      | [t], hown =>
        obtain ⟨g, gc, ra, rc, ka, kc, rfl, hv, g0, g1, g2, g3, g4, g5⟩ := hown.first
        simp only [List.length_nil, Nat.zero_add]
        clear hown
        rcases T with ⟨t0, u0⟩ | ⟨t0, u0, t1, u1⟩ | ⟨t0, u0, t1, u1, t2, u2⟩
        all_goals
          go_wp2
          refine bodyPost_ret (v := .agg #[.int .i64 t.op, .slice ra t.rs.length rc, .string t.nm, .slice ka t.kids.length kc, .int .i64 t.mn, .int .i64 t.mx]) (by simp [results, Try.results27, go_sem, r0, r1, r2, r3, r4, r5]) rfl ?_
          exact ⟨_, rfl, NodeIn.lower (by omega) _ _ (NodeIn.keeps (put6_keeps (keeps_refl _ _) (by omega) _ _ _ _ _ _) _ _ hv), put6_pat hp (by omega) _ _ _ _ _ _, put6_fr (((hw0 ▸ (Fr.refl B w).alloc _ : Fr B w w0)).trans hfr) (Nat.le_refl _) _ _ _ _ _ _⟩
      | t :: u :: r, hown =>
        have hkd := hown.kids
        obtain ⟨va, vc, rfl⟩ := hown.slice
        have hkl : ∃ m, m = (t :: u :: r).length := ⟨_, rfl⟩
        obtain ⟨m, hm⟩ := hkl
        rw [← hm]
        have d1 : 2 ≤ m := by rw [hm]; simp
        have e0 : ((m : Int) == 0) = false := by rw [beq_eq_false_iff_ne]; omega
        have e1 : ((m : Int) == 1) = false := by rw [beq_eq_false_iff_ne]; omega
        have HM := Lib.hid (And.intro hm hkd)
        clear hown hm hkd
        rcases T with ⟨t0, u0⟩ | ⟨t0, u0, t1, u1⟩ | ⟨t0, u0, t1, u1, t2, u2⟩
        all_goals
          go_wp2
          refine bodyPost_ret (v := .agg #[.int .i64 2, .slice none 0 0, .string ⟨#[]⟩, .slice va m vc, .int .i64 0, .int .i64 0]) (by simp [results, Try.results27, go_sem, r0, r1, r2, r3, r4, r5]) rfl ?_
          rcases HM.out.2 with h0 | ⟨g, gc, hgv, hgl, hkids⟩
          · cases h0
          · simp only [Value.slice.injEq] at hgv
            obtain ⟨rfl, -, rfl⟩ := hgv
            refine ⟨_, rfl, NodeIn.lower (lo := w.heap.size + 1) (by omega) _ _ ?_, put6_pat hp (by omega) _ _ _ _ _ _, put6_fr (((hw0 ▸ (Fr.refl B w).alloc _ : Fr B w w0)).trans hfr) (Nat.le_refl _) _ _ _ _ _ _⟩
            rw [HM.out.1]
            exact kids_node _ _ 2 (by omega) (t :: u :: r) (by unfold maxLen; omega) g _ hgl (KidsIn.keeps (put6_keeps (keeps_refl _ _) (by omega) _ _ _ _ _ _) _ _ _ hgl hkids)
    · obtain ⟨n0, n1, n2⟩ : peekS s q ≠ 0 ∧ peekS s q ≠ 124 ∧ peekS s q ≠ 41 := by simpa [endsCat, not_or, and_assoc] using hend
      obtain ⟨hq0, hql⟩ := peekS_in n0
      obtain ⟨k, rfl⟩ : ∃ k', k = k' + 1 := ⟨k - 1, by omega⟩
      have hrun2 : catLoop s ch br k (repeatS s ch br q).2 (acc ++ [(repeatS s ch br q).1]) = goal := by rw [← hrun, catLoop, if_neg hend]
      have hrep := HR.out q B wr.heap.size wr hq0 (hleft hq0) hp (by have := hp.lt; omega) (Nat.le_refl _)
      obtain ⟨⟨t, q2⟩, hr⟩ : ∃ r, repeatS s ch br q = r := ⟨_, rfl⟩
      rw [hr] at hrun2 hrep
      obtain ⟨hadv, hcall⟩ := hrep
      simp only at hrun2 hadv
      have hm := mPS_lt hadv hq0
      obtain ⟨c, hc⟩ : ∃ c, peekS s q = c := ⟨_, rfl⟩
      rw [hc] at n0 n1 n2 ⊢
      have t0 : ((c : Int) != 0) = true := by rw [bne_iff_ne]; omega
      have t1 : ((c : Int) != 124) = true := by rw [bne_iff_ne]; omega
      have t2 : ((c : Int) != 41) = true := by rw [bne_iff_ne]; omega
      have u0 : ((c : Int) == 0) = false := by rw [beq_eq_false_iff_ne]; omega
      have u1 : ((c : Int) == 124) = false := by rw [beq_eq_false_iff_ne]; omega
      have u2 : ((c : Int) == 41) = false := by rw [beq_eq_false_iff_ne]; omega
      obtain ⟨va, vc, rfl⟩ := hown.slice
      have HC := Lib.hid hcall
      have K := Lib.hid (And.intro hrun hrun2)
      have KO := Lib.hid hown
      have KF := Lib.hid (And.intro hm (And.intro hadv hroom))
      clear hcall hrun hrun2 hr hc hend hown hm hadv hroom
      go_wp2_with fail
      unfold pPtr at HC
      refine (HC.out).mono ?_
      rintro e w2 ⟨v, rfl, hv, h2, hf2⟩
      have hvk := hv
      obtain ⟨ra, rc, ka, kc, rfl⟩ := hvk.shape
      clear hvk
      have hz2' := hf2.size
      have KL := Lib.hid KO.out.lt
      have hO2 := (KO.out.fr hf2 (by omega)).alloc (.cells #[.int .i64 t.op, .slice ra t.rs.length rc, .string t.nm, .slice ka t.kids.length kc, .int .i64 t.mn, .int .i64 t.mx] 25)
      obtain ⟨A, ho, hN⟩ := hO2
      have HO := Lib.hid ho
      have HN := Lib.hid hN
      clear ho hN
      go_wp2_with (at_builtin; refine wpList_append_own_at _ rfl (.tmp 19) (.tmp 22) 23 rfl (w.heap.size + 1) 25 i0 (.agg #[.int .i64 0, .slice none 0 0, .string ⟨#[]⟩, .slice none 0 0, .int .i64 0, .int .i64 0]) 6 88 Try.underlying23 hi hz0 hz1 hz2 rfl (by decide) _ _ _ rfl HO.out ⟨w2.heap.size, 0, none⟩ 1 1 [.int .i64 t.op, .slice ra t.rs.length rc, .string t.nm, .slice ka t.kids.length kc, .int .i64 t.mn, .int .i64 t.mx] rfl rfl ?c1 ?c2 ?c3 ?c4 ?c5 ?_)
      case c1 => exact new_cells _ _ _
      case c2 => exact SixOf.one (t := t) ⟨_, _, _, _, rfl⟩
      case c3 => unfold maxLen; omega
      case c4 => omega
      case c5 => rw [Go.Deep.nblk_alloc]; omega
      intro v' w3 hown' hgrow _ hat
      have hO3 := OwnNodes.snoc (lo2 := wr.heap.size) A t _ HN.out hown' hgrow (by rw [Go.Deep.nblk_alloc]; exact hat) ⟨_, _, _, _, rfl⟩ (NodeIn.keeps (keeps_alloc _ _ _) _ _ hv) hzw (fun g hg => (KL.out g hg).2)
      have h3 := (h2.alloc (.cells #[.int .i64 t.op, .slice ra t.rs.length rc, .string t.nm, .slice ka t.kids.length kc, .int .i64 t.mn, .int .i64 t.mx] 25)).own hgrow (fun g hg => by have := (KL.out g hg).1; omega)
      have hf3 := ((hfr.trans hf2).alloc (.cells #[.int .i64 t.op, .slice ra t.rs.length rc, .string t.nm, .slice ka t.kids.length kc, .int .i64 t.mn, .int .i64 t.mx] 25)).own hgrow (fun g hg => by have := (KL.out g hg).1; rw [hw0, Go.Deep.nblk_alloc]; omega)
      obtain ⟨va', vc', e3⟩ := hO3.slice
      rw [List.length_append, List.length_singleton] at e3
      subst e3
      have KO3 := Lib.hid hO3
      clear hO3 hown' hat hgrow
      go_wp2_with fail
      refine (H.out q2 _ h3).mono ?_
      rintro e w4 ⟨rfl, h4, hf4⟩
      go_wp2
      go_roundw
      case rel => exact ⟨k, q2, acc ++ [t], ⟨K.out.2, by have := KF.out; omega, by simp; omega, fun h6 => by have := (KF.out.2.1.er h6).2; have := hleft hq0; omega, rfl, h4, KO3.out.fr hf4 (by omega), hf3.trans hf4⟩⟩
      case measure => simp [lenOf]; omega
end Go.Proofs.Ytfmoidhpafpgnaa
