/- The contract of the parser's brackets. -/
import Derived.Test.YtfmoidhpafpgnaaPatSpan
namespace Go.Proofs.Ytfmoidhpafpgnaa
open Go.RowKit

def brLoop (s : ByteArray) : Nat → PS → (Nat → Bool) → (Nat → Bool) × PS
  | 0, p, f => (f, p)
  | k + 1, p, f => if p.er = 0 ∧ peekS s p ≠ 93 then brLoop s k (spanS s p).2 (addS f (spanS s p).1) else (f, takeS s p 93)
def brSet (s : ByteArray) (p : PS) : (Nat → Bool) × PS :=
  brLoop s (s.size + 2) (spanS s (takeS s p 94)).2 (addS (fun _ => false) (spanS s (takeS s p 94)).1)
def bracketS (s : ByteArray) (p : PS) : Nd × PS :=
  (ndClass (rangesS (if peekS s p = 94 then fun c => !(brSet s p).1 c else (brSet s p).1)), (brSet s p).2)
theorem take_adv {s : ByteArray} {p : PS} (c : Nat) (hc : c ≠ 0) (h : p.pos ≤ s.size) : Adv s p (takeS s p c) := by
  unfold takeS; split
  · exact (next_adv (by omega)).adv
  · exact Adv.refl h
theorem brLoop_adv (s : ByteArray) : ∀ k (p : PS) f, p.pos ≤ s.size → Adv s p (brLoop s k p f).2 := by
  intro k
  induction k with
  | zero => intro p f h; exact Adv.refl h
  | succ k ih =>
    intro p f h
    unfold brLoop
    split
    · exact (span_advS h).adv.trans (ih _ _ (span_advS h).le)
    · exact take_adv 93 (by omega) h
theorem bracket_adv (s : ByteArray) (p : PS) (h : p.pos ≤ s.size) : Adv s p (bracketS s p).2 := by
  have h1 := take_adv (s := s) (p := p) 94 (by omega) h
  have h2 := span_advS (s := s) h1.le
  exact (h1.trans h2.adv).trans (brLoop_adv s _ _ _ h2.le)

def erIn (B : Nat) (w : World) : Int := match w.cell? ⟨B, 2, none⟩ with | some v => intOf v | none => 0
theorem erIn_eq {s : ByteArray} {B : Nat} {p : PS} {w : World} (h : PAt s B p w) : erIn B w = p.er := by
  unfold erIn; rw [h.parts.2.2.1]; simp [intOf]
def mIn (s : ByteArray) (B : Nat) (w : World) : Nat := mPS s ⟨posIn B w, erIn B w⟩
theorem mIn_eq {s : ByteArray} {B : Nat} {p : PS} {w : World} (h : PAt s B p w) : mIn s B w = mPS s p := by
  unfold mIn; rw [posIn_eq h, erIn_eq h]
theorem fr_setRow (G : Nat) (w : World) (cs : Array Value) : Fr G w (w.setRow G cs) :=
  ⟨rfl, rfl, rfl, by simp, fun i _ hne => setRow_other w G i cs (fun e => hne (by rw [e]))⟩

/-- What the loop of brackets holds. -/
structure BrAt (s : ByteArray) (B G : Nat) (w0 : World) (goal : (Nat → Bool) × PS) (wr : World) (k : Nat) (q : PS) (f : Nat → Bool) : Prop where
  run : brLoop s k q f = goal
  room : mPS s q < k
  hp : PAt s B q wr
  set : SetAt G f wr
  fr : Fr B w0 wr

set_option maxRecDepth 100000 in
set_option maxHeartbeats 8000000 in
theorem br_pos (s : ByteArray) (B lo : Nat) (p : PS) (w : World) (h : PAt s B p w) (hc : peekS s p ≠ 94) (_hB : B < lo) (hlo : lo ≤ w.heap.size) :
    Calls Try.prog 48 #[pPtr B] w (NodeOut s B lo w (ndClass (rangesS ((brSet s p).1)), (brSet s p).2)) := by
  have hsz := h.sz
  have hBl := h.lt
  have ht := take_all s B p (peekS s p) rfl
  have h1a := take_adv (s := s) (p := p) 94 (by omega) h.le
  have hspan := fun q W hW l hl hb => span_any s B l q W hW hl hb
  have hadd := fun G l f rs v W hv hs hg => add_any G l f rs v W hv hs hg
  have hoth := fun f W => others_any f W
  have hrgs := fun f W => ranges_any f W
  unfold brSet
  obtain ⟨p1, hp1⟩ : ∃ p1, takeS s p 94 = p1 := ⟨_, rfl⟩
  have hp1' : p1 = p := by rw [← hp1, takeS, if_neg hc]
  rw [hp1] at h1a ⊢
  have htk : ∀ W, PAt s B p W → Calls Try.prog 28 #[pPtr B, .int .u8 ((94 : Nat) : Int)] W fun e w' => e = .returned (.bool false) ∧ PAt s B p1 w' ∧ Fr B W w' := fun W hW => by rw [hp1']; exact ht.1 94 W hW hc
  have h2a := span_advS (s := s) h1a.le
  obtain ⟨⟨rs1, p2⟩, hr1⟩ : ∃ r, spanS s p1 = r := ⟨_, rfl⟩
  have hsp1 := fun W hW l hl hb => hspan p1 W hW l hl hb
  rw [hr1] at h2a hsp1 ⊢
  simp only at h2a ⊢
  obtain ⟨goal, hgoal⟩ : ∃ g, brLoop s (s.size + 2) p2 (addS (fun _ => false) rs1) = g := ⟨_, rfl⟩
  rw [hgoal]
  have hmp : mPS s p2 < s.size + 2 := by unfold mPS; split <;> omega
  have hf0 : Fr B w (w.alloc (.cells #[.int .i64 0, .slice none 0 0, .string ⟨#[]⟩, .slice none 0 0, .int .i64 0, .int .i64 0] 25)) := (Fr.refl B w).alloc _
  have hR0 := SixAt.new w (.int .i64 0) (.slice none 0 0) (.string ⟨#[]⟩) (.slice none 0 0) (.int .i64 0) (.int .i64 0) 25
  have H := Lib.hid (And.intro htk (And.intro hsp1 (And.intro hspan hadd)))
  have HO := Lib.hid hoth
  have HRG := Lib.hid hrgs
  have HG := Lib.hid hgoal
  have HP0 := Lib.hid (h.alloc (.cells #[.int .i64 0, .slice none 0 0, .string ⟨#[]⟩, .slice none 0 0, .int .i64 0, .int .i64 0] 25))
  obtain ⟨w0, hw0⟩ : ∃ w0, w.alloc (.cells #[.int .i64 0, .slice none 0 0, .string ⟨#[]⟩, .slice none 0 0, .int .i64 0, .int .i64 0] 25) = w0 := ⟨_, rfl⟩
  have hz0 : w0.heap.size = w.heap.size + 1 := by rw [← hw0, Go.Deep.nblk_alloc]
  rw [hw0] at hf0 hR0 HP0
  have HF0 := Lib.hid hf0
  have HR := Lib.hid hR0
  have HZ := Lib.hid hz0
  have HW0 := Lib.hid hw0
  have HT := Lib.hid (fun q => take_all s B q (peekS s q) rfl)
  clear ht hspan hadd hoth hrgs hp1 hp1' htk hsp1 hr1 hgoal hf0 hR0 hz0 hc h h1a h2a
  unfold pPtr at H HT ⊢
  go_enter Try.func48, Try.ntmps48
  go_wp2_with fail
  skip
  clear hw0 HW0
  refine (H.out.1 _ HP0.out).mono ?_
  rintro e w1 ⟨rfl, h1, hf1⟩
  have hz1 := hf1.size
  rw [HZ.out] at hz1
  have h1' := h1.alloc (.cells Try.zeroCells82 82)
  have hf1' := hf1.alloc (.cells Try.zeroCells82 82)
  have hset0 : SetAt w1.heap.size (fun _ => false) (w1.alloc (.cells Try.zeroCells82 82)) := by
    unfold SetAt; rw [heap_alloc_new, zeroRowB]
  obtain ⟨G, hG⟩ : ∃ G, w1.heap.size = G := ⟨_, rfl⟩
  have hGz : G < (w1.alloc (.cells Try.zeroCells82 82)).heap.size := by rw [Go.Deep.nblk_alloc, hG]; omega
  obtain ⟨w1', hw1'⟩ : ∃ w', w1.alloc (.cells Try.zeroCells82 82) = w' := ⟨_, rfl⟩
  have HK1 := Lib.hid (And.intro h1' (And.intro hf1' hset0))
  rw [hw1', hG] at HK1
  rw [hw1'] at hGz
  rw [hG] at hz1
  have HE := Lib.hid (And.intro hw1' hG)
  clear h1' hf1' hset0 hw1' hG h1 hf1
  go_wp2_with fail
  rw [HE.out.1, HE.out.2]
  clear HE
  refine (H.out.2.1 _ HK1.out.1 (G + 1) hGz (by omega)).mono ?_
  rintro e w2 ⟨v2, rfl, hv2, h2, hf2⟩
  have hs2 := HK1.out.2.2.keep hf2 (by omega)
  obtain ⟨a2, k2, rfl, -, -, -⟩ := id hv2
  go_wp2_with fail
  refine (H.out.2.2.2 G (G + 1) _ _ _ _ hv2 hs2 (Nat.lt_succ_self _)).mono ?_
  rintro e w3 ⟨rfl, hs3, hf3⟩
  have h3 := h2.own hf3 (fun b hb => by have := Option.some.inj hb; omega)
  have hfr3 := (HK1.out.2.1.trans hf2).own hf3 (fun b hb => by have := Option.some.inj hb; rw [HZ.out]; omega)
  have HL := Lib.hid (And.intro h3 (And.intro hs3 hfr3))
  clear h2 hf2 hs2 hs3 hf3 h3 hfr3 hv2
  skip
  go_wp2_with fail
  go_loopw [] (fun wr => ∃ k q f, BrAt s B G w0 goal wr k q f) (fun wr => mIn s B wr)
  case atStart => exact ⟨s.size + 2, p2, _, HG.out, hmp, HL.out.1, HL.out.2.1, HL.out.2.2⟩
  case round =>
    obtain ⟨k, q, f, hrun, hroom, hp, hset, hfr⟩ := hrel
    obtain ⟨k, rfl⟩ : ∃ k', k = k' + 1 := ⟨k - 1, by omega⟩
    obtain ⟨c0, c1, c2, f1, f2⟩ := hp.parts
    have hql := hp.le
    have hGr := hset.lt
    by_cases he : q.er = 0
    · by_cases hend : peekS s q = 93
      · have hgo : goal = (f, q.next) := by rw [← hrun, brLoop, if_neg (by simp [hend]), takeS, if_pos hend]
        subst hgo
        rw [he] at c2
        have HH := Lib.hid (And.intro hend (And.intro hset hfr))
        have HPP := Lib.hid hp
        clear hrun hend hset hfr hroom he hp
        go_wp2_with fail
        refine ((HT.out q).2 93 _ HPP.out HH.out.1 (by omega)).mono ?_
        rintro e w2 ⟨rfl, hp2, hg⟩
        have hs2 := HH.out.2.1.keep hg (by omega)
        have hf2 := HH.out.2.2.trans hg
        obtain ⟨fg, rfl⟩ : ∃ fg, fg = f := ⟨_, rfl⟩
        clear hg
        have HS : Hid (w2.heap[G]? = some (.cells (rowB fg) 82 (0, 0))) := hs2
        have KK4 := Lib.hid (And.intro hp2 hf2)
        have hz3 := hf2.size
        clear hp2 hs2 hf2
        go_wp2_with (with_reducible refine wpList_load_row rfl 82 (.tmp 4) rfl G rfl 82 (rowB fg) (0, 0) _ HS.out Try.underlying82 rfl (by rw [rowB_size]; exact sizeSet) ?_)
        obtain ⟨w5, rfl⟩ : ∃ w5, w5 = w2 := ⟨_, rfl⟩
        refine (HRG.out (fg) _).mono ?_
        rintro e w6 ⟨v6, rfl, hv6, hb6⟩
        obtain ⟨a6, k6, rfl, -, -, -⟩ := id hv6
        have hp6 := KK4.out.1.below hb6
        have hf6 := KK4.out.2.below hb6
        have hz6 := hb6.size
        have hR6 := HR.out.fr hf6 (by have := HZ.out; omega)
        obtain ⟨r0, r1, r2, r3, r4, r5⟩ := hR6.cells
        obtain ⟨p0, p1, p2, p3, p4, p5⟩ := hR6.free
        clear hR6
        go_wp2
        refine bodyPost_ret (v := .agg #[.int .i64 1, .slice a6 (rangesS (fg)).length k6, .string ⟨#[]⟩, .slice none 0 0, .int .i64 0, .int .i64 0]) (by simp [results, Try.results48, go_sem, r0, r1, r2, r3, r4, r5]) rfl ?_
        exact ⟨_, rfl, class_node _ _ _ _ (RangesIn.lower (hv6.keeps (put6_keeps (keeps_refl _ _) (by have := HZ.out; omega) _ _ _ _ _ _)) (by have := HZ.out; omega)), put6_pat hp6 (by have := HZ.out; omega) _ _ _ _ _ _, put6_fr ((HF0.out.trans hf6)) (Nat.le_refl _) _ _ _ _ _ _⟩
      · have hrun2 : brLoop s k (spanS s q).2 (addS f (spanS s q).1) = goal := by rw [← hrun, brLoop, if_pos ⟨he, hend⟩]
        have hadv := span_advS (s := s) hql
        have hcall := fun W hW l hl hb => H.out.2.2.1 q W hW l hl hb
        obtain ⟨⟨rs2, q2⟩, hr2⟩ : ∃ r, spanS s q = r := ⟨_, rfl⟩
        rw [hr2] at hrun2 hadv hcall
        simp only at hrun2 hadv
        have hm := mPS_lt hadv he
        rw [he] at c2
        have HH := Lib.hid (And.intro hend (And.intro hset (And.intro hfr (And.intro hrun2 (And.intro hm hroom)))))
        have HPP := Lib.hid hp
        have HC := Lib.hid hcall
        clear hrun hrun2 hend hset hfr hroom he hp hadv hcall hr2 hm
        go_wp2_with fail
        refine ((HT.out q).1 93 _ HPP.out HH.out.1).mono ?_
        rintro e w2 ⟨rfl, hp2, hg⟩
        have hs2 := HH.out.2.1.keep hg (by omega)
        have hf2 := HH.out.2.2.1.trans hg
        have hz2 := hs2.lt
        go_wp2_with fail
        refine (HC.out _ hp2 (G + 1) (by omega) (by omega)).mono ?_
        rintro e w3 ⟨v3, rfl, hv3, hp3, hg3⟩
        have hs3 := hs2.keep hg3 (by omega)
        obtain ⟨a3, k3, rfl, -, -, -⟩ := id hv3
        go_wp2_with fail
        refine (H.out.2.2.2 G (G + 1) _ _ _ _ hv3 hs3 (Nat.lt_succ_self _)).mono ?_
        rintro e w4 ⟨rfl, hs4, hg4⟩
        have hp4 := hp3.own hg4 (fun b hb => by have := Option.some.inj hb; omega)
        have hf4 := (hf2.trans hg3).own hg4 (fun b hb => by have := Option.some.inj hb; rw [HZ.out]; omega)
        have HQ := Lib.hid (And.intro hp4 (And.intro hs4 hf4))
        clear hs2 hf2 hp2 hg hs3 hp3 hg3 hs4 hg4 hp4 hf4 hv3
        go_wp2
        go_roundw
        case rel => exact ⟨k, q2, _, HH.out.2.2.2.1, by have := HH.out.2.2.2.2; omega, HQ.out.1, HQ.out.2.1, HQ.out.2.2⟩
        case measure => rw [mIn_eq HPP.out, mIn_eq HQ.out.1]; exact HH.out.2.2.2.2.1
    · have hpz : peekS s q = 0 := by simp [peekS, he]
      have hgo : goal = (f, q) := by rw [← hrun, brLoop, if_neg (fun e => he e.1), takeS, if_neg (by rw [hpz]; omega)]
      subst hgo
      have e1 : (q.er == 0) = false := by rw [beq_eq_false_iff_ne]; exact he
      obtain ⟨w2, rfl⟩ : ∃ w2, w2 = wr := ⟨_, rfl⟩
      have hp2 := hp
      have hs2 := hset
      have hf2 := hfr
      obtain ⟨fg, rfl⟩ : ∃ fg, fg = f := ⟨_, rfl⟩
      clear hrun hset hfr hroom he hp hpz
      have HS : Hid (w2.heap[G]? = some (.cells (rowB fg) 82 (0, 0))) := hs2
      have KK4 := Lib.hid (And.intro hp2 hf2)
      have hz3 := hf2.size
      clear hp2 hs2 hf2
      go_wp2_with (with_reducible refine wpList_load_row rfl 82 (.tmp 4) rfl G rfl 82 (rowB fg) (0, 0) _ HS.out Try.underlying82 rfl (by rw [rowB_size]; exact sizeSet) ?_)
      obtain ⟨w5, rfl⟩ : ∃ w5, w5 = w2 := ⟨_, rfl⟩
      refine (HRG.out (fg) _).mono ?_
      rintro e w6 ⟨v6, rfl, hv6, hb6⟩
      obtain ⟨a6, k6, rfl, -, -, -⟩ := id hv6
      have hp6 := KK4.out.1.below hb6
      have hf6 := KK4.out.2.below hb6
      have hz6 := hb6.size
      have hR6 := HR.out.fr hf6 (by have := HZ.out; omega)
      obtain ⟨r0, r1, r2, r3, r4, r5⟩ := hR6.cells
      obtain ⟨p0, p1, p2, p3, p4, p5⟩ := hR6.free
      clear hR6
      go_wp2
      refine bodyPost_ret (v := .agg #[.int .i64 1, .slice a6 (rangesS (fg)).length k6, .string ⟨#[]⟩, .slice none 0 0, .int .i64 0, .int .i64 0]) (by simp [results, Try.results48, go_sem, r0, r1, r2, r3, r4, r5]) rfl ?_
      exact ⟨_, rfl, class_node _ _ _ _ (RangesIn.lower (hv6.keeps (put6_keeps (keeps_refl _ _) (by have := HZ.out; omega) _ _ _ _ _ _)) (by have := HZ.out; omega)), put6_pat hp6 (by have := HZ.out; omega) _ _ _ _ _ _, put6_fr ((HF0.out.trans hf6)) (Nat.le_refl _) _ _ _ _ _ _⟩

set_option maxRecDepth 100000 in
set_option maxHeartbeats 8000000 in
theorem br_neg (s : ByteArray) (B lo : Nat) (p : PS) (w : World) (h : PAt s B p w) (hc : peekS s p = 94) (_hB : B < lo) (hlo : lo ≤ w.heap.size) :
    Calls Try.prog 48 #[pPtr B] w (NodeOut s B lo w (ndClass (rangesS (fun c => !(brSet s p).1 c)), (brSet s p).2)) := by
  have hsz := h.sz
  have hBl := h.lt
  have ht := take_all s B p (peekS s p) rfl
  have h1a := take_adv (s := s) (p := p) 94 (by omega) h.le
  have hspan := fun q W hW l hl hb => span_any s B l q W hW hl hb
  have hadd := fun G l f rs v W hv hs hg => add_any G l f rs v W hv hs hg
  have hoth := fun f W => others_any f W
  have hrgs := fun f W => ranges_any f W
  unfold brSet
  obtain ⟨p1, hp1⟩ : ∃ p1, takeS s p 94 = p1 := ⟨_, rfl⟩
  have hp1' : p1 = p.next := by rw [← hp1, takeS, if_pos hc]
  rw [hp1] at h1a ⊢
  have htk : ∀ W, PAt s B p W → Calls Try.prog 28 #[pPtr B, .int .u8 ((94 : Nat) : Int)] W fun e w' => e = .returned (.bool true) ∧ PAt s B p1 w' ∧ Fr B W w' := fun W hW => by rw [hp1']; exact ht.2 94 W hW hc (by omega)
  have h2a := span_advS (s := s) h1a.le
  obtain ⟨⟨rs1, p2⟩, hr1⟩ : ∃ r, spanS s p1 = r := ⟨_, rfl⟩
  have hsp1 := fun W hW l hl hb => hspan p1 W hW l hl hb
  rw [hr1] at h2a hsp1 ⊢
  simp only at h2a ⊢
  obtain ⟨goal, hgoal⟩ : ∃ g, brLoop s (s.size + 2) p2 (addS (fun _ => false) rs1) = g := ⟨_, rfl⟩
  rw [hgoal]
  have hmp : mPS s p2 < s.size + 2 := by unfold mPS; split <;> omega
  have hf0 : Fr B w (w.alloc (.cells #[.int .i64 0, .slice none 0 0, .string ⟨#[]⟩, .slice none 0 0, .int .i64 0, .int .i64 0] 25)) := (Fr.refl B w).alloc _
  have hR0 := SixAt.new w (.int .i64 0) (.slice none 0 0) (.string ⟨#[]⟩) (.slice none 0 0) (.int .i64 0) (.int .i64 0) 25
  have H := Lib.hid (And.intro htk (And.intro hsp1 (And.intro hspan hadd)))
  have HO := Lib.hid hoth
  have HRG := Lib.hid hrgs
  have HG := Lib.hid hgoal
  have HP0 := Lib.hid (h.alloc (.cells #[.int .i64 0, .slice none 0 0, .string ⟨#[]⟩, .slice none 0 0, .int .i64 0, .int .i64 0] 25))
  obtain ⟨w0, hw0⟩ : ∃ w0, w.alloc (.cells #[.int .i64 0, .slice none 0 0, .string ⟨#[]⟩, .slice none 0 0, .int .i64 0, .int .i64 0] 25) = w0 := ⟨_, rfl⟩
  have hz0 : w0.heap.size = w.heap.size + 1 := by rw [← hw0, Go.Deep.nblk_alloc]
  rw [hw0] at hf0 hR0 HP0
  have HF0 := Lib.hid hf0
  have HR := Lib.hid hR0
  have HZ := Lib.hid hz0
  have HW0 := Lib.hid hw0
  have HT := Lib.hid (fun q => take_all s B q (peekS s q) rfl)
  clear ht hspan hadd hoth hrgs hp1 hp1' htk hsp1 hr1 hgoal hf0 hR0 hz0 hc h h1a h2a
  unfold pPtr at H HT ⊢
  go_enter Try.func48, Try.ntmps48
  go_wp2_with fail
  skip
  clear hw0 HW0
  refine (H.out.1 _ HP0.out).mono ?_
  rintro e w1 ⟨rfl, h1, hf1⟩
  have hz1 := hf1.size
  rw [HZ.out] at hz1
  have h1' := h1.alloc (.cells Try.zeroCells82 82)
  have hf1' := hf1.alloc (.cells Try.zeroCells82 82)
  have hset0 : SetAt w1.heap.size (fun _ => false) (w1.alloc (.cells Try.zeroCells82 82)) := by
    unfold SetAt; rw [heap_alloc_new, zeroRowB]
  obtain ⟨G, hG⟩ : ∃ G, w1.heap.size = G := ⟨_, rfl⟩
  have hGz : G < (w1.alloc (.cells Try.zeroCells82 82)).heap.size := by rw [Go.Deep.nblk_alloc, hG]; omega
  obtain ⟨w1', hw1'⟩ : ∃ w', w1.alloc (.cells Try.zeroCells82 82) = w' := ⟨_, rfl⟩
  have HK1 := Lib.hid (And.intro h1' (And.intro hf1' hset0))
  rw [hw1', hG] at HK1
  rw [hw1'] at hGz
  rw [hG] at hz1
  have HE := Lib.hid (And.intro hw1' hG)
  clear h1' hf1' hset0 hw1' hG h1 hf1
  go_wp2_with fail
  rw [HE.out.1, HE.out.2]
  clear HE
  refine (H.out.2.1 _ HK1.out.1 (G + 1) hGz (by omega)).mono ?_
  rintro e w2 ⟨v2, rfl, hv2, h2, hf2⟩
  have hs2 := HK1.out.2.2.keep hf2 (by omega)
  obtain ⟨a2, k2, rfl, -, -, -⟩ := id hv2
  go_wp2_with fail
  refine (H.out.2.2.2 G (G + 1) _ _ _ _ hv2 hs2 (Nat.lt_succ_self _)).mono ?_
  rintro e w3 ⟨rfl, hs3, hf3⟩
  have h3 := h2.own hf3 (fun b hb => by have := Option.some.inj hb; omega)
  have hfr3 := (HK1.out.2.1.trans hf2).own hf3 (fun b hb => by have := Option.some.inj hb; rw [HZ.out]; omega)
  have HL := Lib.hid (And.intro h3 (And.intro hs3 hfr3))
  clear h2 hf2 hs2 hs3 hf3 h3 hfr3 hv2
  skip
  go_wp2_with fail
  go_loopw [] (fun wr => ∃ k q f, BrAt s B G w0 goal wr k q f) (fun wr => mIn s B wr)
  case atStart => exact ⟨s.size + 2, p2, _, HG.out, hmp, HL.out.1, HL.out.2.1, HL.out.2.2⟩
  case round =>
    obtain ⟨k, q, f, hrun, hroom, hp, hset, hfr⟩ := hrel
    obtain ⟨k, rfl⟩ : ∃ k', k = k' + 1 := ⟨k - 1, by omega⟩
    obtain ⟨c0, c1, c2, f1, f2⟩ := hp.parts
    have hql := hp.le
    have hGr := hset.lt
    by_cases he : q.er = 0
    · by_cases hend : peekS s q = 93
      · have hgo : goal = (f, q.next) := by rw [← hrun, brLoop, if_neg (by simp [hend]), takeS, if_pos hend]
        subst hgo
        rw [he] at c2
        have HH := Lib.hid (And.intro hend (And.intro hset hfr))
        have HPP := Lib.hid hp
        clear hrun hend hset hfr hroom he hp
        go_wp2_with fail
        refine ((HT.out q).2 93 _ HPP.out HH.out.1 (by omega)).mono ?_
        rintro e w2 ⟨rfl, hp2, hg⟩
        have hs2 := HH.out.2.1.keep hg (by omega)
        have hf2 := HH.out.2.2.trans hg
        obtain ⟨fg, rfl⟩ : ∃ fg, fg = f := ⟨_, rfl⟩
        clear hg
        have HS : Hid (w2.heap[G]? = some (.cells (rowB fg) 82 (0, 0))) := hs2
        have KK := Lib.hid (And.intro hp2 (And.intro hs2 hf2))
        clear hp2 hs2 hf2
        go_wp2_with (with_reducible refine wpList_load_row rfl 82 (.tmp 4) rfl G rfl 82 (rowB fg) (0, 0) _ HS.out Try.underlying82 rfl (by rw [rowB_size]; exact sizeSet) ?_)
        refine (HO.out fg _).mono ?_
        rintro e w3 ⟨rfl, hb3⟩
        have hs3 := KK.out.2.1.below hb3
        have HS3 : Hid (w3.heap[G]? = some (.cells (rowB fg) 82 (0, 0))) := hs3
        have hp3 := KK.out.1.below hb3
        have hf3 := KK.out.2.2.below hb3
        have HS4 : Hid ((w3.setRow G (rowB fun c => !fg c)).heap[G]? = some (.cells (rowB fun c => !fg c) 82 (0, 0))) := setRow_heap _ _ _ _ _ _ HS3.out
        have hfr4 := fr_setRow G w3 (rowB fun c => !fg c)
        have hp4 := hp3.own hfr4 (fun b hb => by have := Option.some.inj hb; omega)
        have hf4 := hf3.own hfr4 (fun b hb => by have := Option.some.inj hb; have := HZ.out; omega)
        have hz4 : w3.heap.size ≤ (w3.setRow G (rowB fun c => !fg c)).heap.size := hfr4.size
        have hz3 := hf3.size
        have KK4 := Lib.hid (And.intro hp4 hf4)
        clear hs3 hp3 hf3 hfr4 hp4 hf4
        go_wp2_with (first
          | (with_reducible refine wpList_store_row rfl 82 (.tmp 4) (.tmp 25) rfl G (rowB fun c => !fg c) rfl rfl 82 (rowB fg) HS3.out (by rw [rowB_size]; exact sizeSet) (by rw [rowB_size, rowB_size]) (rowB_one _) ?_)
          | (with_reducible refine wpList_load_row rfl 82 (.tmp 4) rfl G rfl 82 (rowB fun c => !fg c) (0, 0) _ HS4.out Try.underlying82 rfl (by rw [rowB_size]; exact sizeSet) ?_))
        obtain ⟨w5, hw5⟩ : ∃ w5, w3.setRow G (rowB fun c => !fg c) = w5 := ⟨_, rfl⟩
        rw [hw5] at KK4 hz4 ⊢
        clear hw5 HS4
        refine (HRG.out (fun c => !fg c) _).mono ?_
        rintro e w6 ⟨v6, rfl, hv6, hb6⟩
        obtain ⟨a6, k6, rfl, -, -, -⟩ := id hv6
        have hp6 := KK4.out.1.below hb6
        have hf6 := KK4.out.2.below hb6
        have hz6 := hb6.size
        have hR6 := HR.out.fr hf6 (by have := HZ.out; omega)
        obtain ⟨r0, r1, r2, r3, r4, r5⟩ := hR6.cells
        obtain ⟨p0, p1, p2, p3, p4, p5⟩ := hR6.free
        clear hR6
        go_wp2
        refine bodyPost_ret (v := .agg #[.int .i64 1, .slice a6 (rangesS (fun c => !fg c)).length k6, .string ⟨#[]⟩, .slice none 0 0, .int .i64 0, .int .i64 0]) (by simp [results, Try.results48, go_sem, r0, r1, r2, r3, r4, r5]) rfl ?_
        exact ⟨_, rfl, class_node _ _ _ _ (RangesIn.lower (hv6.keeps (put6_keeps (keeps_refl _ _) (by have := HZ.out; omega) _ _ _ _ _ _)) (by have := HZ.out; omega)), put6_pat hp6 (by have := HZ.out; omega) _ _ _ _ _ _, put6_fr ((HF0.out.trans hf6)) (Nat.le_refl _) _ _ _ _ _ _⟩
      · have hrun2 : brLoop s k (spanS s q).2 (addS f (spanS s q).1) = goal := by rw [← hrun, brLoop, if_pos ⟨he, hend⟩]
        have hadv := span_advS (s := s) hql
        have hcall := fun W hW l hl hb => H.out.2.2.1 q W hW l hl hb
        obtain ⟨⟨rs2, q2⟩, hr2⟩ : ∃ r, spanS s q = r := ⟨_, rfl⟩
        rw [hr2] at hrun2 hadv hcall
        simp only at hrun2 hadv
        have hm := mPS_lt hadv he
        rw [he] at c2
        have HH := Lib.hid (And.intro hend (And.intro hset (And.intro hfr (And.intro hrun2 (And.intro hm hroom)))))
        have HPP := Lib.hid hp
        have HC := Lib.hid hcall
        clear hrun hrun2 hend hset hfr hroom he hp hadv hcall hr2 hm
        go_wp2_with fail
        refine ((HT.out q).1 93 _ HPP.out HH.out.1).mono ?_
        rintro e w2 ⟨rfl, hp2, hg⟩
        have hs2 := HH.out.2.1.keep hg (by omega)
        have hf2 := HH.out.2.2.1.trans hg
        have hz2 := hs2.lt
        go_wp2_with fail
        refine (HC.out _ hp2 (G + 1) (by omega) (by omega)).mono ?_
        rintro e w3 ⟨v3, rfl, hv3, hp3, hg3⟩
        have hs3 := hs2.keep hg3 (by omega)
        obtain ⟨a3, k3, rfl, -, -, -⟩ := id hv3
        go_wp2_with fail
        refine (H.out.2.2.2 G (G + 1) _ _ _ _ hv3 hs3 (Nat.lt_succ_self _)).mono ?_
        rintro e w4 ⟨rfl, hs4, hg4⟩
        have hp4 := hp3.own hg4 (fun b hb => by have := Option.some.inj hb; omega)
        have hf4 := (hf2.trans hg3).own hg4 (fun b hb => by have := Option.some.inj hb; rw [HZ.out]; omega)
        have HQ := Lib.hid (And.intro hp4 (And.intro hs4 hf4))
        clear hs2 hf2 hp2 hg hs3 hp3 hg3 hs4 hg4 hp4 hf4 hv3
        go_wp2
        go_roundw
        case rel => exact ⟨k, q2, _, HH.out.2.2.2.1, by have := HH.out.2.2.2.2; omega, HQ.out.1, HQ.out.2.1, HQ.out.2.2⟩
        case measure => rw [mIn_eq HPP.out, mIn_eq HQ.out.1]; exact HH.out.2.2.2.2.1
    · have hpz : peekS s q = 0 := by simp [peekS, he]
      have hgo : goal = (f, q) := by rw [← hrun, brLoop, if_neg (fun e => he e.1), takeS, if_neg (by rw [hpz]; omega)]
      subst hgo
      have e1 : (q.er == 0) = false := by rw [beq_eq_false_iff_ne]; exact he
      obtain ⟨w2, rfl⟩ : ∃ w2, w2 = wr := ⟨_, rfl⟩
      have hp2 := hp
      have hs2 := hset
      have hf2 := hfr
      obtain ⟨fg, rfl⟩ : ∃ fg, fg = f := ⟨_, rfl⟩
      clear hrun hset hfr hroom he hp hpz
      have HS : Hid (w2.heap[G]? = some (.cells (rowB fg) 82 (0, 0))) := hs2
      have KK := Lib.hid (And.intro hp2 (And.intro hs2 hf2))
      clear hp2 hs2 hf2
      go_wp2_with (with_reducible refine wpList_load_row rfl 82 (.tmp 4) rfl G rfl 82 (rowB fg) (0, 0) _ HS.out Try.underlying82 rfl (by rw [rowB_size]; exact sizeSet) ?_)
      refine (HO.out fg _).mono ?_
      rintro e w3 ⟨rfl, hb3⟩
      have hs3 := KK.out.2.1.below hb3
      have HS3 : Hid (w3.heap[G]? = some (.cells (rowB fg) 82 (0, 0))) := hs3
      have hp3 := KK.out.1.below hb3
      have hf3 := KK.out.2.2.below hb3
      have HS4 : Hid ((w3.setRow G (rowB fun c => !fg c)).heap[G]? = some (.cells (rowB fun c => !fg c) 82 (0, 0))) := setRow_heap _ _ _ _ _ _ HS3.out
      have hfr4 := fr_setRow G w3 (rowB fun c => !fg c)
      have hp4 := hp3.own hfr4 (fun b hb => by have := Option.some.inj hb; omega)
      have hf4 := hf3.own hfr4 (fun b hb => by have := Option.some.inj hb; have := HZ.out; omega)
      have hz4 : w3.heap.size ≤ (w3.setRow G (rowB fun c => !fg c)).heap.size := hfr4.size
      have hz3 := hf3.size
      have KK4 := Lib.hid (And.intro hp4 hf4)
      clear hs3 hp3 hf3 hfr4 hp4 hf4
      go_wp2_with (first
        | (with_reducible refine wpList_store_row rfl 82 (.tmp 4) (.tmp 25) rfl G (rowB fun c => !fg c) rfl rfl 82 (rowB fg) HS3.out (by rw [rowB_size]; exact sizeSet) (by rw [rowB_size, rowB_size]) (rowB_one _) ?_)
        | (with_reducible refine wpList_load_row rfl 82 (.tmp 4) rfl G rfl 82 (rowB fun c => !fg c) (0, 0) _ HS4.out Try.underlying82 rfl (by rw [rowB_size]; exact sizeSet) ?_))
      obtain ⟨w5, hw5⟩ : ∃ w5, w3.setRow G (rowB fun c => !fg c) = w5 := ⟨_, rfl⟩
      rw [hw5] at KK4 hz4 ⊢
      clear hw5 HS4
      refine (HRG.out (fun c => !fg c) _).mono ?_
      rintro e w6 ⟨v6, rfl, hv6, hb6⟩
      obtain ⟨a6, k6, rfl, -, -, -⟩ := id hv6
      have hp6 := KK4.out.1.below hb6
      have hf6 := KK4.out.2.below hb6
      have hz6 := hb6.size
      have hR6 := HR.out.fr hf6 (by have := HZ.out; omega)
      obtain ⟨r0, r1, r2, r3, r4, r5⟩ := hR6.cells
      obtain ⟨p0, p1, p2, p3, p4, p5⟩ := hR6.free
      clear hR6
      go_wp2
      refine bodyPost_ret (v := .agg #[.int .i64 1, .slice a6 (rangesS (fun c => !fg c)).length k6, .string ⟨#[]⟩, .slice none 0 0, .int .i64 0, .int .i64 0]) (by simp [results, Try.results48, go_sem, r0, r1, r2, r3, r4, r5]) rfl ?_
      exact ⟨_, rfl, class_node _ _ _ _ (RangesIn.lower (hv6.keeps (put6_keeps (keeps_refl _ _) (by have := HZ.out; omega) _ _ _ _ _ _)) (by have := HZ.out; omega)), put6_pat hp6 (by have := HZ.out; omega) _ _ _ _ _ _, put6_fr ((HF0.out.trans hf6)) (Nat.le_refl _) _ _ _ _ _ _⟩

/-- brackets keeps what choice asks of it. -/
theorem brackets_ok (s : ByteArray) : BrOk s (bracketS s) := by
  intro p0 B lo w he0 hc0 h hB hlo
  refine ⟨bracket_adv s _ h.le, ?_⟩
  unfold bracketS
  by_cases hc : peekS s p0.next = 94
  · simp only [if_pos hc]; exact br_neg s B lo _ w h hc hB hlo
  · simp only [if_neg hc]; exact br_pos s B lo _ w h hc hB hlo
/-- Parse at every source. -/
theorem parse_all (s : ByteArray) (w : World) : Calls Try.prog 12 #[.string s] w (ParseOut w.heap.size w (parseN s (bracketS s))) :=
  parse_any s (bracketS s) (brackets_ok s) (bounds_ok s) w
end Go.Proofs.Ytfmoidhpafpgnaa
