/- The contracts of item, isSingle and span. -/
import Derived.Test.YtfmoidhpafpgnaaPatRgs
import Derived.Test.YtfmoidhpafpgnaaPatBound
namespace Go.Proofs.Ytfmoidhpafpgnaa
open Go.RowKit

def insides : List UInt8 := [93, 45, 94]
def itemS (s : ByteArray) (p : PS) : List (Nat × Nat) × PS := if peekS s p = 92 then escapeS s p else literalS s insides p
def singleR : List (Nat × Nat) → Bool
  | [x] => decide (x.1 = x.2)
  | _ => false
def loR : List (Nat × Nat) → Nat
  | x :: _ => x.1
  | [] => 0
def spanS (s : ByteArray) (p : PS) : List (Nat × Nat) × PS :=
  let f := itemS s p
  if singleR f.1 = true ∧ peekS s f.2 = 45 then
    let l := itemS s f.2.next
    if singleR l.1 = true then
      if loR l.1 < loR f.1 then ([], failS l.2 l.2.pos 2) else ([(loR f.1, loR l.1)], l.2)
    else ([], failS l.2 f.2.next.pos 1)
  else f
theorem item_advS {s : ByteArray} {p : PS} (h : p.pos ≤ s.size) : AdvS s p (itemS s p).2 := by
  unfold itemS; split
  · exact escape_advS h
  · exact literal_advS _ h
theorem span_advS {s : ByteArray} {p : PS} (h : p.pos ≤ s.size) : AdvS s p (spanS s p).2 := by
  have h1 := item_advS (s := s) (p := p) h
  unfold spanS
  simp only
  split
  · rename_i hc
    have h2 : AdvS s (itemS s p).2 (itemS s p).2.next := next_adv (by rw [hc.2]; omega)
    have h3 := item_advS (s := s) (p := (itemS s p).2.next) h2.le
    split
    · split
      · exact ((h1.trans h2.adv).trans h3.adv).trans (fail_advS _ _ (by omega) h3.le h3.le).adv
      · exact (h1.trans h2.adv).trans h3.adv
    · exact ((h1.trans h2.adv).trans h3.adv).trans (fail_advS _ _ (by omega) h3.le h2.le).adv
  · exact h1

set_option maxRecDepth 100000 in
set_option maxHeartbeats 2000000 in
theorem item_any (s : ByteArray) (B lo : Nat) (p : PS) (w : World) (h : PAt s B p w) (hlo : lo ≤ w.heap.size) (hB : B < lo) :
    Calls Try.prog 64 #[pPtr B] w fun e w' => ∃ v, e = .returned v ∧ RangesIn lo w' v (itemS s p).1 ∧ PAt s B (itemS s p).2 w' ∧ Fr B w w' := by
  have hpk := peek_to s B p w h
  unfold itemS
  by_cases hc : peekS s p = 92
  · rw [if_pos hc]
    rw [hc] at hpk
    have hes := fun W hW hl => escape_any s B lo p W hW hl hB
    have H := Lib.hid (And.intro hpk hes)
    clear hpk hes hc h
    unfold pPtr at H ⊢
    go_enter Try.func64, Try.ntmps64
    go_wp2_with fail
    refine (H.out.1).mono ?_
    rintro e w1 ⟨rfl, h1, hf1⟩
    have hz := hf1.size
    go_wp2_with fail
    refine (H.out.2 _ h1 (by omega)).mono ?_
    rintro e w2 ⟨v, rfl, hv, h2, hf2⟩
    go_wp2
    go_ret
    exact ⟨v, rfl, hv, h2, hf1.trans hf2⟩
  · rw [if_neg hc]
    obtain ⟨c, hcq⟩ : ∃ c, peekS s p = c := ⟨_, rfl⟩
    rw [hcq] at hpk hc
    have e1 : ((c : Int) == 92) = false := by rw [beq_eq_false_iff_ne]; omega
    have hes := fun W hW hl => literal_any s B lo p insides W hW hl
    unfold specials insides at hes
    have H := Lib.hid (And.intro hpk hes)
    clear hpk hes hc hcq h
    unfold pPtr at H ⊢
    unfold insides
    go_enter Try.func64, Try.ntmps64
    go_wp2_with fail
    refine (H.out.1).mono ?_
    rintro e w1 ⟨rfl, h1, hf1⟩
    have hz := hf1.size
    go_wp2_with fail
    refine (H.out.2 _ h1 (by omega)).mono ?_
    rintro e w2 ⟨v, rfl, hv, h2, hf2⟩
    go_wp2
    go_ret
    exact ⟨v, rfl, hv, h2, hf1.trans hf2⟩

set_option maxRecDepth 100000 in
set_option maxHeartbeats 2000000 in
theorem isSingle_any (lo : Nat) (rs : List (Nat × Nat)) (v : Value) (w : World) (h : RangesIn lo w v rs) :
    Calls Try.prog 65 #[v] w fun e w' => e = .returned (.bool (singleR rs)) ∧ ∃ n, w' = w.drewN n := by
  obtain ⟨a, c, rfl, hl, hb, hc⟩ := h
  by_cases h1 : rs.length = 1
  · obtain ⟨x, rfl⟩ := List.length_eq_one_iff.1 h1
    obtain ⟨b, o, rfl, -, g1, g2⟩ := hc 0 (by simp)
    simp only [List.getElem_cons_zero, Nat.zero_mul, Nat.add_zero] at g1 g2
    simp only [List.length_singleton]
    clear hc hb hl h1
    have e1 : (((x.1 : Nat) : Int) == ((x.2 : Nat) : Int)) = singleR [x] := by
      unfold singleR; rw [Bool.eq_iff_iff]; simp; omega
    go_enter Try.func65, Try.ntmps65
    go_wp2
    go_quiet (fail)
    go_wp2
    go_ret
    exact ⟨rfl, _, rfl⟩
  · have hv : singleR rs = false := by
      match rs, h1 with
      | [], _ => rfl
      | [x], h1 => simp at h1
      | x :: y :: r, _ => rfl
    rw [hv]
    have e1 : ((rs.length : Int) == 1) = false := by rw [beq_eq_false_iff_ne]; omega
    obtain ⟨n, hn⟩ : ∃ n, rs.length = n := ⟨_, rfl⟩
    rw [hn] at e1 ⊢
    clear hv h1 hc hb hl hn
    go_enter Try.func65, Try.ntmps65
    go_wp2
    go_quiet (fail)
    go_wp2
    go_ret
    exact ⟨rfl, _, rfl⟩
theorem single_iff (r : List (Nat × Nat)) (h : singleR r = true) : ∃ x, r = [(x, x)] := by
  match r, h with
  | [(a, b)], h =>
    have : a = b := by simpa [singleR] using h
    exact ⟨a, by rw [this]⟩
/-- isSingle, as span's walk takes it. -/
theorem isSingle_to (lo B : Nat) (s : ByteArray) (p : PS) (rs : List (Nat × Nat)) (v : Value) (w : World) (h : RangesIn lo w v rs) (hp : PAt s B p w) :
    Calls Try.prog 65 #[v] w fun e w' => e = .returned (.bool (singleR rs)) ∧ RangesIn lo w' v rs ∧ PAt s B p w' ∧ Fr B w w' :=
  (isSingle_any lo rs v w h).mono fun _ _ ⟨he, n, hn⟩ => by subst hn; exact ⟨he, h.keeps (keeps_drewN n (keeps_refl _ _)), hp.drewN n, (Fr.refl B w).drewN n⟩

def SpanOut (s : ByteArray) (B lo : Nat) (w : World) (r : List (Nat × Nat) × PS) (e : Ending) (w' : World) : Prop :=
  ∃ v, e = .returned v ∧ RangesIn lo w' v r.1 ∧ PAt s B r.2 w' ∧ Fr B w w'

set_option maxRecDepth 100000 in
set_option maxHeartbeats 4000000 in
theorem span_any (s : ByteArray) (B lo : Nat) (p : PS) (w : World) (h : PAt s B p w) (hlo : lo ≤ w.heap.size) (hB : B < lo) :
    Calls Try.prog 57 #[pPtr B] w (SpanOut s B lo w (spanS s p)) := by
  have hit := fun q W hW hl => item_any s B lo q W hW hl hB
  have hit0 := hit p w h hlo
  have hsg := fun q rs v W hv hW => isSingle_to lo B s q rs v W hv hW
  have hsz := h.sz
  unfold spanS
  obtain ⟨⟨r1, p1⟩, hr1⟩ : ∃ r, itemS s p = r := ⟨_, rfl⟩
  rw [hr1] at hit0 ⊢
  simp only at hit0 ⊢
  have ht1 := take_all s B p1 (peekS s p1) rfl
  by_cases hs1 : singleR r1 = true
  · have hsg1 := fun v W hv hW => hsg p1 r1 v W hv hW
    rw [hs1] at hsg1
    by_cases h45 : peekS s p1 = 45
    · rw [if_pos ⟨hs1, h45⟩]
      have hit1 := fun W hW hl => hit p1.next W hW hl
      obtain ⟨⟨r2, p2⟩, hr2⟩ : ∃ r, itemS s p1.next = r := ⟨_, rfl⟩
      rw [hr2] at hit1 ⊢
      simp only at hit1 ⊢
      have hsg2 := fun v W hv hW => hsg p2 r2 v W hv hW
      obtain ⟨x, rfl⟩ := single_iff r1 hs1
      by_cases hs2 : singleR r2 = true
      · obtain ⟨y, rfl⟩ := single_iff r2 hs2
        rw [hs2] at hsg2
        rw [if_pos hs2]
        have hfl := fun W (hW : PAt s B p2 W) => fail_any s B p2 p2.pos 2 W hW hW.le
        by_cases hlt : y < x
        · rw [if_pos (show loR [(y, y)] < loR [(x, x)] from hlt)]
          have H := Lib.hid (And.intro hit0 (And.intro hsg1 (And.intro ht1 (And.intro hit1 (And.intro hsg2 hfl)))))
          have d1 : decide (y < x) = true := by simp; omega
          have HC := Lib.hid h45
          clear hit hit0 hsg hsg1 ht1 hit1 hsg2 hfl hr1 hr2 hs1 hs2 h45 h hlt
          unfold pPtr at H ⊢
          go_enter Try.func57, Try.ntmps57
          go_wp2_with fail
          refine (H.out.1).mono ?_
          rintro e w1 ⟨v1, rfl, hv1, h1, hf1⟩
          obtain ⟨a1, k1, rfl, -, -, -⟩ := id hv1
          simp only [List.length_singleton] at hv1 ⊢
          have hz1 := hf1.size
          go_wp2_with fail
          refine (H.out.2.1 _ _ hv1 h1).mono ?_
          rintro e w2 ⟨rfl, hv2, h2, hf2⟩
          go_wp2_with fail
          refine (H.out.2.2.1.2 45 _ h2 HC.out (by omega)).mono ?_
          rintro e w3 ⟨rfl, h3, hf3⟩
          have hf13 := (hf1.trans hf2).trans hf3
          have hz3 := hf13.size
          have hv3 := hv2.keeps (hf3.keeps hB)
          obtain ⟨q0, q1, q2, q3, q4⟩ := h3.parts
          go_wp2_with fail
          refine (H.out.2.2.2.1 _ h3 (by omega)).mono ?_
          rintro e w4 ⟨v4, rfl, hw4, h4, hf4⟩
          obtain ⟨a4, k4, rfl, -, -, -⟩ := id hw4
          simp only [List.length_singleton] at hw4 ⊢
          have hv4 := hv3.keeps (hf4.keeps hB)
          go_wp2_with fail
          refine (H.out.2.2.2.2.1 _ _ hw4 h4).mono ?_
          rintro e w5 ⟨rfl, hw5, h5, hf5⟩
          have hv5 := hv4.keeps (hf5.keeps hB)
          obtain ⟨_, _, hA, -, hbv, hcv⟩ := hv5
          obtain ⟨_, _, hA2, -, hbw, hcw⟩ := hw5
          obtain ⟨b1, o1, rfl, -, g1, -⟩ := hcv 0 (by simp)
          obtain ⟨b2, o2, rfl, -, g2, -⟩ := hcw 0 (by simp)
          simp only [List.getElem_cons_zero, Nat.zero_mul, Nat.add_zero] at g1 g2
          have x1 := (hbv (x, x) (by simp)).1
          have y1 := (hbw (y, y) (by simp)).1
          simp only at x1 y1
          clear hcv hcw hbv hbw
          go_wp2
          go_quiet (fail)
          have h6 := h5.drewN nq
          obtain ⟨q0, q1, q2, q3, q4⟩ := h6.parts
          go_wp2_with fail
          refine (H.out.2.2.2.2.2 _ h6).mono ?_
          rintro e w6 ⟨rfl, h7, hf6⟩
          go_wp2
          go_ret
          exact ⟨_, rfl, no_ranges _ _, h7, (((hf13.trans hf4).trans hf5).drewN nq).trans hf6⟩
        · rw [if_neg (show ¬ loR [(y, y)] < loR [(x, x)] from hlt)]
          have H := Lib.hid (And.intro hit0 (And.intro hsg1 (And.intro ht1 (And.intro hit1 (And.intro hsg2 hfl)))))
          have d1 : decide (y < x) = false := by simp; omega
          have HC := Lib.hid h45
          clear hit hit0 hsg hsg1 ht1 hit1 hsg2 hfl hr1 hr2 hs1 hs2 h45 h hlt
          unfold pPtr at H ⊢
          go_enter Try.func57, Try.ntmps57
          go_wp2_with fail
          refine (H.out.1).mono ?_
          rintro e w1 ⟨v1, rfl, hv1, h1, hf1⟩
          obtain ⟨a1, k1, rfl, -, -, -⟩ := id hv1
          simp only [List.length_singleton] at hv1 ⊢
          have hz1 := hf1.size
          go_wp2_with fail
          refine (H.out.2.1 _ _ hv1 h1).mono ?_
          rintro e w2 ⟨rfl, hv2, h2, hf2⟩
          go_wp2_with fail
          refine (H.out.2.2.1.2 45 _ h2 HC.out (by omega)).mono ?_
          rintro e w3 ⟨rfl, h3, hf3⟩
          have hf13 := (hf1.trans hf2).trans hf3
          have hz3 := hf13.size
          have hv3 := hv2.keeps (hf3.keeps hB)
          obtain ⟨q0, q1, q2, q3, q4⟩ := h3.parts
          go_wp2_with fail
          refine (H.out.2.2.2.1 _ h3 (by omega)).mono ?_
          rintro e w4 ⟨v4, rfl, hw4, h4, hf4⟩
          obtain ⟨a4, k4, rfl, -, -, -⟩ := id hw4
          simp only [List.length_singleton] at hw4 ⊢
          have hv4 := hv3.keeps (hf4.keeps hB)
          go_wp2_with fail
          refine (H.out.2.2.2.2.1 _ _ hw4 h4).mono ?_
          rintro e w5 ⟨rfl, hw5, h5, hf5⟩
          have hv5 := hv4.keeps (hf5.keeps hB)
          obtain ⟨_, _, hA, -, hbv, hcv⟩ := hv5
          obtain ⟨_, _, hA2, -, hbw, hcw⟩ := hw5
          obtain ⟨b1, o1, rfl, -, g1, -⟩ := hcv 0 (by simp)
          obtain ⟨b2, o2, rfl, -, g2, -⟩ := hcw 0 (by simp)
          simp only [List.getElem_cons_zero, Nat.zero_mul, Nat.add_zero] at g1 g2
          have x1 := (hbv (x, x) (by simp)).1
          have y1 := (hbw (y, y) (by simp)).1
          simp only at x1 y1
          clear hcv hcw hbv hbw
          go_wp2
          go_quiet (fail)
          have hz5 := (hf13.trans hf4).trans hf5
          have hs5 := hz5.size
          have HBR := Lib.hid (fun a b W => byteRange_any a b W)
          go_wp2
          go_region_with (go_at_call 49; refine (HBR.out _ _ _).mono ?_; rintro e w7 ⟨rfl, hb7⟩)
          all_goals
            have hb8 : w5.heap.size ≤ w7.heap.size := hb7.size
            go_wp2
            go_ret
            exact ⟨_, rfl, one_range lo w7 x y x1 y1 (by omega), ((h5.drewN (nq + 1)).below hb7).alloc _, ((hz5.drewN (nq + 1)).below hb7).alloc _⟩
      · have hs2 : singleR r2 = false := by simpa using hs2
        rw [hs2] at hsg2
        rw [if_neg (by rw [hs2]; simp)]
        have hfl := fun W (hW : PAt s B p2 W) hl => fail_any s B p2 p1.next.pos 1 W hW hl
        have hnx := (next_adv (s := s) (p := p1) (by omega)).le
        have H := Lib.hid (And.intro hit0 (And.intro hsg1 (And.intro ht1 (And.intro hit1 (And.intro hsg2 hfl)))))
        have HC := Lib.hid h45
        clear hs2 hit hit0 hsg hsg1 ht1 hit1 hsg2 hfl hr1 hr2 hs1 h45 h
        unfold pPtr at H ⊢
        go_enter Try.func57, Try.ntmps57
        go_wp2_with fail
        refine (H.out.1).mono ?_
        rintro e w1 ⟨v1, rfl, hv1, h1, hf1⟩
        obtain ⟨a1, k1, rfl, -, -, -⟩ := id hv1
        simp only [List.length_singleton] at hv1 ⊢
        have hz1 := hf1.size
        go_wp2_with fail
        refine (H.out.2.1 _ _ hv1 h1).mono ?_
        rintro e w2 ⟨rfl, hv2, h2, hf2⟩
        go_wp2_with fail
        refine (H.out.2.2.1.2 45 _ h2 HC.out (by omega)).mono ?_
        rintro e w3 ⟨rfl, h3, hf3⟩
        have hf13 := (hf1.trans hf2).trans hf3
        have hz3 := hf13.size
        have hv3 := hv2.keeps (hf3.keeps hB)
        obtain ⟨q0, q1, q2, q3, q4⟩ := h3.parts
        go_wp2_with fail
        refine (H.out.2.2.2.1 _ h3 (by omega)).mono ?_
        rintro e w4 ⟨v4, rfl, hw4, h4, hf4⟩
        obtain ⟨a4, k4, rfl, -, -, -⟩ := id hw4
        skip
        have hv4 := hv3.keeps (hf4.keeps hB)
        go_wp2_with fail
        refine (H.out.2.2.2.2.1 _ _ hw4 h4).mono ?_
        rintro e w5 ⟨rfl, hw5, h5, hf5⟩
        go_wp2_with fail
        refine (H.out.2.2.2.2.2 _ h5 hnx).mono ?_
        rintro e w6 ⟨rfl, h6, hf6⟩
        go_wp2
        go_ret
        exact ⟨_, rfl, no_ranges _ _, h6, ((hf13.trans hf4).trans hf5).trans hf6⟩
    · rw [if_neg (fun e => h45 e.2)]
      have H := Lib.hid (And.intro hit0 (And.intro hsg1 ht1))
      have HC := Lib.hid h45
      clear hit hit0 hsg hsg1 ht1 hr1 hs1 h45 h
      unfold pPtr at H ⊢
      go_enter Try.func57, Try.ntmps57
      go_wp2_with fail
      refine (H.out.1).mono ?_
      rintro e w1 ⟨v1, rfl, hv1, h1, hf1⟩
      obtain ⟨a1, k1, rfl, -, -, -⟩ := id hv1
      go_wp2_with fail
      refine (H.out.2.1 _ _ hv1 h1).mono ?_
      rintro e w2 ⟨rfl, hv2, h2, hf2⟩
      go_wp2_with fail
      refine (H.out.2.2.1 45 _ h2 HC.out).mono ?_
      rintro e w3 ⟨rfl, h3, hf3⟩
      have hv3 := hv2.keeps (hf3.keeps hB)
      go_wp2
      go_ret
      exact ⟨_, rfl, hv3, h3, (hf1.trans hf2).trans hf3⟩
  · have hs1 : singleR r1 = false := by simpa using hs1
    have hsg1 := fun v W hv hW => hsg p1 r1 v W hv hW
    rw [hs1] at hsg1
    rw [if_neg (fun e => by rw [hs1] at e; exact absurd e.1 (by simp))]
    have H := Lib.hid (And.intro hit0 hsg1)
    clear hit hit0 hsg hsg1 ht1 hr1 hs1 h
    unfold pPtr at H ⊢
    go_enter Try.func57, Try.ntmps57
    go_wp2_with fail
    refine (H.out.1).mono ?_
    rintro e w1 ⟨v1, rfl, hv1, h1, hf1⟩
    obtain ⟨a1, k1, rfl, -, -, -⟩ := id hv1
    go_wp2_with fail
    refine (H.out.2 _ _ hv1 h1).mono ?_
    rintro e w2 ⟨rfl, hv2, h2, hf2⟩
    go_wp2
    go_ret
    exact ⟨_, rfl, hv2, h2, hf1.trans hf2⟩
end Go.Proofs.Ytfmoidhpafpgnaa
