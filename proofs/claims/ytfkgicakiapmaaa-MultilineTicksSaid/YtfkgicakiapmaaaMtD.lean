/- Package matcher: isNew. -/
import Derived.Test.YtfkgicakiapmaaaMtC
namespace Go.Proofs.Ytfkgicakiapmaaa
open Go.RowKit

theorem and_bit (a r : Nat) : (a &&& 2 ^ r = 0) ↔ a.testBit r = false := by
  constructor
  · intro h
    have h2 : (a &&& 2 ^ r).testBit r = false := by rw [h, Nat.zero_testBit]
    rw [Nat.testBit_and, Nat.testBit_two_pow_self, Bool.and_true] at h2
    exact h2
  · intro h
    apply Nat.eq_of_testBit_eq
    intro i
    rw [Nat.testBit_and, Nat.testBit_two_pow, Nat.zero_testBit]
    by_cases e : r = i
    · rw [← e, h]; rfl
    · simp [e]
theorem put_same {f : Nat → Nat} {num : Nat} (h : hasT f num = true) : putT f num = f := by
  funext j
  unfold putT
  by_cases e : j = num / 64
  · rw [if_pos e, e]
    apply Nat.eq_of_testBit_eq
    intro i
    rw [Nat.testBit_or, Nat.testBit_two_pow]
    by_cases e2 : num % 64 = i
    · have h2 : (f (num / 64)).testBit i = true := by rw [← e2]; exact h
      rw [h2]; rfl
    · simp [e2]
  · rw [if_neg e]
theorem isNew_end {base sb g m cap num start fr : Nat} {cv nv pv : Value} {text : ByteArray} {f : Nat → Nat} {W : World} (hs : BkAt sb 121 (srA cv nv (.slice (some ⟨g, 0, none⟩) m cap) pv text start fr) W) (hrow : W.ownsRow base 90 1 (.slice (some ⟨g, 0, none⟩) m cap) m (trW m f)) (hz : ∀ j, m ≤ j → f j = 0) (h64 : ∀ j, f j < 18446744073709551616) (hm : m ≤ 1000000) (hlt : num / 64 < m) :
    BkAt sb 121 (srA cv nv (.slice (some ⟨g, 0, none⟩) m cap) pv text start fr) (W.setCell ⟨g, num / 64, none⟩ (.int .u64 ((f (num / 64) ||| 2 ^ (num % 64) : Nat) : Int))) ∧ TrAt base (.slice (some ⟨g, 0, none⟩) m cap) (putT f num) (W.setCell ⟨g, num / 64, none⟩ (.int .u64 ((f (num / 64) ||| 2 ^ (num % 64) : Nat) : Int))) := by
  have hne : g ≠ sb := row_ne hrow hs (by decide) rfl
  refine ⟨hs.other _ _ hne.symm, m, ?_, fun j hj => ?_, fun j => ?_, hm⟩
  · have h1 := row_setc hrow (num / 64) (.int .u64 ((f (num / 64) ||| 2 ^ (num % 64) : Nat) : Int))
    rw [trW_set] at h1
    have e : (fun j => if j = num / 64 then f (num / 64) ||| 2 ^ (num % 64) else f j) = putT f num := by
      funext j
      unfold putT
      by_cases e : j = num / 64
      · rw [if_pos e, if_pos e, e]
      · rw [if_neg e, if_neg e]
    rw [e] at h1
    exact h1
  · unfold putT
    rw [if_neg (by omega)]
    exact hz j hj
  · unfold putT
    by_cases e : j = num / 64
    · rw [if_pos e]
      have := Nat.or_lt_two_pow (x := f j) (y := 2 ^ (num % 64)) (n := 64) (h64 j) (Nat.pow_lt_pow_right (by decide) (by omega))
      omega
    · rw [if_neg e]; exact h64 j
theorem has_zero {f : Nat → Nat} {num : Nat} (h : f (num / 64) &&& 2 ^ (num % 64) = 0) : hasT f num = false := (and_bit _ _).1 h
theorem has_one {f : Nat → Nat} {num : Nat} (h : f (num / 64) &&& 2 ^ (num % 64) ≠ 0) : hasT f num = true := by
  cases e : hasT f num
  · exact absurd ((and_bit _ _).2 e) h
  · rfl
def NewOut (base sb : Nat) (cv nv tv pv : Value) (text : ByteArray) (start fr num : Nat) (f : Nat → Nat) (w : World) (e : Ending) (w' : World) : Prop :=
  ∃ tv', e = .returned (.bool (!hasT f num)) ∧ BkAt sb 121 (srA cv nv tv' pv text start fr) w' ∧ TrAt base tv' (putT f num) w' ∧ ChP (fun i => i = sb ∨ tv.ownBlock = some i) w w'
set_option maxRecDepth 100000 in
theorem isNew_any (base sb : Nat) (cv nv tv pv : Value) (text : ByteArray) (start fr num : Nat) (f : Nat → Nat) (w : World) (hs : BkAt sb 121 (srA cv nv tv pv text start fr) w) (ht : TrAt base tv f w) (hb : base ≤ w.heap.size) (hn : num < 60000000) :
    Calls Try.prog 79 #[.pointer (some ⟨sb, 0, none⟩), .int .i64 (num : Int)] w (NewOut base sb cv nv tv pv text start fr num f w) := by
  obtain ⟨m, hrow, hz, h64, hm⟩ := ht
  obtain ⟨q, hq⟩ : ∃ q, num / 64 = q := ⟨_, rfl⟩
  obtain ⟨r, hr⟩ : ∃ r, num % 64 = r := ⟨_, rfl⟩
  have q1 : (num : Int) / 64 = (q : Int) := by omega
  have r1 : (num : Int) % 64 = (r : Int) := by omega
  have q2 : (q : Int) < 1000000 := by omega
  have r2 : (r : Int) < 64 := by omega
  obtain ⟨ta, tc, rfl⟩ : ∃ a c, tv = .slice a m c := by
    rcases row_form hrow with ⟨rfl, h0⟩ | ⟨g, c, rfl, -⟩
    · exact ⟨_, _, by rw [h0]⟩
    · exact ⟨_, _, rfl⟩
  obtain ⟨b, hb2⟩ : ∃ b : Nat, 2 ^ r = b := ⟨_, rfl⟩
  have hb64 : b < 18446744073709551616 := by rw [← hb2]; exact Nat.pow_lt_pow_right (by decide) (by omega : r < 64)
  have hwb : IntKind.u64.wrap ((2 : Int) ^ r) = (b : Int) := by
    have e1 : (2 : Int) ^ r = (b : Int) := by rw [← hb2]; push_cast; rfl
    rw [e1, IntKind.wrap_u64]; omega
  have c5 : w.cell? ⟨sb, 5, none⟩ = some (.slice ta m tc) := hs.cell 5
  have f5 : w.frozen? ⟨sb, 5, none⟩ = false := hs.free 5
  have H := Lib.hid (And.intro hs (And.intro hrow (And.intro hz (And.intro h64 (And.intro hq (And.intro hr (And.intro hm (And.intro hb2 hb64))))))))
  have hm2 : (m : Int) ≤ 1000000 := by omega
  clear hs hrow hz h64 hq hr hb2 hb64
  go_enter Try.func79, Try.ntmps79
  go_wp2_with fail
  go_quiet (fail)
  clear hwb
  by_cases hlt : q < m
  · obtain ⟨ms, hms⟩ : ∃ ms : Int, (q : Int) + 1 - (m : Int) = ms := ⟨_, rfl⟩
    have d1 : decide ((0 : Int) < ms) = false := decide_eq_false (by omega)
    have hqm : (q : Int) < (m : Int) := by omega
    obtain ⟨g, cap, he, hbg, hgl, hnc, hcm⟩ := row_someM H.out.2.1 (by omega)
    injection he with he1 _ he3
    subst he1 he3
    have hcell : w.cell? ⟨g, q, none⟩ = some (.int .u64 (f q : Int)) := by
      have := H.out.2.1.cells (g := g) rfl q _ (trW_get m f q hlt)
      rwa [Addr.add_lit, Nat.zero_add] at this
    clear hcm hn hnc hbg hgl
    go_upto_region 3 with (fail)
    clear hms
    go_upto_region 5 with (fail)
    have hband : bits .and .u64 (f q : Int) (b : Int) = ((f q &&& b : Nat) : Int) := bits_and_u64_nat _ _ (H.out.2.2.2.1 q) H.out.2.2.2.2.2.2.2.2
    have hbor : bits .or .u64 (f q : Int) (b : Int) = ((f q ||| b : Nat) : Int) := bits_or_u64_nat _ _ (H.out.2.2.2.1 q) H.out.2.2.2.2.2.2.2.2
    have hfree : w.frozen? ⟨g, q, none⟩ = false := by
      obtain ⟨-, hq2⟩ := H.out.2.1
      rcases hq2 with ⟨q1, -⟩ | ⟨g', cap', cur, q1, -, q3, -⟩
      · cases q1
      · cases q1; exact Lib.frozen_of_heap q3 q
    obtain ⟨y, hy⟩ : ∃ y : Int, ((f q &&& b : Nat) : Int) = y := ⟨_, rfl⟩
    obtain ⟨x, hx⟩ : ∃ x, f q ||| b = x := ⟨_, rfl⟩
    rw [hy] at hband
    rw [hx] at hbor
    have HY := Lib.hid (And.intro hy hx)
    clear hy hx
    by_cases hy0 : y = 0
    · subst hy0
      go_wp2
      go_ret
      obtain ⟨hy, rfl⟩ := HY.out
      obtain ⟨hs, hrow, hz, h64, rfl, rfl, hm, rfl, -⟩ := H.out
      have h0 : f (num / 64) &&& 2 ^ (num % 64) = 0 := by omega
      have hd : Below w.heap.size w (w.drewN nq) := ⟨rfl, rfl, rfl, Nat.le_refl _, fun _ _ => rfl⟩
      obtain ⟨k1, k2⟩ := isNew_end (hs.below hd) (row_below hrow hd) hz h64 hm hlt
      exact ⟨_, by rw [has_zero h0]; rfl, k1, k2, (ChP.ofBelow hd).set g _ _ (.inr rfl)⟩
    · have hz1 : (y == 0) = false := by rw [beq_eq_false_iff_ne]; exact hy0
      have hz2 : decide (y = 0) = false := decide_eq_false hy0
      have hz3 : (y != 0) = true := by rw [bne, hz1]; rfl
      have HN := Lib.hid hy0
      clear hy0
      go_wp2
      go_ret
      obtain ⟨hy, rfl⟩ := HY.out
      obtain ⟨hs, hrow, hz, h64, rfl, rfl, hm, rfl, -⟩ := H.out
      have h0 : f (num / 64) &&& 2 ^ (num % 64) ≠ 0 := by have := HN.out; omega
      have hd : Below w.heap.size w (w.drewN nq) := ⟨rfl, rfl, rfl, Nat.le_refl _, fun _ _ => rfl⟩
      exact ⟨_, by rw [has_one h0]; rfl, hs.below hd, ⟨m, by rw [put_same (has_one h0)]; exact row_below hrow hd, by rw [put_same (has_one h0)]; exact hz, by rw [put_same (has_one h0)]; exact h64, hm⟩, ChP.ofBelow hd⟩
  · obtain ⟨n, hn2⟩ : ∃ n, q + 1 - m = n := ⟨_, rfl⟩
    have hms : (q : Int) + 1 - (m : Int) = (n : Int) := by omega
    have d1 : decide ((0 : Int) < (n : Int)) = true := decide_eq_true (by omega)
    have d2 : decide (0 < n) = true := decide_eq_true (by omega)
    have hmn : m + n = q + 1 := by omega
    have HK := Lib.hid (And.intro hmn (And.intro hn hm))
    clear hn hn2 hmn hm hm2
    go_upto_region 3 with (fail)
    clear hms
    go_wp2_with (at_builtin; refine wpList_zeros rfl (.tmp 27) (.tmp 28) rfl rfl (row_below H.out.2.1 ⟨rfl, rfl, rfl, Nat.le_refl _, fun _ _ => rfl⟩) H.out.2.2.1 n rfl (by have := HK.out.1; omega) (by have := HK.out.1; omega) hb ?_)
    intro v6 w6 hrow6 hg6 hv6
    obtain ⟨g, cap, rfl, -, -, -, -⟩ := row_someM hrow6 (by have := HK.out.1; omega)
    have hd : Below w.heap.size w (w.drewN nq) := ⟨rfl, rfl, rfl, Nat.le_refl _, fun _ _ => rfl⟩
    have hs6 : BkAt sb 121 (srA cv nv (.slice ta m tc) pv text start fr) w6 := (H.out.1.below hd).ch (ChP.grown hg6) (fun e => row_ne H.out.2.1 H.out.1 (by decide) e rfl)
    have hne : g ≠ sb := row_ne hrow6 hs6 (by decide) rfl
    have hsW : BkAt sb 121 (srA cv nv (.slice (some ⟨g, 0, none⟩) (m + n) cap) pv text start fr) (w6.setCell ⟨sb, 5, none⟩ (.slice (some ⟨g, 0, none⟩) (m + n) cap)) := hs6.set 5 _
    have hrW := ownsRow_setCell_other hrow6 (a := ⟨sb, 5, none⟩) (fun e => hne (Option.some.inj e)) (.slice (some ⟨g, 0, none⟩) (m + n) cap)
    have hcW : ChP (fun i => i = sb ∨ (Value.slice ta m tc).ownBlock = some i) w (w6.setCell ⟨sb, 5, none⟩ (.slice (some ⟨g, 0, none⟩) (m + n) cap)) := ((ChP.ofBelow hd).trans ((ChP.grown hg6).mono (fun i _ h => .inr h)) (fun i _ h => h)).set sb 5 _ (.inl rfl)
    obtain ⟨c5, f5⟩ : w6.cell? ⟨sb, 5, none⟩ = some (.slice ta m tc) ∧ w6.frozen? ⟨sb, 5, none⟩ = false := ⟨hs6.cell 5, hs6.free 5⟩
    have hg' : (Value.slice ta m tc).ownBlock = some g ∨ w.heap.size ≤ g := by
      rcases hv6 with e | e
      · exact .inl e.symm
      · exact .inr (Nat.le_of_eq (Option.some.inj e).symm)
    have HS := Lib.hid (And.intro hsW (And.intro hrW (And.intro hcW hg')))
    clear hs6 hne hsW hrW hcW hrow6 hg6 hv6 hg'
    go_upto_region 5 with (fail)
    obtain ⟨W, hW⟩ : ∃ W, w6.setCell ⟨sb, 5, none⟩ (.slice (some ⟨g, 0, none⟩) (m + n) cap) = W := ⟨_, rfl⟩
    rw [hW] at HS ⊢
    rw [HK.out.1] at HS ⊢
    clear hW c5 f5
    have hcell : W.cell? ⟨g, q, none⟩ = some (.int .u64 (f q : Int)) := by
      have := HS.out.2.1.cells (g := g) rfl q _ (trW_get _ f q (by omega))
      rwa [Addr.add_lit, Nat.zero_add] at this
    have c5 : W.cell? ⟨sb, 5, none⟩ = some (.slice (some ⟨g, 0, none⟩) (q + 1) cap) := HS.out.1.cell 5
    have hfq : f q = 0 := H.out.2.2.1 q (by omega)
    rw [hfq] at hcell
    have hband : bits .and .u64 ((0 : Nat) : Int) (b : Int) = 0 := by rw [bits_and_u64_nat _ _ (by decide) H.out.2.2.2.2.2.2.2.2, Nat.zero_and]; rfl
    have hbor : bits .or .u64 ((0 : Nat) : Int) (b : Int) = (b : Int) := by rw [bits_or_u64_nat _ _ (by decide) H.out.2.2.2.2.2.2.2.2, Nat.zero_or]
    rw [show ((0 : Nat) : Int) = 0 from rfl] at hcell hband hbor
    have hfree : W.frozen? ⟨g, q, none⟩ = false := by
      obtain ⟨-, hq2⟩ := HS.out.2.1
      rcases hq2 with ⟨q1, -⟩ | ⟨g', cap', cur, q1, -, q3, -⟩
      · cases q1
      · cases q1; exact Lib.frozen_of_heap q3 q
    have HF := Lib.hid (And.intro hfq hlt)
    clear hfq hlt
    go_wp2
    go_ret
    obtain ⟨hs, hrow, hcW, hg'⟩ := HS.out
    obtain ⟨-, -, hz, h64, rfl, rfl, hm, rfl, -⟩ := H.out
    obtain ⟨hfq, hlt⟩ := HF.out
    obtain ⟨hmn, hn, -⟩ := HK.out
    have h0 : f (num / 64) &&& 2 ^ (num % 64) = 0 := by rw [hfq, Nat.zero_and]
    obtain ⟨k1, k2⟩ := isNew_end hs hrow (fun j hj => hz j (by omega)) h64 (by omega) (by omega) (num := num)
    rw [hfq, Nat.zero_or] at k1 k2
    exact ⟨_, by rw [has_zero h0]; rfl, k1, k2, hcW.setNew g _ _ (hg'.elim (fun h => .inl (.inr h)) .inr)⟩
end Go.Proofs.Ytfkgicakiapmaaa
