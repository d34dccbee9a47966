/- The contracts of what the parser reads byte by byte: byteRange, isPrintable, literal, escaped, escape. -/
import Derived.Test.YtfmoidhpafpgnaaPatPeek
namespace Go.Proofs.Ytfmoidhpafpgnaa
open Go.RowKit

set_option maxRecDepth 100000 in
theorem byteRange_any (a b : Int) (w : World) :
    Calls Try.prog 49 #[.int .u8 a, .int .u8 b] w fun e w' => e = .returned (.agg #[.int .u8 a, .int .u8 b]) ∧ Below w.heap.size w w' := by
  go_enter Try.func49, Try.ntmps49
  go_wp2
  exact bodyPost_ret (v := .agg #[.int .u8 a, .int .u8 b]) (by simp [results, Try.results49, go_sem]) rfl ⟨rfl, (Below.refl _ _).alloc (Nat.le_refl _) _⟩

theorem isPrintable_any (c : Nat) (w : World) :
    Calls Try.prog 60 #[.int .u8 (c : Int)] w fun e w' => e = .returned (.bool (printN c)) ∧ w = w' := by
  by_cases h : 32 ≤ c
  · by_cases h2 : c ≤ 126
    · have hv : printN c = true := by simp [printN]; omega
      rw [hv]
      have d1 : decide (32 ≤ (c : Int)) = true := by simp; omega
      have d2 : decide ((c : Int) ≤ 126) = true := by simp; omega
      clear hv
      go_enter Try.func60, Try.ntmps60
      go_wp2
      go_ret
      exact ⟨rfl, rfl⟩
    · have hv : printN c = false := by simp [printN]; omega
      rw [hv]
      have d1 : decide (32 ≤ (c : Int)) = true := by simp; omega
      have d2 : decide ((c : Int) ≤ 126) = false := by simp; omega
      clear hv
      go_enter Try.func60, Try.ntmps60
      go_wp2
      go_ret
      exact ⟨rfl, rfl⟩
  · have hv : printN c = false := by simp [printN]; omega
    rw [hv]
    have d1 : decide (32 ≤ (c : Int)) = false := by simp; omega
    clear hv
    go_enter Try.func60, Try.ntmps60
    go_wp2
    go_ret
    exact ⟨rfl, rfl⟩

theorem one_range (lo : Nat) (w : World) (a b : Nat) (ha : a < 256) (hb : b < 256) (hlo : lo ≤ w.heap.size) :
    RangesIn lo (w.alloc (.cells #[.int .u8 (a : Int), .int .u8 (b : Int)] 46)) (.slice (some ⟨w.heap.size, 0, none⟩) 1 1) [(a, b)] := by
  refine ⟨_, 1, rfl, by simp [maxLen], by simp; omega, fun i hi => ⟨w.heap.size, 0, rfl, hlo, ?_, ?_⟩⟩
  all_goals
    obtain rfl : i = 0 := by simpa using hi
    rw [Lib.cell_of_heap (heap_alloc_new _ _)]
    rfl

def specials (sp : List UInt8) : Value := .string ⟨sp.toArray⟩
theorem special_in (sp : List UInt8) (c : UInt8) (h : c ∈ sp) : ∃ o : Nat, Lib.indexByte sp c = o := by
  rcases Int.lt_or_le (Lib.indexByte sp c) 0 with h' | h'
  · have h0 := Lib.indexByte_ge sp c
    have h1 : Lib.indexByte sp c = -1 := by omega
    obtain ⟨k, hk⟩ := List.getElem?_of_mem h
    exact absurd hk (Lib.indexByte_none h1 k)
  · exact Int.eq_ofNat_of_zero_le h'
theorem special_out (sp : List UInt8) (c : UInt8) (h : c ∉ sp) : Lib.indexByte sp c = -1 :=
  indexByte_not sp c fun _ hk => h (List.mem_of_getElem? hk)

set_option maxRecDepth 100000 in
set_option maxHeartbeats 1000000 in
theorem literal_yes (s : ByteArray) (B lo : Nat) (p : PS) (sp : List UInt8) (w : World) (h : PAt s B p w) (hlo : lo ≤ w.heap.size)
    (hc : printN (peekS s p) = true ∧ peekS s p ≠ 92 ∧ UInt8.ofNat (peekS s p) ∉ sp) :
    Calls Try.prog 50 #[pPtr B, specials sp] w fun e w' => ∃ v, e = .returned v ∧ RangesIn lo w' v [(peekS s p, peekS s p)] ∧ PAt s B p.next w' ∧ Fr B w w' := by
  obtain ⟨c, hcq⟩ : ∃ c, peekS s p = c := ⟨_, rfl⟩
  have hpk := peek_to s B p w h
  have hclt := peekS_lt s p
  have hlt := fun h0 => (peekS_in (s := s) (p := p) h0).2
  rw [hcq] at hc hpk hclt hlt ⊢
  obtain ⟨hp1, hp2, hp3⟩ := hc
  have hlt := hlt (by rintro rfl; simp [printN] at hp1)
  have hs := h.sz
  have hpr := fun W => isPrintable_any c W
  rw [hp1] at hpr
  have hix := fun W => Try.strings_IndexByte ⟨sp.toArray⟩ c W
  rw [show (c : Int).toNat.toUInt8 = UInt8.ofNat c from by simp [Nat.toUInt8]] at hix
  rw [show (ByteArray.mk sp.toArray).data.toList = sp from by simp, special_out _ _ hp3] at hix
  have hix : ∀ W, Calls Try.prog 61 #[specials sp, .int .u8 (c : Int)] W fun e w' => e = .returned (.int .i64 (-1)) ∧ W = w' := fun W => (hix W).mono fun _ _ h => ⟨h.1, h.2.symm⟩
  have e1 : ((c : Int) == 92) = false := by rw [beq_eq_false_iff_ne]; omega
  have H := Lib.hid (And.intro hpk (And.intro hpr hix))
  clear hpk hpr hix hcq hp1 hp2 hp3 h
  unfold pPtr at H ⊢
  go_enter Try.func50, Try.ntmps50
  go_wp2_with fail
  refine (H.out.1).mono ?_
  rintro e w1 ⟨rfl, h1, hf1⟩
  obtain ⟨c0, c1, c2, f1, f2⟩ := h1.parts
  go_wp2_with fail
  refine (H.out.2.1 _).mono ?_
  rintro e w2 ⟨rfl, rfl⟩
  go_wp2_with fail
  refine (H.out.2.2 _).mono ?_
  rintro e w2 ⟨rfl, rfl⟩
  go_wp2_with fail
  have h2 := h1.setPos (p.pos + 1) (p.pos + 1) (by push_cast; rfl) hlt
  have hf2 := hf1.setCell 1 (.int .i64 (p.pos + 1))
  refine (byteRange_any _ _ _).mono ?_
  rintro e w3 ⟨rfl, hb3⟩
  have hz := hb3.size
  go_wp2
  go_ret
  refine ⟨_, rfl, one_range lo w3 c c hclt hclt (by have := hf2.size; omega), (h2.below hb3).alloc _, (hf2.below hb3).alloc _⟩

set_option maxRecDepth 100000 in
set_option maxHeartbeats 2000000 in
theorem literal_no (s : ByteArray) (B : Nat) (p : PS) (sp : List UInt8) (w : World) (h : PAt s B p w)
    (hc : ¬ (printN (peekS s p) = true ∧ peekS s p ≠ 92 ∧ UInt8.ofNat (peekS s p) ∉ sp)) :
    Calls Try.prog 50 #[pPtr B, specials sp] w fun e w' => e = .returned (.slice none 0 0) ∧ PAt s B (failS p p.pos 1) w' ∧ Fr B w w' := by
  obtain ⟨c, hcq⟩ : ∃ c, peekS s p = c := ⟨_, rfl⟩
  have hpk := peek_to s B p w h
  rw [hcq] at hc hpk
  have hpr := fun W => isPrintable_any c W
  have hix := fun W => Try.strings_IndexByte ⟨sp.toArray⟩ c W
  rw [show (c : Int).toNat.toUInt8 = UInt8.ofNat c from by simp [Nat.toUInt8]] at hix
  rw [show (ByteArray.mk sp.toArray).data.toList = sp from by simp] at hix
  have hfl := fun W hW => fail_any s B p p.pos 1 W hW h.le
  by_cases hp1 : printN c = true
  · rw [hp1] at hpr
    by_cases hp2 : c = 92
    · have H := Lib.hid (And.intro hpk (And.intro hpr hfl))
      have e1 : ((c : Int) == 92) = true := by rw [beq_iff_eq]; omega
      clear hpk hpr hix hcq hp1 hp2 h hc hfl
      unfold pPtr at H ⊢
      go_enter Try.func50, Try.ntmps50
      go_wp2_with fail
      refine (H.out.1).mono ?_
      rintro e w1 ⟨rfl, h1, hf1⟩
      obtain ⟨c0, c1, c2, f1, f2⟩ := h1.parts
      go_wp2_with fail
      refine (H.out.2.1 _).mono ?_
      rintro e w2 ⟨rfl, rfl⟩
      go_wp2_with fail
      refine (H.out.2.2 _ h1).mono ?_
      rintro e w2 ⟨rfl, h2, hf2⟩
      go_wp2
      go_ret
      exact ⟨rfl, h2, hf1.trans hf2⟩
    · obtain ⟨o, ho⟩ := special_in sp (UInt8.ofNat c) (by
        rcases Classical.em (UInt8.ofNat c ∈ sp) with h3 | h3
        · exact h3
        · exact absurd ⟨hp1, hp2, h3⟩ hc)
      rw [ho] at hix
      have hix : ∀ W, Calls Try.prog 61 #[specials sp, .int .u8 (c : Int)] W fun e w' => e = .returned (.int .i64 (o : Int)) ∧ W = w' := fun W => (hix W).mono fun _ _ h => ⟨h.1, h.2.symm⟩
      have H := Lib.hid (And.intro hpk (And.intro hpr (And.intro hix hfl)))
      have e1 : ((c : Int) == 92) = false := by rw [beq_eq_false_iff_ne]; omega
      have e2 : decide (0 ≤ (o : Int)) = true := by simp
      clear hpk hpr hix hcq hp1 hp2 h hc hfl ho
      unfold pPtr at H ⊢
      go_enter Try.func50, Try.ntmps50
      go_wp2_with fail
      refine (H.out.1).mono ?_
      rintro e w1 ⟨rfl, h1, hf1⟩
      obtain ⟨c0, c1, c2, f1, f2⟩ := h1.parts
      go_wp2_with fail
      refine (H.out.2.1 _).mono ?_
      rintro e w2 ⟨rfl, rfl⟩
      go_wp2_with fail
      refine (H.out.2.2.1 _).mono ?_
      rintro e w2 ⟨rfl, rfl⟩
      go_wp2_with fail
      refine (H.out.2.2.2 _ h1).mono ?_
      rintro e w2 ⟨rfl, h2, hf2⟩
      go_wp2
      go_ret
      exact ⟨rfl, h2, hf1.trans hf2⟩
  · have hp1 : printN c = false := by simpa using hp1
    rw [hp1] at hpr
    have H := Lib.hid (And.intro hpk (And.intro hpr hfl))
    clear hpk hpr hix hcq hp1 h hc hfl
    unfold pPtr at H ⊢
    go_enter Try.func50, Try.ntmps50
    go_wp2_with fail
    refine (H.out.1).mono ?_
    rintro e w1 ⟨rfl, h1, hf1⟩
    obtain ⟨c0, c1, c2, f1, f2⟩ := h1.parts
    go_wp2_with fail
    refine (H.out.2.1 _).mono ?_
    rintro e w2 ⟨rfl, rfl⟩
    go_wp2_with fail
    refine (H.out.2.2 _ h1).mono ?_
    rintro e w2 ⟨rfl, h2, hf2⟩
    go_wp2
    go_ret
    exact ⟨rfl, h2, hf1.trans hf2⟩

theorem no_ranges (lo : Nat) (w : World) : RangesIn lo w (.slice none 0 0) [] :=
  ⟨none, 0, rfl, by simp, by simp, fun i hi => absurd hi (by simp)⟩
/-- Both ways of literal as the plain parser has them. -/
theorem literal_any (s : ByteArray) (B lo : Nat) (p : PS) (sp : List UInt8) (w : World) (h : PAt s B p w) (hlo : lo ≤ w.heap.size) :
    Calls Try.prog 50 #[pPtr B, specials sp] w fun e w' => ∃ v, e = .returned v ∧ RangesIn lo w' v (literalS s sp p).1 ∧ PAt s B (literalS s sp p).2 w' ∧ Fr B w w' := by
  unfold literalS
  by_cases hc : printN (peekS s p) = true ∧ peekS s p ≠ 92 ∧ UInt8.ofNat (peekS s p) ∉ sp
  · rw [if_pos hc]; exact literal_yes s B lo p sp w h hlo hc
  · rw [if_neg hc]; exact (literal_no s B p sp w h hc).mono fun _ w' ⟨he, h1, h2⟩ => ⟨_, he, no_ranges lo w', h1, h2⟩
end Go.Proofs.Ytfmoidhpafpgnaa
