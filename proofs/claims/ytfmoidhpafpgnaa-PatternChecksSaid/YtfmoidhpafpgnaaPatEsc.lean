/- The contracts of what the parser reads behind a backslash: escaped and escape. -/
import Derived.Test.YtfmoidhpafpgnaaPatLit
namespace Go.Proofs.Ytfmoidhpafpgnaa
open Go.RowKit

/-- The cells of ranges. -/
def rsCells (rs : List (Nat × Nat)) : Array Value := (rs.flatMap fun x => [Value.int .u8 (x.1 : Int), Value.int .u8 (x.2 : Int)]).toArray
theorem rsCells_get (rs : List (Nat × Nat)) : ∀ (i : Nat) (h : i < rs.length), (rsCells rs)[i * 2]? = some (.int .u8 (rs[i].1 : Int)) ∧ (rsCells rs)[i * 2 + 1]? = some (.int .u8 (rs[i].2 : Int)) := by
  induction rs with
  | nil => intro i h; simp at h
  | cons x r ih =>
    intro i h
    match i with
    | 0 => simp [rsCells]
    | i + 1 =>
      have := ih i (by simpa using h)
      rw [show (i + 1) * 2 = i * 2 + 2 from by omega, show i * 2 + 2 + 1 = i * 2 + 1 + 2 from by omega]
      simpa [rsCells] using this
theorem some_ranges (lo : Nat) (w : World) (rs : List (Nat × Nat)) (t : TypeId) (n : Nat) (hn : n = rs.length) (hb : ∀ x ∈ rs, x.1 < 256 ∧ x.2 < 256) (hl : rs.length ≤ 300) (hlo : lo ≤ w.heap.size) :
    RangesIn lo (w.alloc (.cells (rsCells rs) t)) (.slice (some ⟨w.heap.size, 0, none⟩) n n) rs := by
  subst hn
  refine ⟨_, _, rfl, by unfold maxLen; omega, hb, fun i hi => ⟨w.heap.size, 0, rfl, hlo, ?_, ?_⟩⟩
  · rw [Lib.cell_of_heap (heap_alloc_new _ _), Nat.zero_add]; exact (rsCells_get rs i hi).1
  · rw [Lib.cell_of_heap (heap_alloc_new _ _), Nat.zero_add]; exact (rsCells_get rs i hi).2

set_option maxRecDepth 100000 in
set_option maxHeartbeats 2000000 in
theorem escaped_any (c lo : Nat) (hc : c < 256) (w : World) (hlo : lo ≤ w.heap.size) :
    Calls Try.prog 54 #[.int .u8 (c : Int)] w fun e w' => ∃ v, e = .returned v ∧ RangesIn lo w' v (escapedS c) ∧ Below w.heap.size w w' := by
  have hbr := fun a b W => byteRange_any a b W
  have HB := Lib.hid hbr
  clear hbr
  by_cases h1 : c = 100
  · subst h1
    have hv : escapedS 100 = [(48, 57)] := by decide
    rw [hv]
    go_enter Try.func54, Try.ntmps54
    go_wp2_with fail
    refine (HB.out _ _ _).mono ?_
    rintro e w1 ⟨rfl, hb1⟩
    go_wp2
    go_ret
    exact ⟨_, rfl, some_ranges lo w1 [(48, 57)] _ 1 rfl (by decide) (by decide) (by have := hb1.size; omega), hb1.alloc hb1.size _⟩
  have t1 : ((c : Int) == 100) = false := by rw [beq_eq_false_iff_ne]; omega
  by_cases h2 : c = 119
  · subst h2
    have hv : escapedS 119 = [(48, 57), (65, 90), (95, 95), (97, 122)] := by decide
    rw [hv]
    clear t1
    go_enter Try.func54, Try.ntmps54
    go_wp2_with fail
    refine (HB.out _ _ _).mono ?_
    rintro e w1 ⟨rfl, hb1⟩
    go_wp2_with fail
    refine (HB.out _ _ _).mono ?_
    rintro e w2 ⟨rfl, hb2⟩
    go_wp2_with fail
    refine (HB.out _ _ _).mono ?_
    rintro e w3 ⟨rfl, hb3⟩
    go_wp2_with fail
    refine (HB.out _ _ _).mono ?_
    rintro e w4 ⟨rfl, hb4⟩
    go_wp2
    go_ret
    have hb := hb1.trans ((hb2.mono hb1.size).trans ((hb3.mono (Nat.le_trans hb1.size hb2.size)).trans (hb4.mono (Nat.le_trans hb1.size (Nat.le_trans hb2.size hb3.size)))))
    exact ⟨_, rfl, some_ranges lo w4 [(48, 57), (65, 90), (95, 95), (97, 122)] _ 4 rfl (by decide) (by decide) (by have := hb.size; omega), hb.alloc hb.size _⟩
  have t2 : ((c : Int) == 119) = false := by rw [beq_eq_false_iff_ne]; omega
  by_cases h3 : c = 115
  · subst h3
    have hv : escapedS 115 = [(9, 9), (32, 32)] := by decide
    rw [hv]
    clear t1 t2
    go_enter Try.func54, Try.ntmps54
    go_wp2_with fail
    refine (HB.out _ _ _).mono ?_
    rintro e w1 ⟨rfl, hb1⟩
    go_wp2_with fail
    refine (HB.out _ _ _).mono ?_
    rintro e w2 ⟨rfl, hb2⟩
    go_wp2
    go_ret
    have hb := hb1.trans (hb2.mono hb1.size)
    exact ⟨_, rfl, some_ranges lo w2 [(9, 9), (32, 32)] _ 2 rfl (by decide) (by decide) (by have := hb.size; omega), hb.alloc hb.size _⟩
  have t3 : ((c : Int) == 115) = false := by rw [beq_eq_false_iff_ne]; omega
  by_cases h4 : c = 110
  · subst h4
    have hv : escapedS 110 = [(10, 10)] := by decide
    rw [hv]
    clear t1 t2 t3
    go_enter Try.func54, Try.ntmps54
    go_wp2_with fail
    refine (HB.out _ _ _).mono ?_
    rintro e w1 ⟨rfl, hb1⟩
    go_wp2
    go_ret
    exact ⟨_, rfl, some_ranges lo w1 [(10, 10)] _ 1 rfl (by decide) (by decide) (by have := hb1.size; omega), hb1.alloc hb1.size _⟩
  have t4 : ((c : Int) == 110) = false := by rw [beq_eq_false_iff_ne]; omega
  by_cases h5 : c = 116
  · subst h5
    have hv : escapedS 116 = [(9, 9)] := by decide
    rw [hv]
    clear t1 t2 t3 t4
    go_enter Try.func54, Try.ntmps54
    go_wp2_with fail
    refine (HB.out _ _ _).mono ?_
    rintro e w1 ⟨rfl, hb1⟩
    go_wp2
    go_ret
    exact ⟨_, rfl, some_ranges lo w1 [(9, 9)] _ 1 rfl (by decide) (by decide) (by have := hb1.size; omega), hb1.alloc hb1.size _⟩
  have t5 : ((c : Int) == 116) = false := by rw [beq_eq_false_iff_ne]; omega
  have hv : escapedS c = if printN c = true ∧ letB c = false ∧ digB c = false then [(c, c)] else [] := by
    unfold escapedS
    rw [if_neg h1, if_neg h2, if_neg h3, if_neg h4, if_neg h5]
  have hpr := fun W => isPrintable_any c W
  have hle := fun W => letter_any c hc W
  have hdi := fun W => digit_any c hc W
  clear h1 h2 h3 h4 h5
  by_cases hp : printN c = true
  · rw [hp] at hpr
    by_cases hl : letB c = false
    · rw [hl] at hle
      by_cases hd : digB c = false
      · rw [hd] at hdi
        rw [hv, if_pos ⟨hp, hl, hd⟩]
        have H := Lib.hid (And.intro hpr (And.intro hle hdi))
        clear hv hpr hle hdi hp hl hd
        go_enter Try.func54, Try.ntmps54
        go_wp2_with fail
        refine (H.out.1 _).mono ?_
        rintro e w1 ⟨rfl, rfl⟩
        go_wp2_with fail
        refine (H.out.2.1 _).mono ?_
        rintro e w1 ⟨rfl, hb1⟩
        go_wp2_with fail
        refine (H.out.2.2 _).mono ?_
        rintro e w2 ⟨rfl, hb2⟩
        go_wp2_with fail
        refine (HB.out _ _ _).mono ?_
        rintro e w3 ⟨rfl, hb3⟩
        go_wp2
        go_ret
        have hb := hb1.trans ((hb2.mono hb1.size).trans (hb3.mono (Nat.le_trans hb1.size hb2.size)))
        exact ⟨_, rfl, one_range lo w3 c c hc hc (by have := hb.size; omega), hb.alloc hb.size _⟩
      · have hd : digB c = true := by simpa using hd
        rw [hd] at hdi
        rw [hv, if_neg (by simp [hd])]
        have H := Lib.hid (And.intro hpr (And.intro hle hdi))
        clear hv hpr hle hdi hp hl hd
        go_enter Try.func54, Try.ntmps54
        go_wp2_with fail
        refine (H.out.1 _).mono ?_
        rintro e w1 ⟨rfl, rfl⟩
        go_wp2_with fail
        refine (H.out.2.1 _).mono ?_
        rintro e w1 ⟨rfl, hb1⟩
        go_wp2_with fail
        refine (H.out.2.2 _).mono ?_
        rintro e w2 ⟨rfl, hb2⟩
        go_wp2
        go_ret
        exact ⟨_, rfl, no_ranges lo w2, hb1.trans (hb2.mono hb1.size)⟩
    · have hl : letB c = true := by simpa using hl
      rw [hl] at hle
      rw [hv, if_neg (by simp [hl])]
      have H := Lib.hid (And.intro hpr hle)
      clear hv hpr hle hdi hp hl
      go_enter Try.func54, Try.ntmps54
      go_wp2_with fail
      refine (H.out.1 _).mono ?_
      rintro e w1 ⟨rfl, rfl⟩
      go_wp2_with fail
      refine (H.out.2 _).mono ?_
      rintro e w1 ⟨rfl, hb1⟩
      go_wp2
      go_ret
      exact ⟨_, rfl, no_ranges lo w1, hb1⟩
  · have hp : printN c = false := by simpa using hp
    rw [hp] at hpr
    rw [hv, if_neg (by simp [hp])]
    have H := Lib.hid hpr
    clear hv hpr hle hdi hp
    go_enter Try.func54, Try.ntmps54
    go_wp2_with fail
    refine (H.out _).mono ?_
    rintro e w1 ⟨rfl, rfl⟩
    go_wp2
    go_ret
    exact ⟨_, rfl, no_ranges lo _, Below.refl _ _⟩

set_option maxRecDepth 100000 in
set_option maxHeartbeats 2000000 in
theorem escape_any (s : ByteArray) (B lo : Nat) (p : PS) (w : World) (h : PAt s B p w) (hlo : lo ≤ w.heap.size) (hB : B < lo) :
    Calls Try.prog 46 #[pPtr B] w fun e w' => ∃ v, e = .returned v ∧ RangesIn lo w' v (escapeS s p).1 ∧ PAt s B (escapeS s p).2 w' ∧ Fr B w w' := by
  have hex := fun W hW => expect_any s B p 92 (by omega) W hW
  unfold escapeS
  obtain ⟨p1, hp1⟩ : ∃ p1, expectS s p 92 = p1 := ⟨_, rfl⟩
  rw [hp1] at hex ⊢
  clear hp1
  have hpk := fun W hW => peek_to s B p1 W hW
  obtain ⟨c, hcq⟩ : ∃ c, peekS s p1 = c := ⟨_, rfl⟩
  have hclt := peekS_lt s p1
  have hin := fun h0 => (peekS_in (s := s) (p := p1) h0).2
  rw [hcq] at hpk hclt hin ⊢
  have hes := fun W hW => escaped_any c lo hclt W hW
  have hfl := fun W hW => fail_any s B p1 p1.pos 1 W hW hW.le
  obtain ⟨r, hr⟩ : ∃ r, escapedS c = r := ⟨_, rfl⟩
  rw [hr] at hes ⊢
  have hlt : r ≠ [] → p1.pos < s.size := fun hr0 => hin (by rintro rfl; exact hr0 (hr ▸ escaped_zero))
  have H := Lib.hid (And.intro hex (And.intro hpk (And.intro hes hfl)))
  clear hex hpk hes hfl hcq hr hin
  have HP := Lib.hid h
  clear h
  by_cases hr0 : r = []
  · subst hr0
    rw [if_pos rfl]
    clear hlt
    unfold pPtr at H ⊢
    go_enter Try.func46, Try.ntmps46
    go_wp2_with fail
    refine (H.out.1 _ HP.out).mono ?_
    rintro e w1 ⟨rfl, h1, hf1⟩
    go_wp2_with fail
    refine (H.out.2.1 _ h1).mono ?_
    rintro e w2 ⟨rfl, h2, hf2⟩
    go_wp2_with fail
    have hf12 := hf1.trans hf2
    refine (H.out.2.2.1 _ (by have := hf12.size; omega)).mono ?_
    rintro e w3 ⟨v, rfl, hv, hb3⟩
    obtain ⟨a, k, rfl, -, -, -⟩ := hv
    have h3 := h2.below hb3
    obtain ⟨c0, c1, c2, f1, f2⟩ := h3.parts
    simp only [List.length_nil]
    go_wp2_with fail
    refine (H.out.2.2.2 _ h3).mono ?_
    rintro e w4 ⟨rfl, h4, hf4⟩
    go_wp2
    go_ret
    exact ⟨_, rfl, no_ranges lo _, h4, (hf12.below hb3).trans hf4⟩
  · have hlt := hlt hr0
    have hrl : 0 < r.length := by
      cases r with
      | nil => exact absurd rfl hr0
      | cons _ _ => simp
    have e1 : ((r.length : Int) == 0) = false := by rw [beq_eq_false_iff_ne]; omega
    rw [if_neg hr0]
    clear hr0
    unfold pPtr at H ⊢
    go_enter Try.func46, Try.ntmps46
    go_wp2_with fail
    refine (H.out.1 _ HP.out).mono ?_
    rintro e w1 ⟨rfl, h1, hf1⟩
    go_wp2_with fail
    refine (H.out.2.1 _ h1).mono ?_
    rintro e w2 ⟨rfl, h2, hf2⟩
    go_wp2_with fail
    have hf12 := hf1.trans hf2
    refine (H.out.2.2.1 _ (by have := hf12.size; omega)).mono ?_
    rintro e w3 ⟨v, rfl, hv, hb3⟩
    have hvk := hv
    obtain ⟨a, k, rfl, -, -, -⟩ := hvk
    have h3 := h2.below hb3
    have hs := h3.sz
    obtain ⟨c0, c1, c2, f1, f2⟩ := h3.parts
    go_wp2
    go_ret
    exact ⟨_, rfl, hv.keeps ((Fr.setCell (Fr.refl B w3) 1 _).keeps hB), h3.setPos (p1.pos + 1) _ (by push_cast; rfl) hlt, (hf12.below hb3).setCell 1 _⟩
end Go.Proofs.Ytfmoidhpafpgnaa
