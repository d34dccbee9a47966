/- Plain mathematics of patterns, first part: what the parser's readers answer at the beginning of a formatted source; no condition. Plain mathematics of patterns, second part: the parser answers the node whose formatted source it reads; no condition. Plain mathematics of patterns, third part: Parse of what Format writes is the node; no condition. -/
import Derived.Test.YtbadhhfnbgaamaaDoorPatFmt
import Derived.StringKeys
namespace Go.Proofs.YtbadhhfnbgaamaaDoor

/-- The bytes from an offset on. -/
def tl (s : ByteArray) (k : Nat) : List UInt8 := s.data.toList.drop k
def headN : List UInt8 → Nat
  | [] => 0
  | c :: _ => c.toNat
theorem tl_add {s : ByteArray} {k : Nat} {l r : List UInt8} (h : tl s k = l ++ r) : tl s (k + l.length) = r := by
  unfold tl at *
  rw [← List.drop_drop, h, List.drop_left]
theorem tl_one {s : ByteArray} {k : Nat} {c : UInt8} {r : List UInt8} (h : tl s k = c :: r) : tl s (k + 1) = r := tl_add (l := [c]) h
theorem tl_lt {s : ByteArray} {k : Nat} {c : UInt8} {r : List UInt8} (h : tl s k = c :: r) : k < s.size := by
  have := congrArg List.length h
  unfold tl at this
  rw [List.length_drop, sizeB] at this
  simp at this
  omega
theorem tl_fit {s : ByteArray} {k : Nat} {l r : List UInt8} (h : tl s k = l ++ r) : l.length ≤ s.size - k := by
  have := congrArg List.length h
  unfold tl at this
  rw [List.length_drop, sizeB] at this
  simp at this
  omega
theorem byteN_head (s : ByteArray) (k : Nat) : byteN s k = headN (tl s k) := by
  by_cases h : k < s.size
  · rw [byteN_in s k h]
    unfold tl
    rw [List.drop_eq_getElem_cons (by rw [sizeB]; exact h)]
    rfl
  · rw [byteN_out s k h]
    unfold tl
    rw [List.drop_eq_nil_of_le (by rw [sizeB]; omega)]
    rfl
theorem peek_head (s : ByteArray) (k : Nat) : peekS s ⟨k, 0⟩ = headN (tl s k) := by
  rw [peekS_ok rfl, byteN_head]
theorem next_eq (k : Nat) : (PS.mk k 0).next = ⟨k + 1, 0⟩ := rfl
theorem take_is {s : ByteArray} {k c : Nat} (h : headN (tl s k) = c) : takeS s ⟨k, 0⟩ c = ⟨k + 1, 0⟩ := by
  unfold takeS; rw [peek_head, if_pos h]; rfl
theorem take_not {s : ByteArray} {k c : Nat} (h : headN (tl s k) ≠ c) : takeS s ⟨k, 0⟩ c = ⟨k, 0⟩ := by
  unfold takeS; rw [peek_head, if_neg h]
theorem expect_is {s : ByteArray} {k c : Nat} (h : headN (tl s k) = c) : expectS s ⟨k, 0⟩ c = ⟨k + 1, 0⟩ := by
  unfold expectS; rw [peek_head, if_pos h]; rfl

theorem item_esc {s : ByteArray} {k : Nat} {d : UInt8} {r : List UInt8} (h : tl s k = 92 :: d :: r) (he : escapedS d.toNat ≠ []) : itemS s ⟨k, 0⟩ = (escapedS d.toNat, ⟨k + 2, 0⟩) := by
  have h1 : headN (tl s k) = 92 := by rw [h]; rfl
  have h2 : headN (tl s (k + 1)) = d.toNat := by rw [tl_one h]; rfl
  unfold itemS escapeS
  rw [peek_head, if_pos h1, expect_is h1, peek_head, h2, if_neg he]
  rfl
theorem item_lit {s : ByteArray} {k : Nat} {c : UInt8} {r : List UInt8} (h : tl s k = c :: r) (hp : printN c.toNat = true) (h1 : c.toNat ≠ 92) (h2 : c ∉ insides) : itemS s ⟨k, 0⟩ = ([(c.toNat, c.toNat)], ⟨k + 1, 0⟩) := by
  have hh : headN (tl s k) = c.toNat := by rw [h]; rfl
  unfold itemS literalS
  rw [peek_head, hh, if_neg h1, if_pos ⟨hp, h1, by rw [UInt8.ofNat_toNat]; exact h2⟩]
  rfl
theorem ofN (c : Nat) (h : c < 256) : (UInt8.ofNat c).toNat = c := by
  rw [UInt8.toNat_ofNat']; omega
theorem item_trip {s : ByteArray} {k c : Nat} {r : List UInt8} (hw : wrB c = true) (hc : c < 256) (h : tl s k = itemF c ++ r) : itemS s ⟨k, 0⟩ = ([(c, c)], ⟨k + (itemF c).length, 0⟩) := by
  by_cases h10 : c = 10
  · subst h10; exact item_esc h (by decide)
  by_cases h9 : c = 9
  · subst h9; exact item_esc h (by decide)
  by_cases hs : c = 93 ∨ c = 45 ∨ c = 94 ∨ c = 92
  · rcases hs with rfl | rfl | rfl | rfl <;> exact item_esc h (by decide)
  · have he : itemF c = [UInt8.ofNat c] := by unfold itemF; rw [if_neg h10, if_neg h9, if_neg hs]
    rw [he] at h ⊢
    have hp : printN c = true := by
      simp only [wrB, Bool.or_eq_true, decide_eq_true_eq] at hw
      rcases hw with (hw | hw) | hw
      · exact hw
      · omega
      · omega
    have := item_lit (s := s) (k := k) (c := UInt8.ofNat c) (r := r) h (by rw [ofN c hc]; exact hp) (by rw [ofN c hc]; omega) (by
      intro hm
      have hm' : (UInt8.ofNat c).toNat ∈ insides.map UInt8.toNat := List.mem_map_of_mem hm
      rw [ofN c hc] at hm'
      have : insides.map UInt8.toNat = [93, 45, 94] := by decide
      rw [this] at hm'
      simp at hm'
      omega)
    rw [ofN c hc] at this
    exact this
theorem item_head (c : Nat) (_hw : wrB c = true) (hc : c < 256) : ∃ d l, itemF c = d :: l ∧ d.toNat ≠ 45 ∧ d.toNat ≠ 93 ∧ d.toNat ≠ 94 := by
  unfold itemF
  by_cases h10 : c = 10
  · rw [if_pos h10]; exact ⟨_, _, rfl, by decide, by decide, by decide⟩
  rw [if_neg h10]
  by_cases h9 : c = 9
  · rw [if_pos h9]; exact ⟨_, _, rfl, by decide, by decide, by decide⟩
  rw [if_neg h9]
  by_cases hs : c = 93 ∨ c = 45 ∨ c = 94 ∨ c = 92
  · rw [if_pos hs]; exact ⟨_, _, rfl, by decide, by decide, by decide⟩
  · rw [if_neg hs]
    exact ⟨_, _, rfl, by rw [ofN c hc]; omega, by rw [ofN c hc]; omega, by rw [ofN c hc]; omega⟩
theorem rg_head (a b : Nat) (hw : wrB a = true) (hc : a < 256) : ∃ d l, rgF (a, b) = d :: l ∧ d.toNat ≠ 45 ∧ d.toNat ≠ 93 ∧ d.toNat ≠ 94 := by
  obtain ⟨d, l, h, h1⟩ := item_head a hw hc
  exact ⟨d, _, by unfold rgF; rw [h]; rfl, h1⟩
theorem rg_trip {s : ByteArray} {k a b : Nat} {r : List UInt8} (hab : a ≤ b) (hb : b < 256) (wa : wrB a = true) (wb : wrB b = true) (h : tl s k = rgF (a, b) ++ r) (hr : headN r ≠ 45) :
    spanS s ⟨k, 0⟩ = ([(a, b)], ⟨k + (rgF (a, b)).length, 0⟩) := by
  unfold rgF at h ⊢
  simp only at h ⊢
  by_cases he : b = a
  · subst he
    rw [if_pos rfl, List.append_nil] at h ⊢
    have h1 := item_trip wa hb h
    unfold spanS
    simp only [h1]
    rw [if_neg]
    rintro ⟨-, h2⟩
    rw [peek_head, tl_add h] at h2
    exact hr h2
  · rw [if_neg he] at h ⊢
    rw [List.append_assoc] at h
    have h1 := item_trip wa (by omega) h
    have h2 := tl_add h
    have h3 : tl s (k + (itemF a).length + 1) = itemF b ++ r := tl_one h2
    have h4 := item_trip wb hb h3
    unfold spanS
    simp only [h1, next_eq, h4]
    rw [if_pos ⟨by simp [singleR], by rw [peek_head, h2]; rfl⟩, if_pos (by simp [singleR]), if_neg (by simp [loR]; omega)]
    simp only [loR, List.length_append, List.length_cons]
    congr 2
    omega

def WrOk (rs : List (Nat × Nat)) : Prop := ∀ x ∈ rs, x.1 ≤ x.2 ∧ x.2 < 256 ∧ wrB x.1 = true ∧ wrB x.2 = true
theorem addS_nil (f : Nat → Bool) : addS f [] = f := by funext c; simp [addS]
theorem addS_cons (f : Nat → Bool) (x : Nat × Nat) (rs : List (Nat × Nat)) : addS (addS f [x]) rs = addS f (x :: rs) := by
  funext c; simp [addS, Bool.or_assoc]
theorem flat_head {rs : List (Nat × Nat)} (hw : WrOk rs) (r : List UInt8) : headN (rs.flatMap rgF ++ 93 :: r) ≠ 45 ∧ headN (rs.flatMap rgF ++ 93 :: r) ≠ 94 ∧ (rs ≠ [] → headN (rs.flatMap rgF ++ 93 :: r) ≠ 93) := by
  cases rs with
  | nil => exact ⟨by simp [headN], by simp [headN], fun h => absurd rfl h⟩
  | cons x rs =>
    have hx := hw x (List.mem_cons_self ..)
    obtain ⟨d, l, h1, h2⟩ := rg_head x.1 x.2 hx.2.2.1 (by omega)
    have : (x :: rs).flatMap rgF ++ 93 :: r = d :: (l ++ (rs.flatMap rgF ++ 93 :: r)) := by
      rw [List.flatMap_cons, h1]; simp
    rw [this]
    exact ⟨h2.1, h2.2.2, fun _ => h2.2.1⟩
theorem loop_trip (s : ByteArray) : ∀ (rs : List (Nat × Nat)) (k n : Nat) (r : List UInt8) (f : Nat → Bool), rs.length < n → WrOk rs → tl s k = rs.flatMap rgF ++ 93 :: r →
    brLoop s n ⟨k, 0⟩ f = (addS f rs, ⟨k + (rs.flatMap rgF).length + 1, 0⟩)
  | rs, k, 0, r, f, hn, _, _ => by omega
  | [], k, n + 1, r, f, _, _, h => by
    have hh : headN (tl s k) = 93 := by rw [h]; rfl
    unfold brLoop
    rw [if_neg (by rw [peek_head, hh]; simp), take_is hh, addS_nil]
    rfl
  | x :: rs, k, n + 1, r, f, hn, hw, h => by
    have hx := hw x (List.mem_cons_self ..)
    have hw' : WrOk rs := fun y hy => hw y (List.mem_cons_of_mem _ hy)
    have hne := (flat_head hw r).2.2 (by simp)
    have h' : tl s k = rgF (x.1, x.2) ++ (rs.flatMap rgF ++ 93 :: r) := by rw [h, List.flatMap_cons]; simp
    have h1 := rg_trip hx.1 hx.2.1 hx.2.2.1 hx.2.2.2 h' (flat_head hw' r).1
    have h2 := loop_trip s rs (k + (rgF (x.1, x.2)).length) n r (addS f [x]) (by simp at hn; omega) hw' (tl_add h')
    unfold brLoop
    rw [if_pos ⟨rfl, by rw [peek_head, h]; exact hne⟩, h1]
    show brLoop s n ⟨k + (rgF (x.1, x.2)).length, 0⟩ (addS f [x]) = _
    rw [h2, addS_cons, List.flatMap_cons, List.length_append]
    congr 2
    show _ = k + ((rgF (x.1, x.2)).length + _) + 1
    omega
theorem flat_len : ∀ (rs : List (Nat × Nat)), rs.length ≤ (rs.flatMap rgF).length
  | [] => by simp
  | x :: rs => by
    have := flat_len rs
    have h1 : 0 < (rgF x).length := by
      unfold rgF itemF
      rw [List.length_append]
      split <;> (try split) <;> (try split) <;> simp <;> omega
    rw [List.flatMap_cons, List.length_append, List.length_cons]
    omega
theorem set_trip {s : ByteArray} {k : Nat} {rs : List (Nat × Nat)} {r : List UInt8} (hw : WrOk rs) (h0 : rs ≠ []) (h : tl s k = rs.flatMap rgF ++ 93 :: r) :
    brLoop s (s.size + 2) (spanS s ⟨k, 0⟩).2 (addS (fun _ => false) (spanS s ⟨k, 0⟩).1) = (addS (fun _ => false) rs, ⟨k + (rs.flatMap rgF).length + 1, 0⟩) := by
  cases rs with
  | nil => exact absurd rfl h0
  | cons x rs =>
    have hfit := tl_fit h
    have hlen := flat_len (x :: rs)
    have hx := hw x (List.mem_cons_self ..)
    have hw' : WrOk rs := fun y hy => hw y (List.mem_cons_of_mem _ hy)
    have h' : tl s k = rgF (x.1, x.2) ++ (rs.flatMap rgF ++ 93 :: r) := by rw [h, List.flatMap_cons]; simp
    have h1 := rg_trip hx.1 hx.2.1 hx.2.2.1 hx.2.2.2 h' (flat_head hw' r).1
    rw [h1]
    have h2 := loop_trip s rs (k + (rgF (x.1, x.2)).length) (s.size + 2) r (addS (fun _ => false) [x]) (by rw [List.length_cons] at hlen; omega) hw' (tl_add h')
    show brLoop s (s.size + 2) ⟨k + (rgF (x.1, x.2)).length, 0⟩ (addS (fun _ => false) [x]) = _
    rw [h2, addS_cons, List.flatMap_cons, List.length_append]
    congr 2
    show _ = k + ((rgF (x.1, x.2)).length + _) + 1
    omega
theorem pos_trip {s : ByteArray} {k : Nat} {rs : List (Nat × Nat)} {r : List UInt8} (hw : WrOk rs) (h0 : rs ≠ []) (h : tl s k = rs.flatMap rgF ++ 93 :: r) :
    bracketS s ⟨k, 0⟩ = (ndClass (rangesS (addS (fun _ => false) rs)), ⟨k + (rs.flatMap rgF).length + 1, 0⟩) := by
  have hh : headN (tl s k) ≠ 94 := by rw [h]; exact (flat_head hw r).2.1
  unfold bracketS brSet
  rw [take_not hh, set_trip hw h0 h, peek_head, if_neg hh]
theorem neg_trip {s : ByteArray} {k : Nat} {rs : List (Nat × Nat)} {r : List UInt8} (hw : WrOk rs) (h0 : rs ≠ []) (h : tl s k = 94 :: (rs.flatMap rgF ++ 93 :: r)) :
    bracketS s ⟨k, 0⟩ = (ndClass (rangesS fun c => !(addS (fun _ => false) rs c)), ⟨k + (rs.flatMap rgF).length + 2, 0⟩) := by
  have hh : headN (tl s k) = 94 := by rw [h]; rfl
  unfold bracketS brSet
  rw [take_is hh, set_trip hw h0 (tl_one h), peek_head, if_pos hh]
  simp only [Prod.mk.injEq, PS.mk.injEq, and_true, true_and]
  omega
theorem wrOk_of {rs : List (Nat × Nat)} (hs : sepFrom 0 rs = true) (hb : ∀ x ∈ rs, x.1 < 256 ∧ x.2 < 256) (hw : wrR rs = true) : WrOk rs := fun x hx => by
  have h1 := sep_ge _ _ hs x hx
  have h2 := hb x hx
  unfold wrR at hw
  have h3 := List.all_eq_true.1 hw x hx
  simp only [Bool.and_eq_true] at h3
  exact ⟨h1.2, h2.2, h3.1, h3.2⟩
/-- A class's source is read back. -/
theorem class_trip {s : ByteArray} {k : Nat} {rs : List (Nat × Nat)} {r : List UInt8} (hs : sepN rs = true) (hb : ∀ x ∈ rs, x.1 < 256 ∧ x.2 < 256) (he : badR rs = false) (h : tl s k = classF rs ++ r) :
    headN (tl s k) = 91 ∧ bracketS s ⟨k + 1, 0⟩ = (ndClass rs, ⟨k + (classF rs).length, 0⟩) := by
  simp only [sepN, Bool.and_eq_true, decide_eq_true_eq] at hs
  unfold classF at h ⊢
  by_cases hw : wrR rs = true
  · rw [if_pos hw] at h ⊢
    have h' : tl s k = 91 :: (rs.flatMap rgF ++ 93 :: r) := by rw [h]; simp [brF]
    refine ⟨by rw [h']; rfl, ?_⟩
    rw [pos_trip (wrOk_of hs.1 hb hw) (by intro e; rw [e] at hs; exact absurd hs.2 (by decide)) (tl_one h'), back_self rs hs.1 hb]
    simp only [brF, List.length_append, List.length_cons, List.length_nil, Prod.mk.injEq, PS.mk.injEq, and_true, true_and]
    omega
  · rw [if_neg hw, if_neg (by rw [he]; decide)] at h ⊢
    have he' : ¬ (othersR rs).length = 0 ∧ wrR (othersR rs) = true := by
      unfold badR at he
      have hw' : wrR rs = false := by simpa using hw
      rw [hw'] at he
      simpa using he
    have h' : tl s k = 91 :: 94 :: ((othersR rs).flatMap rgF ++ 93 :: r) := by rw [h]; simp [brF]
    refine ⟨by rw [h']; rfl, ?_⟩
    rw [neg_trip (rs := othersR rs) (wrOk_of (rs := othersR rs) (ranges_sep _) (rangesTo_lt (fun c => !(addS (fun _ => false) rs c)) 256 (Nat.le_refl _)) he'.2) (by intro e; exact he'.1 (by rw [e]; rfl)) (tl_one h'), others_back rs hs.1 hb]
    simp only [brF, List.length_append, List.length_cons, List.length_nil, Prod.mk.injEq, PS.mk.injEq, and_true, true_and]
    omega

theorem rest_tl (s : ByteArray) (k : Nat) : (s.extract k s.size).data.toList = tl s k := by
  rw [extract_list, List.take_of_length_le (by rw [sizeB]; exact Nat.le_refl _)]; rfl
theorem name_take (l : List UInt8) (m : Nat) (h : letB (headN l) = false) : nameN (l.take m) = false := by
  cases m with
  | zero => rfl
  | succ m =>
    cases l with
    | nil => rfl
    | cons c r =>
      simp only [List.take_succ_cons, nameN]
      have : letB c.toNat = false := h
      simp [this]
theorem cap_none {s : ByteArray} {k : Nat} (h : letB (headN (tl s k)) = false) : capS s ⟨k, 0⟩ = none := by
  unfold capS
  simp only [rest_tl]
  split
  · rfl
  · rw [if_neg (by rw [name_take _ _ h]; decide)]
theorem index_at : ∀ (l r : List UInt8), (∀ c ∈ l, c ≠ 58) → Lib.indexByte (l ++ 58 :: r) 58 = (l.length : Int)
  | [], r, _ => by simp [Lib.indexByte]
  | c :: l, r, h => by
    have h1 := index_at l r fun x hx => h x (List.mem_cons_of_mem _ hx)
    have h2 : (c == 58) = false := by simpa using h c (List.mem_cons_self ..)
    show Lib.indexByte (c :: (l ++ 58 :: r)) 58 = _
    unfold Lib.indexByte
    rw [h2, h1]
    have h3 : ((l.length : Int) == -1) = false := by rw [beq_eq_false_iff_ne]; omega
    rw [h3]
    simp
theorem name_word {l : List UInt8} (h : nameN l = true) : (∀ c ∈ l, c ≠ 58) ∧ l ≠ [] := by
  cases l with
  | nil => exact absurd h (by decide)
  | cons c r =>
    simp only [nameN, Bool.and_eq_true] at h
    refine ⟨fun x hx e => ?_, by simp⟩
    have := List.all_eq_true.1 h.2 x hx
    rw [e] at this
    exact absurd this (by decide)
theorem cap_some {s : ByteArray} {k : Nat} {l r : List UInt8} (h : tl s k = l ++ 58 :: r) (hn : nameN l = true) : capS s ⟨k, 0⟩ = some l.length := by
  unfold capS
  simp only [rest_tl]
  rw [h, index_at l r (name_word hn).1]
  rw [if_neg (by omega)]
  simp only [Int.toNat_natCast]
  rw [List.take_left, if_pos hn]

theorem dec_small (a : Nat) (h : a ≤ 40) : Lib.itoa (a : Int) = if a < 10 then [UInt8.ofNat (48 + a)] else [UInt8.ofNat (48 + a / 10), UInt8.ofNat (48 + a % 10)] := by
  unfold Lib.itoa
  rw [if_neg (by omega), Int.toNat_natCast]
  by_cases h1 : a < 10
  · rw [if_pos h1]; unfold Lib.decDigits; rw [dif_pos h1]
  · rw [if_neg h1]; unfold Lib.decDigits; rw [dif_neg h1]
    unfold Lib.decDigits; rw [dif_pos (by omega)]; rfl
theorem take_drop_tl {s : ByteArray} {k : Nat} {l r : List UInt8} (h : tl s k = l ++ r) : (s.extract k (k + l.length)).data.toList = l := by
  rw [extract_list, List.drop_take]
  show List.take (k + l.length - k) (tl s k) = l
  rw [h, Nat.add_sub_cancel_left, List.take_left]
theorem bound_trip {s : ByteArray} {k a : Nat} {r : List UInt8} (ha : a ≤ 40) (h : tl s k = Lib.itoa (a : Int) ++ r) (hr : digB (headN r) = false) :
    boundS s ⟨k, 0⟩ = ((a : Int), ⟨k + (Lib.itoa (a : Int)).length, 0⟩) := by
  have hx := take_drop_tl h
  have hd : digitsS s ⟨k, 0⟩ = (Lib.itoa (a : Int)).length := by
    unfold digitsS
    rw [next_eq, peek_head, peek_head]
    rw [dec_small a ha] at h ⊢
    by_cases h1 : a < 10
    · rw [if_pos h1] at h ⊢
      have e1 : headN (tl s k) = 48 + a := by rw [h]; exact ofN _ (by omega)
      have e2 : tl s (k + 1) = r := tl_one h
      rw [e1, e2, hr]
      simp [digB]; omega
    · rw [if_neg h1] at h ⊢
      have e1 : headN (tl s k) = 48 + a / 10 := by rw [h]; exact ofN _ (by omega)
      have e2 : headN (tl s (k + 1)) = 48 + a % 10 := by rw [tl_one h]; exact ofN _ (by omega)
      rw [e1, e2]
      have f1 : digB (48 + a / 10) = true := by simp only [digB, decide_eq_true_eq]; omega
      have f2 : digB (48 + a % 10) = true := by simp only [digB, decide_eq_true_eq]; omega
      rw [f1, f2]; rfl
  have hv : valD (Lib.itoa (a : Int)) = a := by
    rw [dec_small a ha]
    by_cases h1 : a < 10
    · rw [if_pos h1]; simp only [valD, List.foldl]; rw [ofN _ (by omega)]; omega
    · rw [if_neg h1]; simp only [valD, List.foldl]; rw [ofN _ (by omega), ofN _ (by omega)]; omega
  have hl : (Lib.itoa (a : Int)).length ≠ 0 := by rw [dec_small a ha]; split <;> simp
  unfold boundS
  rw [hd, if_neg hl]
  simp only [hx, hv]
  rw [if_neg (by omega)]
end Go.Proofs.YtbadhhfnbgaamaaDoor

namespace Go.Proofs.YtbadhhfnbgaamaaDoor

theorem bounds_cases {a b : Int} (h : boundsB a b = true) : ∃ x : Nat, x ≤ 40 ∧ a = (x : Int) ∧ (b = -1 ∨ ∃ y : Nat, y ≤ 40 ∧ x ≤ y ∧ b = (y : Int)) := by
  unfold boundsB at h
  by_cases h1 : a < 0 ∨ 40 < a
  · rw [if_pos h1] at h; cases h
  rw [if_neg h1] at h
  simp only [decide_eq_true_eq] at h
  refine ⟨a.toNat, by omega, by omega, ?_⟩
  rcases h with h | h
  · exact .inl h
  · exact .inr ⟨b.toNat, by omega, by omega, by omega⟩
theorem bounds_trip {s : ByteArray} {k : Nat} {a b : Int} {r : List UInt8} (hb : boundsB a b = true) (h : tl s k = boundsF a b ++ r) :
    headN (tl s k) = 123 ∧ boundsS s ⟨k + 1, 0⟩ = ((a, b), ⟨k + (boundsF a b).length, 0⟩) := by
  obtain ⟨x, hx, rfl, hy⟩ := bounds_cases hb
  unfold boundsF at h ⊢
  rcases hy with rfl | ⟨y, hy, hxy, rfl⟩
  · have hne : ((-1 : Int) = (x : Int)) = False := by simp only [eq_iff_iff, iff_false]; omega
    simp only [hne, if_false, ne_eq, not_true_eq_false, and_false, List.nil_append] at h ⊢
    have h' : tl s k = 123 :: (Lib.itoa (x : Int) ++ (44 :: (125 :: r))) := by rw [h]; simp
    refine ⟨by rw [h']; rfl, ?_⟩
    have h1 := bound_trip hx (tl_one h') rfl
    have h2 := tl_add (tl_one h')
    unfold boundsS
    simp only [h1, next_eq]
    have e1 : peekS s ⟨k + 1 + (Lib.itoa (x : Int)).length, 0⟩ = 44 := by rw [peek_head, h2]; rfl
    have e2 : tl s (k + 1 + (Lib.itoa (x : Int)).length + 1) = 125 :: r := tl_one h2
    have e3 : digB (peekS s ⟨k + 1 + (Lib.itoa (x : Int)).length + 1, 0⟩) = false := by rw [peek_head, e2]; rfl
    rw [if_pos e1, e3, expect_is (by rw [e2]; rfl)]
    simp only [List.length_append, List.length_cons, List.length_nil, Prod.mk.injEq, PS.mk.injEq, and_true, true_and, Bool.false_eq_true, if_false]
    omega
  · by_cases he : y = x
    · subst he
      simp only [if_true, ne_eq, not_true_eq_false, false_and, if_false, List.nil_append] at h ⊢
      have h' : tl s k = 123 :: (Lib.itoa (y : Int) ++ (125 :: r)) := by rw [h]; simp
      refine ⟨by rw [h']; rfl, ?_⟩
      have h1 := bound_trip hx (tl_one h') rfl
      have h2 := tl_add (tl_one h')
      unfold boundsS
      simp only [h1]
      have e1 : headN (tl s (k + 1 + (Lib.itoa (y : Int)).length)) = 125 := by rw [h2]; rfl
      rw [if_neg (by rw [peek_head, e1]; decide), expect_is e1]
      simp only [List.length_append, List.length_cons, List.length_nil, Prod.mk.injEq, PS.mk.injEq, and_true, true_and]
      omega
    · have hne : ((y : Int) = (x : Int)) = False := by simp only [eq_iff_iff, iff_false]; omega
      have hn1 : ((y : Int) = -1) = False := by simp only [eq_iff_iff, iff_false]; omega
      simp only [hne, hn1, if_false, ne_eq, not_false_eq_true, and_self, if_true] at h ⊢
      have h' : tl s k = 123 :: (Lib.itoa (x : Int) ++ (44 :: (Lib.itoa (y : Int) ++ (125 :: r)))) := by rw [h]; simp
      refine ⟨by rw [h']; rfl, ?_⟩
      have h1 := bound_trip hx (tl_one h') rfl
      have h2 := tl_add (tl_one h')
      have h3 : tl s (k + 1 + (Lib.itoa (x : Int)).length + 1) = Lib.itoa (y : Int) ++ (125 :: r) := tl_one h2
      have h4 := bound_trip hy h3 rfl
      have h5 := tl_add h3
      have e1 : peekS s ⟨k + 1 + (Lib.itoa (x : Int)).length, 0⟩ = 44 := by rw [peek_head, h2]; rfl
      have e3 : digB (peekS s ⟨k + 1 + (Lib.itoa (x : Int)).length + 1, 0⟩) = true := by
        rw [peek_head, h3, dec_small y hy]
        by_cases h10 : y < 10
        · rw [if_pos h10]; simp only [List.cons_append, headN]; rw [ofN _ (by omega)]; simp [digB]; omega
        · rw [if_neg h10]; simp only [List.cons_append, headN]; rw [ofN _ (by omega)]; simp [digB]; omega
      unfold boundsS
      simp only [h1, next_eq]
      rw [if_pos e1, if_pos e3]
      simp only [h4]
      rw [if_neg (by omega), expect_is (by rw [h5]; rfl)]
      simp only [List.length_append, List.length_cons, List.length_nil, Prod.mk.injEq, PS.mk.injEq, and_true, true_and]
      omega

def notQ (c : Nat) : Prop := c ≠ 42 ∧ c ≠ 43 ∧ c ≠ 63 ∧ c ≠ 123
def Head (l : List UInt8) : Prop := ∃ c r, l = c :: r ∧ (c = 40 ∨ c = 91 ∨ c = 94 ∨ c = 36)
theorem Head.app {l : List UInt8} (h : Head l) (r : List UInt8) : Head (l ++ r) := by
  obtain ⟨c, q, rfl, hc⟩ := h; exact ⟨c, q ++ r, rfl, hc⟩
theorem Head.facts {l : List UInt8} (h : Head l) : notQ (headN l) ∧ endsCat (headN l) = false ∧ letB (headN l) = false ∧ headN l ≠ 124 ∧ 0 < l.length := by
  obtain ⟨c, q, rfl, hc⟩ := h
  have e : headN (c :: q) = c.toNat := rfl
  rw [e]
  unfold notQ
  rcases hc with rfl | rfl | rfl | rfl <;> exact ⟨⟨by decide, by decide, by decide, by decide⟩, by decide, by decide, by decide, by simp⟩
theorem ends_facts {c : Nat} (h : endsCat c = true) : notQ c := by
  simp only [endsCat, Bool.or_eq_true, beq_iff_eq] at h
  refine ⟨?_, ?_, ?_, ?_⟩ <;> omega

abbrev chF (s : ByteArray) (n : Nat) : PS → Nd × PS := choiceF s (bracketS s) n
def AtomOk (l : List UInt8) (t : Nd) : Prop := ∀ (s : ByteArray) (k n : Nat) (r : List UInt8), tl s k = l ++ r → s.size - k ≤ n → atomS s (chF s n) (bracketS s) ⟨k, 0⟩ = (t, ⟨k + l.length, 0⟩)
def RepOk (l : List UInt8) (t : Nd) : Prop := ∀ (s : ByteArray) (k n : Nat) (r : List UInt8), tl s k = l ++ r → s.size - k ≤ n → notQ (headN r) → repeatS s (chF s n) (bracketS s) ⟨k, 0⟩ = (t, ⟨k + l.length, 0⟩)
def CatOk (l : List UInt8) (t : Nd) : Prop := ∀ (s : ByteArray) (k n : Nat) (r : List UInt8), tl s k = l ++ r → s.size - k ≤ n → endsCat (headN r) = true → concatS s (chF s n) (bracketS s) ⟨k, 0⟩ = (t, ⟨k + l.length, 0⟩)
def ChoOk (l : List UInt8) (t : Nd) : Prop := ∀ (s : ByteArray) (k n : Nat) (r : List UInt8), tl s k = l ++ r → s.size - k ≤ n → (headN r = 0 ∨ headN r = 41) → choiceS s (chF s n) (bracketS s) ⟨k, 0⟩ = (t, ⟨k + l.length, 0⟩)

theorem AtomOk.rep {l : List UInt8} {t : Nd} (h : AtomOk l t) : RepOk l t := fun s k n r hl hn hq => by
  have h1 := h s k n r hl hn
  have h2 := tl_add hl
  have e : peekS s ⟨k + l.length, 0⟩ = headN r := by rw [peek_head, h2]
  unfold repeatS
  simp only [h1]
  rw [e, if_neg hq.1, if_neg hq.2.1, if_neg hq.2.2.1, if_neg hq.2.2.2]
theorem AtomOk.bounds {l : List UInt8} {t : Nd} {a b : Int} (h : AtomOk l t) (hb : boundsB a b = true) : RepOk (l ++ boundsF a b) (ndRep t a b) := fun s k n r hl hn hq => by
  rw [List.append_assoc] at hl
  have h1 := h s k n _ hl hn
  have h2 := tl_add hl
  obtain ⟨h3, h4⟩ := bounds_trip hb h2
  have e : peekS s ⟨k + l.length, 0⟩ = 123 := by rw [peek_head, h3]
  unfold repeatS
  simp only [h1, next_eq, h4]
  rw [e, if_neg (by decide), if_neg (by decide), if_neg (by decide), if_pos rfl, List.length_append]
  simp only [Prod.mk.injEq, PS.mk.injEq, and_true, true_and]
  omega
/-- Sequences. -/
def Pieces (R : List UInt8 → Nd → Prop) : List (List UInt8) → List Nd → Prop
  | [], [] => True
  | l :: ls, t :: ts => R l t ∧ Head l ∧ Pieces R ls ts
  | _, _ => False
theorem flatten_head (ls : List (List UInt8)) (r : List UInt8) (h : ∀ l ∈ ls, Head l) (hr : endsCat (headN r) = true) : notQ (headN (ls.flatten ++ r)) := by
  cases ls with
  | nil => exact ends_facts hr
  | cons l ls =>
    rw [List.flatten_cons, List.append_assoc]
    exact ((h l (List.mem_cons_self ..)).app _).facts.1
theorem Pieces.heads {R : List UInt8 → Nd → Prop} : ∀ (ls : List (List UInt8)) (ts : List Nd), Pieces R ls ts → ∀ l ∈ ls, Head l
  | [], _, _, l, hl => by cases hl
  | x :: ls, [], h, _, _ => by unfold Pieces at h; exact h.elim
  | x :: ls, t :: ts, h, l, hl => by
    unfold Pieces at h
    rcases List.mem_cons.1 hl with rfl | hl
    · exact h.2.1
    · exact Pieces.heads ls ts h.2.2 l hl
theorem cat_loop (s : ByteArray) (n : Nat) : ∀ (ls : List (List UInt8)) (ts : List Nd) (k m : Nat) (r : List UInt8) (acc : List Nd), Pieces RepOk ls ts → tl s k = ls.flatten ++ r → s.size - k ≤ n → ls.length < m → endsCat (headN r) = true →
    catLoop s (chF s n) (bracketS s) m ⟨k, 0⟩ acc = (acc ++ ts, ⟨k + ls.flatten.length, 0⟩)
  | _, _, _, 0, _, _, _, _, _, hm, _ => by omega
  | [], [], k, m + 1, r, acc, _, hl, hn, _, hr => by
    unfold catLoop
    have e : peekS s ⟨k, 0⟩ = headN r := by rw [peek_head, hl]; rfl
    rw [e, if_pos hr, List.append_nil]
    rfl
  | [], t :: ts, _, _, _, _, h, _, _, _, _ => by unfold Pieces at h; exact h.elim
  | l :: ls, [], _, _, _, _, h, _, _, _, _ => by unfold Pieces at h; exact h.elim
  | l :: ls, t :: ts, k, m + 1, r, acc, h, hl, hn, hm, hr => by
    have h' := h
    unfold Pieces at h
    obtain ⟨h1, h2, h3⟩ := h
    rw [List.flatten_cons, List.append_assoc] at hl
    have e : peekS s ⟨k, 0⟩ = headN (l ++ (ls.flatten ++ r)) := by rw [peek_head, hl]
    have h4 := h1 s k n _ hl hn (flatten_head ls r (Pieces.heads ls ts h3) hr)
    have h5 := cat_loop s n ls ts (k + l.length) m r (acc ++ [t]) h3 (tl_add hl) (by omega) (by simp at hm; omega) hr
    unfold catLoop
    rw [e, if_neg (by rw [(h2.app _).facts.2.1]; decide), h4]
    show catLoop s (chF s n) (bracketS s) m ⟨k + l.length, 0⟩ (acc ++ [t]) = _
    rw [h5, List.flatten_cons, List.length_append, List.append_assoc]
    simp only [Prod.mk.injEq, PS.mk.injEq, and_true, List.singleton_append, true_and]
    omega
theorem flatten_len : ∀ (ls : List (List UInt8)), (∀ l ∈ ls, Head l) → ls.length ≤ ls.flatten.length
  | [], _ => by simp
  | l :: ls, h => by
    have h1 := flatten_len ls fun x hx => h x (List.mem_cons_of_mem _ hx)
    have h2 := (h l (List.mem_cons_self ..)).facts.2.2.2.2
    rw [List.flatten_cons, List.length_append, List.length_cons]
    omega
theorem cat_pieces {ls : List (List UInt8)} {ts : List Nd} (h : Pieces RepOk ls ts) : CatOk ls.flatten (catOf ts) := fun s k n r hl hn hr => by
  have h1 := flatten_len ls (Pieces.heads ls ts h)
  have h2 := tl_fit hl
  have h3 := cat_loop s n ls ts k (s.size + 2) r [] h hl hn (by omega) hr
  unfold concatS
  rw [h3]
  rfl
theorem RepOk.cat {l : List UInt8} {t : Nd} (h : RepOk l t) (hh : Head l) : CatOk l t := by
  have := cat_pieces (ls := [l]) (ts := [t]) ⟨h, hh, trivial⟩
  simpa [catOf] using this
/-- Choices. -/
def chJoin : List (List UInt8) → List UInt8
  | [] => []
  | l :: ls => 124 :: l ++ chJoin ls
theorem cho_loop (s : ByteArray) (n : Nat) : ∀ (ls : List (List UInt8)) (ts : List Nd) (k m : Nat) (r : List UInt8) (acc : List Nd), Pieces CatOk ls ts → tl s k = chJoin ls ++ r → s.size - k ≤ n → ls.length < m → (headN r = 0 ∨ headN r = 41) →
    chLoop s (chF s n) (bracketS s) m ⟨k, 0⟩ acc = (acc ++ ts, ⟨k + (chJoin ls).length, 0⟩)
  | _, _, _, 0, _, _, _, _, _, hm, _ => by omega
  | [], [], k, m + 1, r, acc, _, hl, hn, _, hr => by
    unfold chLoop
    have e : peekS s ⟨k, 0⟩ = headN r := by rw [peek_head, hl]; rfl
    rw [e, if_neg (by omega), List.append_nil]
    rfl
  | [], t :: ts, _, _, _, _, h, _, _, _, _ => by unfold Pieces at h; exact h.elim
  | l :: ls, [], _, _, _, _, h, _, _, _, _ => by unfold Pieces at h; exact h.elim
  | l :: ls, t :: ts, k, m + 1, r, acc, h, hl, hn, hm, hr => by
    unfold Pieces at h
    obtain ⟨h1, h2, h3⟩ := h
    have hl' : tl s k = 124 :: (l ++ (chJoin ls ++ r)) := by rw [hl]; simp [chJoin]
    have e : peekS s ⟨k, 0⟩ = 124 := by rw [peek_head, hl']; rfl
    have he : endsCat (headN (chJoin ls ++ r)) = true := by
      cases ls with
      | nil => rcases hr with hr | hr <;> (show endsCat (headN r) = true; rw [hr]; decide)
      | cons x xs => show endsCat 124 = true; decide
    have h4 := h1 s (k + 1) n _ (tl_one hl') (by omega) he
    have h5 := cho_loop s n ls ts (k + 1 + l.length) m r (acc ++ [t]) h3 (tl_add (tl_one hl')) (by omega) (by simp at hm; omega) hr
    unfold chLoop
    rw [e, if_pos rfl, next_eq, h4]
    show chLoop s (chF s n) (bracketS s) m ⟨k + 1 + l.length, 0⟩ (acc ++ [t]) = _
    rw [h5]
    simp only [chJoin, List.length_append, List.length_cons, Prod.mk.injEq, PS.mk.injEq, and_true, List.append_assoc, List.singleton_append, true_and]
    omega
theorem chJoin_len : ∀ (ls : List (List UInt8)), ls.length ≤ (chJoin ls).length
  | [] => by simp
  | l :: ls => by
    have := chJoin_len ls
    simp only [chJoin, List.length_append, List.length_cons]
    omega
theorem cho_pieces {l : List UInt8} {t : Nd} {ls : List (List UInt8)} {ts : List Nd} (h0 : CatOk l t) (h : Pieces CatOk ls ts) : ChoOk (l ++ chJoin ls) (chOf (t :: ts)) := fun s k n r hl hn hr => by
  rw [List.append_assoc] at hl
  have he : endsCat (headN (chJoin ls ++ r)) = true := by
    cases ls with
    | nil => rcases hr with hr | hr <;> (show endsCat (headN r) = true; rw [hr]; decide)
    | cons x xs => show endsCat 124 = true; decide
  have h1 := h0 s k n _ hl hn he
  have h2 := tl_fit (tl_add hl)
  have h3 := chJoin_len ls
  have h4 := cho_loop s n ls ts (k + l.length) (s.size + 2) r [t] h (tl_add hl) (by omega) (by omega) hr
  unfold choiceS
  simp only [h1, h4]
  simp only [List.length_append, List.singleton_append, Prod.mk.injEq, PS.mk.injEq, and_true, true_and]
  omega
theorem CatOk.cho {l : List UInt8} {t : Nd} (h : CatOk l t) : ChoOk l t := by
  have := cho_pieces (ls := []) (ts := []) h trivial
  simpa [chJoin, chOf] using this
/-- What is in parentheses. -/
theorem paren_none {s : ByteArray} {k n : Nat} {l r : List UInt8} {t : Nd} (h : ChoOk l t) (hh : letB (headN (l ++ 41 :: r)) = false) (hl : tl s k = 40 :: (l ++ 41 :: r)) (hn : s.size - k ≤ n) :
    atomS s (chF s n) (bracketS s) ⟨k, 0⟩ = (t, ⟨k + l.length + 2, 0⟩) := by
  have hk := tl_lt hl
  obtain ⟨m, rfl⟩ : ∃ m, n = m + 1 := ⟨n - 1, by omega⟩
  have e : peekS s ⟨k, 0⟩ = 40 := by rw [peek_head, hl]; rfl
  have h1 := tl_one hl
  have h2 : chF s (m + 1) ⟨k + 1, 0⟩ = (t, ⟨k + 1 + l.length, 0⟩) := h s (k + 1) m _ h1 (by omega) (.inr rfl)
  have h3 : headN (tl s (k + 1 + l.length)) = 41 := by rw [tl_add h1]; rfl
  unfold atomS
  rw [e, if_neg (by decide), if_pos rfl, next_eq]
  unfold parenS
  rw [cap_none (by rw [h1]; exact hh)]
  simp only [h2]
  rw [expect_is h3]
  simp only [Prod.mk.injEq, PS.mk.injEq, and_true, true_and]
  omega
theorem ChoOk.group {l : List UInt8} {t : Nd} (h : ChoOk l t) (hh : Head l) : AtomOk (40 :: l ++ [41]) t := fun s k n r hl hn => by
  have hl' : tl s k = 40 :: (l ++ 41 :: r) := by rw [hl]; simp
  rw [paren_none h (hh.app _).facts.2.2.1 hl' hn]
  simp
  omega
theorem paren_some {s : ByteArray} {k n : Nat} {nm l r : List UInt8} {t : Nd} (h : ChoOk l t) (hm : nameN nm = true) (hl : tl s k = 40 :: (nm ++ 58 :: (l ++ 41 :: r))) (hn : s.size - k ≤ n) :
    atomS s (chF s n) (bracketS s) ⟨k, 0⟩ = (ndCap ⟨nm.toArray⟩ t, ⟨k + nm.length + l.length + 3, 0⟩) := by
  have hk := tl_lt hl
  obtain ⟨m, rfl⟩ : ∃ m, n = m + 1 := ⟨n - 1, by omega⟩
  have e : peekS s ⟨k, 0⟩ = 40 := by rw [peek_head, hl]; rfl
  have h1 := tl_one hl
  have h4 : tl s (k + 1 + nm.length + 1) = l ++ 41 :: r := tl_one (tl_add h1)
  have h2 : chF s (m + 1) ⟨k + 1 + nm.length + 1, 0⟩ = (t, ⟨k + 1 + nm.length + 1 + l.length, 0⟩) := h s _ m _ h4 (by omega) (.inr rfl)
  have h3 : headN (tl s (k + 1 + nm.length + 1 + l.length)) = 41 := by rw [tl_add h4]; rfl
  have hx : s.extract (k + 1) (k + 1 + nm.length) = ⟨nm.toArray⟩ := by
    apply bext
    rw [take_drop_tl h1]
  unfold atomS
  rw [e, if_neg (by decide), if_pos rfl, next_eq]
  unfold parenS
  rw [cap_some h1 hm]
  simp only [h2, hx]
  rw [expect_is h3]
  simp only [Prod.mk.injEq, PS.mk.injEq, and_true, true_and]
  omega
end Go.Proofs.YtbadhhfnbgaamaaDoor

namespace Go.Proofs.YtbadhhfnbgaamaaDoor

theorem nmE_eq {n : ByteArray} (h : nmE n = true) : n = noName := by
  unfold nmE at h
  rw [ByteArray.toList_eq] at h
  apply bext
  have : n.data.toList = [] := by simpa using h
  rw [this]; rfl
structure NodeOk (op : Int) (rs : List (Nat × Nat)) (nm : ByteArray) (kids : List Nd) (mn mx : Int) : Prop where
  rsE : op ≠ 1 → rs = []
  nmX : op ≠ 5 → nm = noName
  bd : op ≠ 4 → mn = 0 ∧ mx = 0
  leaf : op = 0 ∨ op = 1 ∨ op = 6 ∨ op = 7 → kids = []
  sep : op = 1 → sepN rs = true
  many : op = 2 ∨ op = 3 → 2 ≤ kids.length
  one : op = 4 ∨ op = 5 → ∃ k, kids = [k]
  name : op = 5 → nameN nm.data.toList = true
  bds : op = 4 → boundsB mn mx = true
  ops : op = 0 ∨ op = 1 ∨ op = 2 ∨ op = 3 ∨ op = 4 ∨ op = 5 ∨ op = 6 ∨ op = 7
theorem nodeOk_of {op : Int} {rs : List (Nat × Nat)} {nm : ByteArray} {kids : List Nd} {mn mx : Int} (h : nodeErr op rs nm kids.length mn mx = 0) : NodeOk op rs nm kids mn mx := by
  unfold nodeErr at h
  by_cases h1 : wellB op rs.length (sepN rs) (nmE nm) kids.length mn mx = false
  · rw [if_pos h1] at h; simp at h
  rw [if_neg h1] at h
  by_cases h2 : op = 5 ∧ nameN nm.data.toList = false
  · rw [if_pos h2] at h; simp at h
  rw [if_neg h2] at h
  by_cases h3 : op = 4 ∧ boundsB mn mx = false
  · rw [if_pos h3] at h; simp at h
  clear h
  unfold wellB at h1
  by_cases a1 : (op ≠ 1 ∧ 0 < rs.length) ∨ (op ≠ 5 ∧ nmE nm = false)
  · rw [if_pos a1] at h1; exact absurd rfl h1
  rw [if_neg a1] at h1
  by_cases a2 : op ≠ 4 ∧ (mn ≠ 0 ∨ mx ≠ 0)
  · rw [if_pos a2] at h1; exact absurd rfl h1
  rw [if_neg a2] at h1
  have hr : op ≠ 1 → rs = [] := fun e => by
    have : ¬ 0 < rs.length := fun h => a1 (.inl ⟨e, h⟩)
    exact List.eq_nil_of_length_eq_zero (by omega)
  have hn : op ≠ 5 → nm = noName := fun e => nmE_eq (by
    cases hx : nmE nm with
    | true => rfl
    | false => exact absurd (.inr ⟨e, hx⟩) a1)
  have hb : op ≠ 4 → mn = 0 ∧ mx = 0 := fun e => by
    have : ¬ (mn ≠ 0 ∨ mx ≠ 0) := fun h => a2 ⟨e, h⟩
    omega
  have hnm : op = 5 → nameN nm.data.toList = true := fun e => by
    cases hx : nameN nm.data.toList with
    | true => rfl
    | false => exact absurd ⟨e, hx⟩ h2
  have hbd : op = 4 → boundsB mn mx = true := fun e => by
    cases hx : boundsB mn mx with
    | true => rfl
    | false => exact absurd ⟨e, hx⟩ h3
  by_cases b1 : op = 0 ∨ op = 6 ∨ op = 7
  · rw [if_pos b1] at h1
    have h1 : kids.length = 0 := by simpa using h1
    exact ⟨hr, hn, hb, fun _ => List.eq_nil_of_length_eq_zero h1, fun e => by omega, fun e => by omega, fun e => by omega, hnm, hbd, by omega⟩
  rw [if_neg b1] at h1
  by_cases b2 : op = 1
  · rw [if_pos b2] at h1
    have h1 : kids.length = 0 ∧ sepN rs = true := by simpa using h1
    exact ⟨hr, hn, hb, fun _ => List.eq_nil_of_length_eq_zero h1.1, fun _ => h1.2, fun e => by omega, fun e => by omega, hnm, hbd, by omega⟩
  rw [if_neg b2] at h1
  by_cases b3 : op = 2 ∨ op = 3
  · rw [if_pos b3] at h1
    have h1 : 2 ≤ kids.length := by simpa using h1
    exact ⟨hr, hn, hb, fun e => by omega, fun e => by omega, fun _ => h1, fun e => by omega, hnm, hbd, by omega⟩
  rw [if_neg b3] at h1
  by_cases b4 : op = 4 ∨ op = 5
  · rw [if_pos b4] at h1
    have h1 : kids.length = 1 := by simpa using h1
    exact ⟨hr, hn, hb, fun e => by omega, fun e => by omega, fun e => by omega, fun _ => List.length_eq_one_iff.1 h1, hnm, hbd, by omega⟩
  rw [if_neg b4] at h1
  exact absurd rfl h1

/-- What a formatted node is read as, at each place. -/
structure Trip (t : Nd) : Prop where
  head : Head (fmtN t)
  atom : t.op ≠ 2 → t.op ≠ 3 → t.op ≠ 4 → AtomOk (fmtN t) t
  rep : t.op ≠ 2 → t.op ≠ 3 → RepOk (fmtN t) t
  cat : t.op ≠ 3 → CatOk (fmtN t) t
  cho : ChoOk (fmtN t) t
theorem Trip.ofAtom {t : Nd} (hh : Head (fmtN t)) (h : AtomOk (fmtN t) t) : Trip t := ⟨hh, fun _ _ _ => h, fun _ _ => h.rep, fun _ => h.rep.cat hh, (h.rep.cat hh).cho⟩
theorem Trip.ofRep {t : Nd} (hh : Head (fmtN t)) (ho : t.op = 4) (h : RepOk (fmtN t) t) : Trip t := ⟨hh, fun _ _ e => absurd ho e, fun _ _ => h, fun _ => h.cat hh, (h.cat hh).cho⟩
theorem Trip.ofCat {t : Nd} (hh : Head (fmtN t)) (ho : t.op = 2) (h : CatOk (fmtN t) t) : Trip t := ⟨hh, fun e => absurd ho e, fun e => absurd ho e, fun _ => h, h.cho⟩
theorem Trip.ofCho {t : Nd} (hh : Head (fmtN t)) (ho : t.op = 3) (h : ChoOk (fmtN t) t) : Trip t := ⟨hh, fun _ e => absurd ho e, fun _ e => absurd ho e, fun e => absurd ho e, h⟩
theorem Trip.group {t : Nd} (h : Trip t) : AtomOk (40 :: fmtN t ++ [41]) t := h.cho.group h.head

def piece (lo : List Int) (k : Nd) : List UInt8 := parF (isLoose lo k.op) (fmtN k)
theorem piece_head {t : Nd} (h : Trip t) (lo : List Int) : Head (piece lo t) := by
  unfold piece parF
  split
  · exact ⟨40, _, rfl, .inl rfl⟩
  · exact h.head
theorem piece_atom {t : Nd} (h : Trip t) : AtomOk (piece [2, 3, 4] t) t := by
  unfold piece parF
  split
  · exact h.group
  · rename_i hl
    simp [isLoose] at hl
    exact h.atom hl.1 hl.2.1 hl.2.2
theorem piece_rep {t : Nd} (h : Trip t) : RepOk (piece [2, 3] t) t := by
  unfold piece parF
  split
  · exact h.group.rep
  · rename_i hl
    simp [isLoose] at hl
    exact h.rep hl.1 hl.2
theorem piece_cat {t : Nd} (h : Trip t) : CatOk (piece [3] t) t := by
  unfold piece parF
  split
  · exact h.group.rep.cat ⟨40, _, rfl, .inl rfl⟩
  · rename_i hl
    simp [isLoose] at hl
    exact h.cat hl
theorem piece_cho {t : Nd} (h : Trip t) : ChoOk (piece [] t) t := by
  unfold piece parF
  rw [if_neg (by simp [isLoose])]
  exact h.cho
theorem pieces_of {R : List UInt8 → Nd → Prop} (lo : List Int) (hR : ∀ t, Trip t → R (piece lo t) t) : ∀ (ts : List Nd), (∀ t ∈ ts, Trip t) → Pieces R (ts.map (piece lo)) ts
  | [], _ => trivial
  | t :: ts, h => ⟨hR t (h t (List.mem_cons_self ..)), piece_head (h t (List.mem_cons_self ..)) lo, pieces_of lo hR ts fun x hx => h x (List.mem_cons_of_mem _ hx)⟩
theorem fmtL_cat (lo : List Int) : ∀ (ts : List Nd) (b : Bool), fmtL lo [] b ts = (ts.map (piece lo)).flatten
  | [], b => by unfold fmtL; rfl
  | t :: ts, b => by
    unfold fmtL
    rw [fmtL_cat lo ts false]
    cases b <;> simp [piece]
theorem fmtL_cho (lo : List Int) : ∀ (ts : List Nd), fmtL lo [124] false ts = chJoin (ts.map (piece lo))
  | [] => by unfold fmtL; rfl
  | t :: ts => by
    unfold fmtL
    rw [fmtL_cho lo ts]
    simp [piece, chJoin]
theorem errL_mem : ∀ (l : List Nd), errL l = false → ∀ k ∈ l, errN k = false
  | [], _, k, hk => by cases hk
  | x :: r, h, k, hk => by
    unfold errL at h
    simp only [Bool.or_eq_false_iff] at h
    rcases List.mem_cons.1 hk with rfl | hk
    · exact h.1
    · exact errL_mem r h.2 k hk
theorem class_head (rs : List (Nat × Nat)) (h : badR rs = false) : ∃ l, classF rs = 91 :: l := by
  unfold classF
  split
  · exact ⟨_, rfl⟩
  · rw [h]; exact ⟨_, rfl⟩
theorem trip_step (op : Int) (rs : List (Nat × Nat)) (nm : ByteArray) (kids : List Nd) (mn mx : Int) (hn : NodeOk op rs nm kids mn mx) (hb : ∀ x ∈ rs, x.1 < 256 ∧ x.2 < 256) (he : errN (.mk op rs nm kids mn mx) = false)
    (ih : ∀ k ∈ kids, Trip k) : Trip (.mk op rs nm kids mn mx) := by
  rcases hn.ops with rfl | rfl | rfl | rfl | rfl | rfl | rfl | rfl
  · obtain rfl := hn.rsE (by decide)
    obtain rfl := hn.nmX (by decide)
    obtain ⟨rfl, rfl⟩ := hn.bd (by decide)
    obtain rfl := hn.leaf (by decide)
    have hf : fmtN (.mk 0 [] noName [] 0 0) = [40, 41] := by unfold fmtN; rfl
    refine Trip.ofAtom (by rw [hf]; exact ⟨40, _, rfl, .inl rfl⟩) ?_
    rw [hf]
    intro s k n r hl hk
    have hc : CatOk [] (ndLeaf 0) := cat_pieces (ls := []) (ts := []) trivial
    exact paren_none (l := []) hc.cho rfl hl hk
  · obtain rfl := hn.nmX (by decide)
    obtain ⟨rfl, rfl⟩ := hn.bd (by decide)
    obtain rfl := hn.leaf (by decide)
    have hf : fmtN (.mk 1 rs noName [] 0 0) = classF rs := by unfold fmtN; rfl
    have he' : badR rs = false := by unfold errN at he; exact he
    obtain ⟨l, hl⟩ := class_head rs he'
    refine Trip.ofAtom (by rw [hf, hl]; exact ⟨91, _, rfl, .inr (.inl rfl)⟩) ?_
    rw [hf]
    intro s k n r hl hk
    obtain ⟨h1, h2⟩ := class_trip (hn.sep rfl) hb he' hl
    unfold atomS
    rw [peek_head, h1, if_neg (by decide), if_neg (by decide), if_pos rfl, next_eq, h2]
    rfl
  · obtain rfl := hn.rsE (by decide)
    obtain rfl := hn.nmX (by decide)
    obtain ⟨rfl, rfl⟩ := hn.bd (by decide)
    have hm := hn.many (by decide)
    have hf : fmtN (.mk 2 [] noName kids 0 0) = (kids.map (piece [2, 3])).flatten := by unfold fmtN; exact fmtL_cat _ _ _
    have hc := cat_pieces (pieces_of [2, 3] (fun t h => piece_rep h) kids ih)
    have hk : catOf kids = .mk 2 [] noName kids 0 0 := by
      match kids, hm with
      | a :: b :: r, _ => rfl
    rw [hk] at hc
    refine Trip.ofCat ?_ rfl (by rw [hf]; exact hc)
    rw [hf]
    match kids, hm, ih with
    | a :: r, _, ih =>
      rw [List.map_cons, List.flatten_cons]
      exact (piece_head (ih a (List.mem_cons_self ..)) _).app _
  · obtain rfl := hn.rsE (by decide)
    obtain rfl := hn.nmX (by decide)
    obtain ⟨rfl, rfl⟩ := hn.bd (by decide)
    have hm := hn.many (by decide)
    match kids, hm, ih with
    | a :: b :: r, _, ih =>
      have hf : fmtN (.mk 3 [] noName (a :: b :: r) 0 0) = piece [3] a ++ chJoin ((b :: r).map (piece [3])) := by
        unfold fmtN
        show fmtL [3] [124] true (a :: b :: r) = _
        unfold fmtL
        rw [fmtL_cho]
        simp [piece]
      have hc := cho_pieces (piece_cat (ih a (List.mem_cons_self ..))) (pieces_of [3] (fun t h => piece_cat h) (b :: r) fun x hx => ih x (List.mem_cons_of_mem _ hx))
      refine Trip.ofCho ?_ rfl (by rw [hf]; exact hc)
      rw [hf]
      exact (piece_head (ih a (List.mem_cons_self ..)) _).app _
  · obtain rfl := hn.rsE (by decide)
    obtain rfl := hn.nmX (by decide)
    obtain ⟨k, rfl⟩ := hn.one (by decide)
    have hk := ih k (List.mem_cons_self ..)
    have hf : fmtN (.mk 4 [] noName [k] mn mx) = piece [2, 3, 4] k ++ boundsF mn mx := by unfold fmtN; rw [if_neg (by decide), if_neg (by decide), if_neg (by decide), if_neg (by decide), if_pos rfl]; unfold fmtH; rfl
    refine Trip.ofRep (by rw [hf]; exact (piece_head hk _).app _) rfl ?_
    rw [hf]
    exact (piece_atom hk).bounds (hn.bds rfl)
  · obtain rfl := hn.rsE (by decide)
    obtain ⟨rfl, rfl⟩ := hn.bd (by decide)
    obtain ⟨k, rfl⟩ := hn.one (by decide)
    have hk := ih k (List.mem_cons_self ..)
    have hf : fmtN (.mk 5 [] nm [k] 0 0) = (40 :: nm.data.toList ++ [58]) ++ piece [] k ++ [41] := by
      unfold fmtN; rw [if_neg (by decide), if_neg (by decide), if_neg (by decide), if_neg (by decide), if_neg (by decide), if_pos rfl]; unfold fmtH; rfl
    refine Trip.ofAtom (by rw [hf]; exact ⟨40, _, rfl, .inl rfl⟩) ?_
    rw [hf]
    intro s p n r hl hp
    have hl' : tl s p = 40 :: (nm.data.toList ++ 58 :: (piece [] k ++ 41 :: r)) := by rw [hl]; simp
    rw [paren_some (piece_cho hk) (hn.name rfl) hl' hp]
    simp only [List.length_append, List.length_cons, List.length_nil, Prod.mk.injEq, PS.mk.injEq, and_true]
    exact ⟨rfl, by omega⟩
  · obtain rfl := hn.rsE (by decide)
    obtain rfl := hn.nmX (by decide)
    obtain ⟨rfl, rfl⟩ := hn.bd (by decide)
    obtain rfl := hn.leaf (by decide)
    have hf : fmtN (.mk 6 [] noName [] 0 0) = [94] := by unfold fmtN; rfl
    refine Trip.ofAtom (by rw [hf]; exact ⟨94, _, rfl, .inr (.inr (.inl rfl))⟩) ?_
    rw [hf]
    intro s k n r hl hk
    have h1 : headN (tl s k) = 94 := by rw [hl]; rfl
    unfold atomS
    rw [peek_head, h1]
    rfl
  · obtain rfl := hn.rsE (by decide)
    obtain rfl := hn.nmX (by decide)
    obtain ⟨rfl, rfl⟩ := hn.bd (by decide)
    obtain rfl := hn.leaf (by decide)
    have hf : fmtN (.mk 7 [] noName [] 0 0) = [36] := by unfold fmtN; rfl
    refine Trip.ofAtom (by rw [hf]; exact ⟨36, _, rfl, .inr (.inr (.inr rfl))⟩) ?_
    rw [hf]
    intro s k n r hl hk
    have h1 : headN (tl s k) = 36 := by rw [hl]; rfl
    unfold atomS
    rw [peek_head, h1]
    rfl
theorem errN_kids {op : Int} {rs : List (Nat × Nat)} {nm : ByteArray} {kids : List Nd} {mn mx : Int} (hn : NodeOk op rs nm kids mn mx) (he : errN (.mk op rs nm kids mn mx) = false) : errL kids = false := by
  unfold errN at he
  by_cases h1 : op = 1
  · obtain rfl := hn.leaf (.inr (.inl h1)); unfold errL; rfl
  rw [if_neg h1] at he
  by_cases h2 : op = 0 ∨ op = 6 ∨ op = 7
  · obtain rfl := hn.leaf (by omega); unfold errL; rfl
  rw [if_neg h2] at he
  exact he
theorem trip_any : ∀ t, okT t → errN t = false → Trip t := Nd.induct fun op rs nm kids mn mx ih ho he => by
  unfold okT at ho
  have hn := nodeOk_of ho.1
  have hk := errN_kids hn he
  exact trip_step op rs nm kids mn mx hn ho.2.1 he fun k hkm => ih k hkm (okL_mem _ ho.2.2 k hkm) (errL_mem _ hk k hkm)

/-- Parse of what Format writes is the node. -/
theorem parse_of_cho (s : ByteArray) (t : Nd) (h : ChoOk s.data.toList t) (hs : s.size ≤ 400) : parseN s (bracketS s) = if chkN t ≠ 0 then (ndLeaf 0, s.size, chkN t) else (t, s.size, 0) := by
  have h0 : tl s 0 = s.data.toList ++ [] := by unfold tl; simp
  have h1 : choiceF s (bracketS s) (s.size + 1) ⟨0, 0⟩ = (t, ⟨0 + s.data.toList.length, 0⟩) := h s 0 s.size [] h0 (by omega) (.inl rfl)
  rw [sizeB, Nat.zero_add] at h1
  unfold parseN
  rw [if_neg (by omega)]
  simp only [h1]
  rw [if_neg (by omega), if_neg (by simp)]
theorem parse_format (t : Nd) (s : ByteArray) (hb : bytT t) (hf : formatN t = (s.data.toList, 0)) : parseN s (bracketS s) = (t, s.size, 0) := by
  unfold formatN at hf
  by_cases h1 : chkN t ≠ 0
  · rw [if_pos h1] at hf; simp at hf; exact absurd hf.2 h1
  rw [if_neg h1] at hf
  by_cases h2 : errN t = true
  · rw [if_pos h2] at hf; simp at hf
  rw [if_neg h2] at hf
  by_cases h3 : 400 < (fmtN t).length
  · rw [if_pos h3] at hf; simp at hf
  rw [if_neg h3] at hf
  have hs : fmtN t = s.data.toList := by simpa using hf
  have ht := trip_any t (okT_of_chk hb (Classical.byContradiction h1)) (by simpa using h2)
  have hc := ht.cho
  rw [hs] at hc h3
  rw [sizeB] at h3
  rw [parse_of_cho s t hc (by omega), if_neg h1]
end Go.Proofs.YtbadhhfnbgaamaaDoor
