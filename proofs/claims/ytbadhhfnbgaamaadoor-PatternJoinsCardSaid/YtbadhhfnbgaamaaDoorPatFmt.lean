/- What Format of package pattern writes, as a plain function; no condition. Plain mathematics of byte sets and their ranges: the ranges of the set of separate ranges are these ranges; no condition. -/
import Derived.Test.YtbadhhfnbgaamaaDoorPatBr
import Derived.Lib.ItoaNum
namespace Go.Proofs.YtbadhhfnbgaamaaDoor

def itemF (c : Nat) : List UInt8 :=
  if c = 10 then [92, 110] else if c = 9 then [92, 116]
  else if c = 93 ∨ c = 45 ∨ c = 94 ∨ c = 92 then [92, UInt8.ofNat c] else [UInt8.ofNat c]
def rgF (r : Nat × Nat) : List UInt8 := itemF r.1 ++ if r.2 = r.1 then [] else 45 :: itemF r.2
def brF (o : List UInt8) (rs : List (Nat × Nat)) : List UInt8 := o ++ rs.flatMap rgF ++ [93]
def wrB (c : Nat) : Bool := printN c || decide (c = 10) || decide (c = 9)
def wrR (rs : List (Nat × Nat)) : Bool := rs.all fun r => wrB r.1 && wrB r.2
def othersR (rs : List (Nat × Nat)) : List (Nat × Nat) := rangesS fun c => !(addS (fun _ => false) rs c)
def badR (rs : List (Nat × Nat)) : Bool := !(wrR rs) && (decide ((othersR rs).length = 0) || !(wrR (othersR rs)))
def classF (rs : List (Nat × Nat)) : List UInt8 :=
  if wrR rs = true then brF [91] rs else if badR rs = true then [] else brF [91, 94] (othersR rs)
def boundsF (a b : Int) : List UInt8 :=
  123 :: Lib.itoa a ++ ((if b = a then [] else [44]) ++ ((if b ≠ a ∧ b ≠ -1 then Lib.itoa b else []) ++ [125]))
/-- Which operations a kid must have to be put in parentheses. -/
def isLoose (l : List Int) (o : Int) : Bool := l.contains o
def parF (b : Bool) (l : List UInt8) : List UInt8 := if b = true then 40 :: l ++ [41] else l
mutual
def fmtN : Nd → List UInt8
  | .mk op rs nm kids mn mx =>
    if op = 0 then [40, 41]
    else if op = 1 then classF rs
    else if op = 2 then fmtL [2, 3] [] true kids
    else if op = 3 then fmtL [3] [124] true kids
    else if op = 4 then fmtH [2, 3, 4] kids ++ boundsF mn mx
    else if op = 5 then (40 :: nm.data.toList ++ [58]) ++ fmtH [] kids ++ [41]
    else if op = 6 then [94]
    else if op = 7 then [36]
    else []
def fmtL (lo : List Int) (sep : List UInt8) (first : Bool) : List Nd → List UInt8
  | [] => []
  | k :: r => (if first = true then [] else sep) ++ (parF (isLoose lo k.op) (fmtN k) ++ fmtL lo sep false r)
def fmtH (lo : List Int) : List Nd → List UInt8
  | [] => []
  | k :: _ => parF (isLoose lo k.op) (fmtN k)
end
mutual
def errN : Nd → Bool
  | .mk op rs _ kids _ _ => if op = 1 then badR rs else if op = 0 ∨ op = 6 ∨ op = 7 then false else errL kids
def errL : List Nd → Bool
  | [] => false
  | k :: r => errN k || errL r
end
/-- What Format returns: the source, or the error. -/
def formatN (t : Nd) : List UInt8 × Int :=
  if chkN t ≠ 0 then ([], chkN t)
  else if errN t = true then ([], 1)
  else if 400 < (fmtN t).length then ([], 3)
  else (fmtN t, 0)
mutual
def okT : Nd → Prop
  | .mk op rs nm kids mn mx => nodeErr op rs nm kids.length mn mx = 0 ∧ (∀ x ∈ rs, x.1 < 256 ∧ x.2 < 256) ∧ okL kids
def okL : List Nd → Prop
  | [] => True
  | k :: r => okT k ∧ okL r
end
theorem okL_mem : ∀ (l : List Nd), okL l → ∀ k ∈ l, okT k
  | [], _, k, hk => by cases hk
  | x :: r, h, k, hk => by
    unfold okL at h
    rcases List.mem_cons.1 hk with rfl | hk
    · exact h.1
    · exact okL_mem r h.2 k hk
theorem okL_of : ∀ (l : List Nd), (∀ k ∈ l, okT k) → okL l
  | [], _ => by unfold okL; trivial
  | x :: r, h => by
    unfold okL
    exact ⟨h x (List.mem_cons_self ..), okL_of r fun k hk => h k (List.mem_cons_of_mem _ hk)⟩
mutual
def bytT : Nd → Prop
  | .mk _ rs _ kids _ _ => (∀ x ∈ rs, x.1 < 256 ∧ x.2 < 256) ∧ bytL kids
def bytL : List Nd → Prop
  | [] => True
  | k :: r => bytT k ∧ bytL r
end
mutual
theorem okT_of_vis : ∀ (t : Nd) (d : Nat) (st : Nat × List ByteArray), bytT t → (visN t d st).1 = 0 → okT t
  | .mk op rs nm kids mn mx, d, st, hb, h => by
    unfold bytT at hb
    unfold visN at h
    unfold okT
    by_cases h1 : 400 < st.1 + 1
    · rw [if_pos h1] at h; simp at h
    rw [if_neg h1] at h
    by_cases h2 : 20 < d
    · rw [if_pos h2] at h; simp at h
    rw [if_neg h2] at h
    by_cases h3 : nodeErr op rs nm kids.length mn mx ≠ 0
    · rw [if_pos h3] at h; exact absurd h h3
    rw [if_neg h3] at h
    exact ⟨Classical.byContradiction h3, hb.1, okL_of_vis kids _ _ hb.2 h⟩
theorem okL_of_vis : ∀ (l : List Nd) (d : Nat) (st : Nat × List ByteArray), bytL l → (visAll l d st).1 = 0 → okL l
  | [], _, _, _, _ => by unfold okL; trivial
  | k :: r, d, st, hb, h => by
    unfold bytL at hb
    unfold visAll at h
    unfold okL
    by_cases h1 : (visN k d st).1 ≠ 0
    · rw [if_pos h1] at h; exact absurd h h1
    rw [if_neg h1] at h
    exact ⟨okT_of_vis k d st hb.1 (Classical.byContradiction h1), okL_of_vis r _ _ hb.2 h⟩
end
theorem chk_vis {t : Nd} (h : chkN t = 0) : (visN t 0 (0, [])).1 = 0 := by
  unfold chkN at h
  by_cases h1 : (visN t 0 (0, [])).1 ≠ 0
  · rw [if_pos h1] at h; exact absurd h h1
  · exact Classical.byContradiction h1
theorem okT_of_chk {t : Nd} (hb : bytT t) (h : chkN t = 0) : okT t := okT_of_vis t _ _ hb (chk_vis h)
mutual
theorem NodeIn.bytT {lo : Nat} {w : World} : ∀ (t : Nd) (v : Value), NodeIn lo w t v → bytT t
  | .mk op rs nm kids mn mx, v, h => by
    unfold NodeIn at h
    unfold bytT
    obtain ⟨rv, ka, kc, hv, h1, h2, h3, h4, h5, hr, hk⟩ := h
    obtain ⟨a, c, -, -, hb, -⟩ := hr
    refine ⟨hb, ?_⟩
    rcases hk with rfl | ⟨b, o, ha, hlo, hk⟩
    · unfold bytL; trivial
    · exact KidsIn.bytL kids b o hk
theorem KidsIn.bytL {lo : Nat} {w : World} : ∀ (l : List Nd) (b o : Nat), KidsIn lo w l b o → bytL l
  | [], _, _, _ => by unfold bytL; trivial
  | t :: r, b, o, h => by
    unfold KidsIn at h
    unfold bytL
    obtain ⟨⟨op, rv, nm, kv, mn, mx, hn, -⟩, hr⟩ := h
    exact ⟨NodeIn.bytT t _ hn, KidsIn.bytL r b (o + 6) hr⟩
end
end Go.Proofs.YtbadhhfnbgaamaaDoor

namespace Go.Proofs.YtbadhhfnbgaamaaDoor

theorem sep_ge : ∀ (l : List (Nat × Nat)) (f : Nat), sepFrom f l = true → ∀ x ∈ l, f ≤ x.1 ∧ x.1 ≤ x.2
  | [], _, _, x, hx => by cases hx
  | y :: r, f, h, x, hx => by
    unfold sepFrom at h
    simp only [Bool.and_eq_true, decide_eq_true_eq] at h
    rcases List.mem_cons.1 hx with rfl | hx
    · exact ⟨h.1.1, h.1.2⟩
    · have := sep_ge r _ h.2 x hx; omega
theorem any_ge {l : List (Nat × Nat)} {f c : Nat} (h : sepFrom f l = true) (ha : l.any (fun r => inR r c) = true) : f ≤ c := by
  obtain ⟨x, hx, hc⟩ := List.any_eq_true.1 ha
  have := sep_ge l f h x hx
  simp only [inR, decide_eq_true_eq] at hc
  omega
theorem sep_unique : ∀ (l m : List (Nat × Nat)) (f : Nat), sepFrom f l = true → sepFrom f m = true → (∀ c, l.any (fun r => inR r c) = m.any fun r => inR r c) → l = m
  | [], [], _, _, _, _ => rfl
  | [], y :: r, f, _, hm, he => by
    unfold sepFrom at hm
    simp only [Bool.and_eq_true, decide_eq_true_eq] at hm
    have := he y.1
    simp [inR, hm.1.2] at this
  | x :: r, [], f, hl, _, he => by
    unfold sepFrom at hl
    simp only [Bool.and_eq_true, decide_eq_true_eq] at hl
    have := he x.1
    simp [inR, hl.1.2] at this
  | x :: r, y :: q, f, hl, hm, he => by
    unfold sepFrom at hl hm
    simp only [Bool.and_eq_true, decide_eq_true_eq] at hl hm
    have in1 : ∀ c, x.1 ≤ c → c ≤ x.2 → (y :: q).any (fun r => inR r c) = true := fun c h1 h2 => by
      rw [← he c]; simp [inR, h1, h2]
    have in2 : ∀ c, y.1 ≤ c → c ≤ y.2 → (x :: r).any (fun r => inR r c) = true := fun c h1 h2 => by
      rw [he c]; simp [inR, h1, h2]
    have ge1 : ∀ c, (x :: r).any (fun r => inR r c) = true → (x.1 ≤ c ∧ c ≤ x.2) ∨ x.2 + 2 ≤ c := fun c h => by
      rw [List.any_cons, Bool.or_eq_true] at h
      rcases h with h | h
      · left; simpa [inR] using h
      · right; exact any_ge hl.2 h
    have ge2 : ∀ c, (y :: q).any (fun r => inR r c) = true → (y.1 ≤ c ∧ c ≤ y.2) ∨ y.2 + 2 ≤ c := fun c h => by
      rw [List.any_cons, Bool.or_eq_true] at h
      rcases h with h | h
      · left; simpa [inR] using h
      · right; exact any_ge hm.2 h
    have e1 : x.1 = y.1 := by
      have a := ge2 _ (in1 x.1 (Nat.le_refl _) hl.1.2)
      have b := ge1 _ (in2 y.1 (Nat.le_refl _) hm.1.2)
      omega
    have e2 : x.2 = y.2 := by
      rcases Nat.lt_trichotomy x.2 y.2 with h | h | h
      · have := ge1 _ (in2 (x.2 + 1) (by omega) (by omega)); omega
      · exact h
      · have := ge2 _ (in1 (y.2 + 1) (by omega) (by omega)); omega
    have hxy : x = y := by cases x; cases y; simp_all
    subst hxy
    have hrest : ∀ c, r.any (fun r => inR r c) = q.any fun r => inR r c := fun c => by
      have hc := he c
      rw [List.any_cons, List.any_cons] at hc
      by_cases h : inR x c = true
      · have h' : x.1 ≤ c ∧ c ≤ x.2 := by simpa [inR] using h
        have n1 : r.any (fun r => inR r c) = false := by
          by_cases hr : r.any (fun r => inR r c) = true
          · have := any_ge hl.2 hr; omega
          · simpa using hr
        have n2 : q.any (fun r => inR r c) = false := by
          by_cases hr : q.any (fun r => inR r c) = true
          · have := any_ge hm.2 hr; omega
          · simpa using hr
        rw [n1, n2]
      · have h : inR x c = false := by simpa using h
        rw [h] at hc
        simpa using hc
    rw [sep_unique r q _ hl.2 hm.2 hrest]

theorem sep_snoc : ∀ (l : List (Nat × Nat)) (f a b : Nat), sepFrom f l = true → f ≤ a → a ≤ b → (∀ x ∈ l, x.2 + 2 ≤ a) → sepFrom f (l ++ [(a, b)]) = true
  | [], f, a, b, _, h1, h2, _ => by simp [sepFrom, h1, h2]
  | y :: r, f, a, b, h, h1, h2, h3 => by
    unfold sepFrom at h
    simp only [Bool.and_eq_true, decide_eq_true_eq] at h
    show sepFrom f (y :: (r ++ [(a, b)])) = true
    unfold sepFrom
    simp only [Bool.and_eq_true, decide_eq_true_eq]
    exact ⟨h.1, sep_snoc r _ a b h.2 (h3 y (List.mem_cons_self ..)) h2 fun x hx => h3 x (List.mem_cons_of_mem _ hx)⟩
theorem sep_front : ∀ (l : List (Nat × Nat)) (f a b : Nat), sepFrom f (l ++ [(a, b)]) = true → sepFrom f l = true ∧ f ≤ a ∧ a ≤ b ∧ ∀ x ∈ l, x.2 + 2 ≤ a
  | [], f, a, b, h => by
    simp [sepFrom] at h
    exact ⟨by unfold sepFrom; rfl, h.1, h.2, fun x hx => by cases hx⟩
  | y :: r, f, a, b, h => by
    have h : sepFrom f (y :: (r ++ [(a, b)])) = true := h
    unfold sepFrom at h
    simp only [Bool.and_eq_true, decide_eq_true_eq] at h
    obtain ⟨h1, h2, h3, h4⟩ := sep_front r _ a b h.2
    refine ⟨?_, by omega, h3, ?_⟩
    · unfold sepFrom
      simp only [Bool.and_eq_true, decide_eq_true_eq]
      exact ⟨h.1, h1⟩
    · intro x hx
      rcases List.mem_cons.1 hx with rfl | hx
      · exact h2
      · exact h4 x hx

/-- What the ranges of a set up to k are. -/
structure RgInv (g : Nat → Bool) (k : Nat) (l : List (Nat × Nat)) : Prop where
  any : ∀ c, l.any (fun r => inR r c) = (decide (c < k) && g c)
  sep : sepFrom 0 l = true
  last : 0 < k ∧ g (k - 1) = true → ∃ ini a, l = ini ++ [(a, k - 1)]
  far : ¬ (0 < k ∧ g (k - 1) = true) → ∀ x ∈ l, x.2 + 2 ≤ k
theorem setHi_snoc (l : List (Nat × Nat)) (a b v : Nat) : setHi (l ++ [(a, b)]) v = l ++ [(a, v)] := by
  unfold setHi
  simp
theorem rg_inv (g : Nat → Bool) : ∀ k, RgInv g k (rangesTo g k) := by
  intro k
  induction k with
  | zero => exact ⟨fun c => by simp [rangesTo], by unfold rangesTo sepFrom; rfl, fun h => by omega, fun _ x hx => by simp [rangesTo] at hx⟩
  | succ k ih =>
    unfold rangesTo
    by_cases hg : g k = true
    · rw [if_pos hg]
      by_cases h2 : 0 < k ∧ g (k - 1) = true
      · rw [if_pos h2]
        obtain ⟨ini, a, hl⟩ := ih.last h2
        have hs := ih.sep
        rw [hl] at hs
        obtain ⟨s1, -, s3, s4⟩ := sep_front _ _ _ _ hs
        rw [hl, setHi_snoc]
        refine ⟨fun c => ?_, sep_snoc _ _ _ _ s1 (Nat.zero_le _) (by omega) s4, fun _ => ⟨ini, a, rfl⟩, fun h => absurd ⟨by omega, hg⟩ h⟩
        have ha := ih.any c
        rw [hl, List.any_append] at ha
        rw [List.any_append]
        by_cases hck : c = k
        · subst hck
          simp [inR, hg]; right; omega
        · have e : (inR (a, k) c) = (inR (a, k - 1) c) := by
            simp only [inR]; congr 1; simp only [eq_iff_iff]; omega
          simp only [List.any_cons, List.any_nil, Bool.or_false] at ha ⊢
          rw [e, ha]
          congr 1
          simp only [decide_eq_decide]; omega
      · rw [if_neg h2]
        have hf := ih.far h2
        refine ⟨fun c => ?_, sep_snoc _ _ _ _ ih.sep (Nat.zero_le _) (Nat.le_refl _) hf, fun _ => ⟨_, k, rfl⟩, fun h => absurd ⟨by omega, hg⟩ h⟩
        rw [List.any_append, ih.any c]
        by_cases hck : c = k
        · subst hck; simp [inR, hg]
        · have e : inR (k, k) c = false := by simp only [inR, decide_eq_false_iff_not]; omega
          simp only [List.any_cons, List.any_nil, Bool.or_false, e]
          congr 1
          simp only [decide_eq_decide]; omega
    · rw [if_neg hg]
      have hg' : g k = false := by simpa using hg
      refine ⟨fun c => ?_, ih.sep, fun h => absurd h.2 (by simpa using hg), fun _ x hx => ?_⟩
      · rw [ih.any c]
        by_cases hck : c = k
        · subst hck; simp [hg']
        · congr 1
          simp only [decide_eq_decide]; omega
      · by_cases h2 : 0 < k ∧ g (k - 1) = true
        · obtain ⟨ini, a, hl⟩ := ih.last h2
          rw [hl] at hx
          have hs := ih.sep
          rw [hl] at hs
          obtain ⟨s1, -, s3, s4⟩ := sep_front _ _ _ _ hs
          rcases List.mem_append.1 hx with hx | hx
          · have := s4 x hx; omega
          · obtain rfl : x = (a, k - 1) := by simpa using hx
            simp only; omega
        · have := ih.far h2 x hx; omega
theorem ranges_any_eq (g : Nat → Bool) (c : Nat) : (rangesS g).any (fun r => inR r c) = (decide (c < 256) && g c) := (rg_inv g 256).any c
theorem ranges_sep (g : Nat → Bool) : sepFrom 0 (rangesS g) = true := (rg_inv g 256).sep
theorem any_lt {l : List (Nat × Nat)} {c : Nat} (hb : ∀ x ∈ l, x.1 < 256 ∧ x.2 < 256) (h : l.any (fun r => inR r c) = true) : c < 256 := by
  obtain ⟨x, hx, hc⟩ := List.any_eq_true.1 h
  have := hb x hx
  simp only [inR, decide_eq_true_eq] at hc
  omega
theorem ranges_back (rs : List (Nat × Nat)) (hs : sepFrom 0 rs = true) (hb : ∀ x ∈ rs, x.1 < 256 ∧ x.2 < 256) (g : Nat → Bool) (hg : ∀ c, c < 256 → g c = rs.any fun r => inR r c) : rangesS g = rs := by
  refine sep_unique _ _ 0 (ranges_sep g) hs fun c => ?_
  rw [ranges_any_eq]
  by_cases hc : c < 256
  · rw [hg c hc]; simp [hc]
  · have : rs.any (fun r => inR r c) = false := by
      by_cases h : rs.any (fun r => inR r c) = true
      · exact absurd (any_lt hb h) hc
      · simpa using h
    rw [this]; simp [hc]
theorem others_back (rs : List (Nat × Nat)) (hs : sepFrom 0 rs = true) (hb : ∀ x ∈ rs, x.1 < 256 ∧ x.2 < 256) : rangesS (fun c => !(addS (fun _ => false) (othersR rs) c)) = rs := by
  refine ranges_back rs hs hb _ fun c hc => ?_
  unfold addS othersR
  rw [ranges_any_eq]
  simp [hc, addS]
theorem back_self (rs : List (Nat × Nat)) (hs : sepFrom 0 rs = true) (hb : ∀ x ∈ rs, x.1 < 256 ∧ x.2 < 256) : rangesS (addS (fun _ => false) rs) = rs :=
  ranges_back rs hs hb _ fun c _ => by simp [addS]
end Go.Proofs.YtbadhhfnbgaamaaDoor
