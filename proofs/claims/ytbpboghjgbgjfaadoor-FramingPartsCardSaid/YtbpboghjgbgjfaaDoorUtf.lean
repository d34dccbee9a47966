/- Plain mathematics, no program: the UTF-8 sequences of a list of bytes, the repaired list, and that repairing it again changes nothing. -/
import Derived.Shelf.Unicode.DecodeSlow
import Derived.Lib.DecodeNEq
namespace Go.Proofs.YtbpboghjgbgjfaaDoor

/-- What stands behind a lead byte that wants sz bytes, the second of them from lo to hi. -/
def seqK (n b1 b2 b3 sz lo hi : Nat) : Nat :=
  if n < sz then 0
  else if b1 < lo ∨ hi < b1 then 0
  else if sz ≤ 2 then 2
  else if b2 < 128 ∨ 191 < b2 then 0
  else if sz ≤ 3 then 3
  else if b3 < 128 ∨ 191 < b3 then 0
  else 4
/-- The length of the valid sequence at the head of n bytes that begin b0 b1 b2 b3; 0: there is none. -/
def seqN (n b0 b1 b2 b3 : Nat) : Nat :=
  if b0 < 128 then 1
  else if 194 ≤ b0 ∧ b0 < 224 then seqK n b1 b2 b3 2 128 191
  else if b0 = 224 then seqK n b1 b2 b3 3 160 191
  else if b0 = 237 then seqK n b1 b2 b3 3 128 159
  else if 225 ≤ b0 ∧ b0 < 240 then seqK n b1 b2 b3 3 128 191
  else if b0 = 240 then seqK n b1 b2 b3 4 144 191
  else if b0 = 244 then seqK n b1 b2 b3 4 128 143
  else if 241 ≤ b0 ∧ b0 < 244 then seqK n b1 b2 b3 4 128 191
  else 0

def byteAt (l : List UInt8) (i : Nat) : Nat := (l[i]?.getD 0).toNat
theorem byteAt_lt (l : List UInt8) (i : Nat) : byteAt l i < 256 := UInt8.toNat_lt _

def seqL (l : List UInt8) : Nat := seqN l.length (byteAt l 0) (byteAt l 1) (byteAt l 2) (byteAt l 3)
def stepL (l : List UInt8) : Nat := if seqL l = 0 then 1 else seqL l

theorem seqK_le (n b1 b2 b3 sz lo hi : Nat) (h : 2 ≤ sz ∧ sz ≤ 4) : seqK n b1 b2 b3 sz lo hi ≤ n ∧ seqK n b1 b2 b3 sz lo hi ≤ 4 := by
  unfold seqK
  repeat' split
  all_goals omega
theorem seqN_le (n b0 b1 b2 b3 : Nat) (hn : 1 ≤ n) : seqN n b0 b1 b2 b3 ≤ n ∧ seqN n b0 b1 b2 b3 ≤ 4 := by
  unfold seqN
  repeat' split
  all_goals first | omega | exact seqK_le _ _ _ _ _ _ _ (by omega)
theorem stepL_bd (l : List UInt8) (h : 1 ≤ l.length) : 1 ≤ stepL l ∧ stepL l ≤ l.length ∧ stepL l ≤ 4 := by
  have := seqN_le l.length (byteAt l 0) (byteAt l 1) (byteAt l 2) (byteAt l 3) h
  unfold stepL
  split
  · omega
  · unfold seqL at *; omega

def Meets (d : Nat × Nat) (k : Nat) : Prop := d.2 = (if k = 0 then 1 else k) ∧ ((d.1 ≠ 65533 ∨ 1 < d.2) ↔ k ≠ 0)
theorem slowN_seq (n b0 b1 b2 b3 sz lo hi : Nat) : Meets (Lib.slowN n b0 b1 b2 b3 sz lo hi) (seqK n b1 b2 b3 sz lo hi) := by
  unfold Lib.slowN seqK
  repeat' split
  all_goals first | (exfalso; omega) | (simp [Meets]; done)
theorem decodeN_seq (n b0 b1 b2 b3 : Nat) (hn : 1 ≤ n) (h0 : b0 < 256) (h1 : b1 < 256) (h2 : b2 < 256) (h3 : b3 < 256) :
    Meets (Lib.decodeN n b0 b1 b2 b3) (seqN n b0 b1 b2 b3) := by
  unfold seqN
  repeat' split
  · rw [Lib.ascii_eq _ _ _ _ _ (by simp only [Lib.firstT]; rw [if_pos (by omega)])]; simp [Meets]; omega
  · rw [← Lib.slow_C2 n b0 b1 b2 b3 hn h1 h2 h3 (by omega)]; exact slowN_seq _ _ _ _ _ _ _ _
  · rw [← Lib.slow_E0 n b0 b1 b2 b3 hn h1 h2 h3 (by omega)]; exact slowN_seq _ _ _ _ _ _ _ _
  · rw [← Lib.slow_ED n b0 b1 b2 b3 hn h1 h2 h3 (by omega)]; exact slowN_seq _ _ _ _ _ _ _ _
  · rw [← Lib.slow_E1 n b0 b1 b2 b3 hn h1 h2 h3 (by omega)]; exact slowN_seq _ _ _ _ _ _ _ _
  · rw [← Lib.slow_F0 n b0 b1 b2 b3 hn h1 h2 h3 (by omega)]; exact slowN_seq _ _ _ _ _ _ _ _
  · rw [← Lib.slow_F4 n b0 b1 b2 b3 hn h1 h2 h3 (by omega)]; exact slowN_seq _ _ _ _ _ _ _ _
  · rw [← Lib.slow_F1 n b0 b1 b2 b3 hn h1 h2 h3 (by omega)]; exact slowN_seq _ _ _ _ _ _ _ _
  · rw [Lib.bad_eq _ _ _ _ _ h0 (by unfold Lib.firstT; (repeat' split) <;> omega)]; simp [Meets]

theorem get_bytes (l : List UInt8) (i : Nat) : (ByteArray.mk l.toArray).get! i = l[i]?.getD 0 := by
  show l.toArray[i]! = _
  simp [getElem!_def]
  cases l[i]? <;> rfl

theorem decodeGo_seq (l : List UInt8) (h : 1 ≤ l.length) :
    Meets (Lib.decodeGo ⟨l.toArray⟩) (seqL l) := by
  have hs : (ByteArray.mk l.toArray).size = l.length := by simp [ByteArray.size]
  have e : Lib.decodeGo ⟨l.toArray⟩ = Lib.decodeN l.length (byteAt l 0) (byteAt l 1) (byteAt l 2) (byteAt l 3) := by
    unfold Lib.decodeGo
    rw [if_neg (by omega), Lib.decode_at]
    simp only [get_bytes, hs, byteAt, Nat.sub_zero, Nat.zero_add]
  rw [e]
  exact decodeN_seq _ _ _ _ _ h (byteAt_lt _ _) (byteAt_lt _ _) (byteAt_lt _ _) (byteAt_lt _ _)

/-! ### The segments: (where, how long, valid) -/
def segs (l : List UInt8) : Nat → Nat → List (Nat × Nat × Bool)
  | 0, _ => []
  | f + 1, i => if i < l.length then (i, stepL (l.drop i), decide (seqL (l.drop i) ≠ 0)) :: segs l f (i + stepL (l.drop i)) else []
/-- What a segment becomes. -/
def outOf (l : List UInt8) (x : Nat × Nat × Bool) : List UInt8 := if x.2.2 then (l.drop x.1).take x.2.1 else [63]
def outP (l : List UInt8) (pre : List (Nat × Nat × Bool)) : List UInt8 := pre.flatMap (outOf l)
def badP (pre : List (Nat × Nat × Bool)) : Nat := (pre.filter fun x => !x.2.2).length
def repB (l : List UInt8) : List UInt8 := outP l (segs l l.length 0)
def repN (l : List UInt8) : Nat := badP (segs l l.length 0)
theorem outP_nil (l : List UInt8) : outP l [] = [] := rfl
theorem outP_snoc (l : List UInt8) (pre : List (Nat × Nat × Bool)) (x : Nat × Nat × Bool) : outP l (pre ++ [x]) = outP l pre ++ outOf l x := by simp [outP]
theorem badP_snoc (pre : List (Nat × Nat × Bool)) (x : Nat × Nat × Bool) : badP (pre ++ [x]) = badP pre + if x.2.2 then 0 else 1 := by
  cases hx : x.2.2 <;> simp [badP, hx]
theorem badP_le (pre : List (Nat × Nat × Bool)) : badP pre ≤ pre.length := List.length_filter_le _ _

/-- A segment that lies within the bytes. -/
def Fits (l : List UInt8) (x : Nat × Nat × Bool) : Prop := x.1 + x.2.1 ≤ l.length ∧ 1 ≤ x.2.1 ∧ x.2.1 ≤ 4
theorem outP_le (l : List UInt8) (pre : List (Nat × Nat × Bool)) (h : ∀ x ∈ pre, Fits l x) : (outP l pre).length ≤ 4 * pre.length := by
  induction pre with
  | nil => simp [outP]
  | cons x r ih =>
    have hx := h x (by simp)
    have := ih (fun y hy => h y (by simp [hy]))
    unfold Fits at hx
    have h1 : (outOf l x).length ≤ 4 := by unfold outOf; split <;> simp; omega
    simp only [outP, List.flatMap_cons, List.length_append, List.length_cons] at *
    omega
theorem segs_fits (l : List UInt8) : ∀ (f i : Nat), ∀ x ∈ segs l f i, Fits l x := by
  intro f
  induction f with
  | zero => intro i x hx; simp [segs] at hx
  | succ f ih =>
    intro i x hx
    unfold segs at hx
    split at hx
    · rename_i hi
      rcases List.mem_cons.1 hx with rfl | hx
      · have := stepL_bd (l.drop i) (by simp; omega)
        simp at this
        unfold Fits
        simp only
        omega
      · exact ih _ x hx
    · simp at hx
theorem segs_length (l : List UInt8) : ∀ (f i : Nat), (segs l f i).length ≤ f := by
  intro f
  induction f with
  | zero => intro i; simp [segs]
  | succ f ih =>
    intro i
    unfold segs
    split
    · simp only [List.length_cons]; have := ih (i + stepL (l.drop i)); omega
    · simp

/-- Unfolded once, with enough fuel. -/
theorem segs_step (l : List UInt8) (f i : Nat) (h : i < l.length) (hf : l.length ≤ i + f) :
    ∃ f', l.length ≤ i + stepL (l.drop i) + f' ∧ segs l f i = (i, stepL (l.drop i), decide (seqL (l.drop i) ≠ 0)) :: segs l f' (i + stepL (l.drop i)) := by
  cases f with
  | zero => omega
  | succ f =>
    have := stepL_bd (l.drop i) (by simp; omega)
    exact ⟨f, by omega, by rw [segs, if_pos h]⟩
theorem segs_end (l : List UInt8) (f i : Nat) (h : ¬ i < l.length) : segs l f i = [] := by
  cases f with
  | zero => rfl
  | succ f => rw [segs, if_neg h]

/-! ### The repaired bytes are as many, and valid -/
theorem outP_length (l : List UInt8) : ∀ (f i : Nat), i ≤ l.length → l.length ≤ i + f → (outP l (segs l f i)).length = l.length - i := by
  intro f
  induction f with
  | zero => intro i h1 h2; simp [segs, outP]; omega
  | succ f ih =>
    intro i h1 h2
    unfold segs
    split
    · rename_i hi
      have hb := stepL_bd (l.drop i) (by simp; omega)
      simp at hb
      have := ih (i + stepL (l.drop i)) (by omega) (by omega)
      have h1 : (outOf l (i, stepL (l.drop i), decide (seqL (l.drop i) ≠ 0))).length = stepL (l.drop i) := by
        unfold outOf
        by_cases hk : seqL (l.drop i) = 0
        · simp [hk, stepL]
        · simp [hk]; omega
      simp only [outP, List.flatMap_cons, List.length_append] at *
      omega
    · simp [outP]; omega
theorem repB_length (l : List UInt8) : (repB l).length = l.length := by
  have := outP_length l l.length 0 (by omega) (by omega)
  simpa [repB] using this

/-- A unit: bytes that are one valid sequence, whatever follows. -/
def Unit1 (u : List UInt8) : Prop := ∀ r, seqL (u ++ r) = u.length ∧ u ≠ []
theorem seqN_more (n m b0 b1 b2 b3 c1 c2 c3 : Nat) (h : seqN n b0 b1 b2 b3 ≠ 0) (hm : seqN n b0 b1 b2 b3 ≤ m)
    (h1 : 1 < seqN n b0 b1 b2 b3 → c1 = b1) (h2 : 2 < seqN n b0 b1 b2 b3 → c2 = b2) (h3 : 3 < seqN n b0 b1 b2 b3 → c3 = b3) :
    seqN m b0 c1 c2 c3 = seqN n b0 b1 b2 b3 := by
  have key : ∀ sz lo hi, 2 ≤ sz ∧ sz ≤ 4 → seqN n b0 b1 b2 b3 = seqK n b1 b2 b3 sz lo hi → seqK m c1 c2 c3 sz lo hi = seqN n b0 b1 b2 b3 := by
    intro sz lo hi hs e
    have hk : seqK n b1 b2 b3 sz lo hi = sz ∧ (lo ≤ b1 ∧ b1 ≤ hi) ∧ (2 < sz → 128 ≤ b2 ∧ b2 ≤ 191) ∧ (3 < sz → 128 ≤ b3 ∧ b3 ≤ 191) := by
      rw [e] at h
      revert h
      unfold seqK
      (repeat' split) <;> omega
    rw [e, hk.1] at hm h1 h2 h3
    rw [e, hk.1]
    have e1 := h1 (by omega)
    subst e1
    unfold seqK
    rw [if_neg (by omega), if_neg (by omega)]
    by_cases hs2 : sz ≤ 2
    · rw [if_pos hs2]; omega
    · have e2 := h2 (by omega)
      subst e2
      rw [if_neg hs2, if_neg (by omega)]
      by_cases hs3 : sz ≤ 3
      · rw [if_pos hs3]; omega
      · have e3 := h3 (by omega)
        subst e3
        rw [if_neg hs3, if_neg (by omega)]; omega
  conv => lhs; unfold seqN
  have hd : ∀ c, seqN n b0 b1 b2 b3 = c → (1 : Nat) = 1 := fun _ _ => rfl
  by_cases q1 : b0 < 128
  · rw [if_pos q1]; simp [seqN, q1]
  rw [if_neg q1]
  by_cases q2 : 194 ≤ b0 ∧ b0 < 224
  · rw [if_pos q2]; exact key _ _ _ (by omega) (by simp [seqN, q1, q2])
  rw [if_neg q2]
  by_cases q3 : b0 = 224
  · rw [if_pos q3]; exact key _ _ _ (by omega) (by rw [seqN, if_neg q1, if_neg q2, if_pos q3])
  rw [if_neg q3]
  by_cases q4 : b0 = 237
  · rw [if_pos q4]; exact key _ _ _ (by omega) (by rw [seqN, if_neg q1, if_neg q2, if_neg q3, if_pos q4])
  rw [if_neg q4]
  by_cases q5 : 225 ≤ b0 ∧ b0 < 240
  · rw [if_pos q5]; exact key _ _ _ (by omega) (by rw [seqN, if_neg q1, if_neg q2, if_neg q3, if_neg q4, if_pos q5])
  rw [if_neg q5]
  by_cases q6 : b0 = 240
  · rw [if_pos q6]; exact key _ _ _ (by omega) (by rw [seqN, if_neg q1, if_neg q2, if_neg q3, if_neg q4, if_neg q5, if_pos q6])
  rw [if_neg q6]
  by_cases q7 : b0 = 244
  · rw [if_pos q7]; exact key _ _ _ (by omega) (by rw [seqN, if_neg q1, if_neg q2, if_neg q3, if_neg q4, if_neg q5, if_neg q6, if_pos q7])
  rw [if_neg q7]
  by_cases q8 : 241 ≤ b0 ∧ b0 < 244
  · rw [if_pos q8]; exact key _ _ _ (by omega) (by rw [seqN, if_neg q1, if_neg q2, if_neg q3, if_neg q4, if_neg q5, if_neg q6, if_neg q7, if_pos q8])
  · exfalso; apply h; rw [seqN, if_neg q1, if_neg q2, if_neg q3, if_neg q4, if_neg q5, if_neg q6, if_neg q7, if_neg q8]

theorem byteAt_take (l r : List UInt8) (k j : Nat) (hk : k ≤ l.length) (hj : j < k) : byteAt (l.take k ++ r) j = byteAt l j := by
  unfold byteAt
  rw [List.getElem?_append_left (by simp; omega), List.getElem?_take, if_pos hj]
theorem unit_take (l : List UInt8) (h1 : 1 ≤ l.length) (h : seqL l ≠ 0) : Unit1 (l.take (seqL l)) := by
  intro r
  have hb := seqN_le l.length (byteAt l 0) (byteAt l 1) (byteAt l 2) (byteAt l 3) h1
  have hl : (l.take (seqL l)).length = seqL l := by simp; unfold seqL; omega
  constructor
  · rw [hl]
    have h0 : byteAt (l.take (seqL l) ++ r) 0 = byteAt l 0 := byteAt_take _ _ _ _ hb.1 (by omega)
    show seqN _ _ _ _ _ = _
    rw [h0]
    refine seqN_more l.length _ _ (byteAt l 1) (byteAt l 2) (byteAt l 3) _ _ _ h ?_ ?_ ?_ ?_
    · simp only [List.length_append, hl]; unfold seqL; omega
    · intro hq; exact byteAt_take _ _ _ _ hb.1 hq
    · intro hq; exact byteAt_take _ _ _ _ hb.1 hq
    · intro hq; exact byteAt_take _ _ _ _ hb.1 hq
  · intro e
    rw [e] at hl
    simp at hl
    omega
theorem unit_mark : Unit1 [63] := by
  intro r
  simp [seqL, seqN, byteAt]

/-- Units one behind the other have no bad byte, and stay. -/
theorem segs_units (us : List (List UInt8)) (h : ∀ u ∈ us, Unit1 u) : ∀ (p : List UInt8) (f : Nat), us.flatten.length ≤ f →
    outP (p ++ us.flatten) (segs (p ++ us.flatten) f p.length) = us.flatten ∧ badP (segs (p ++ us.flatten) f p.length) = 0 := by
  induction us with
  | nil => intro p f _; rw [segs_end _ _ _ (by simp)]; simp [outP, badP]
  | cons u r ih =>
    intro p f hf
    obtain ⟨hu, hne⟩ := h u (by simp) r.flatten
    have hul : 1 ≤ u.length := List.length_pos_iff.2 hne
    have hr := ih (fun v hv => h v (by simp [hv])) (p ++ u)
    simp only [List.flatten_cons, List.length_append] at hf
    cases f with
    | zero => omega
    | succ f =>
      have hd : (p ++ (u :: r).flatten).drop p.length = u ++ r.flatten := by simp
      unfold segs
      rw [if_pos (by simp; omega), hd, hu]
      have hst : stepL (u ++ r.flatten) = u.length := by unfold stepL; rw [hu, if_neg (by omega)]
      rw [hst]
      have hr2 := hr f (by omega)
      have e1 : p ++ (u :: r).flatten = p ++ u ++ r.flatten := by simp
      have e2 : p.length + u.length = (p ++ u).length := by simp
      have hdec : decide (u.length ≠ 0) = true := by simp; omega
      rw [hdec, e1, e2]
      constructor
      · show (List.flatMap _ (_ :: _)) = _
        rw [List.flatMap_cons]
        have := hr2.1
        unfold outP at this
        rw [this]
        simp [outOf]
      · have := hr2.2
        simp only [badP] at this ⊢
        simpa using this

theorem outP_units (l : List UInt8) : ∀ (f i : Nat), ∃ us : List (List UInt8), (∀ u ∈ us, Unit1 u) ∧ outP l (segs l f i) = us.flatten := by
  intro f
  induction f with
  | zero => intro i; exact ⟨[], by simp, by simp [segs, outP]⟩
  | succ f ih =>
    intro i
    unfold segs
    split
    · rename_i hi
      obtain ⟨us, h1, h2⟩ := ih (i + stepL (l.drop i))
      refine ⟨outOf l (i, stepL (l.drop i), decide (seqL (l.drop i) ≠ 0)) :: us, ?_, ?_⟩
      · intro u hu
        rcases List.mem_cons.1 hu with rfl | hu
        · unfold outOf
          by_cases hk : seqL (l.drop i) = 0
          · simp [hk]; exact unit_mark
          · have := unit_take (l.drop i) (by simp; omega) hk
            simp [hk, stepL]; exact this
        · exact h1 u hu
      · show (List.flatMap _ (_ :: _)) = _
        rw [List.flatMap_cons, List.flatten_cons]
        unfold outP at h2
        rw [h2]
    · exact ⟨[], by simp, by simp [outP]⟩

/-- **Repairing again changes nothing.** -/
theorem rep_again (l : List UInt8) : repB (repB l) = repB l ∧ repN (repB l) = 0 := by
  obtain ⟨us, h1, h2⟩ := outP_units l l.length 0
  have h := segs_units us h1 [] us.flatten.length (Nat.le_refl _)
  simp only [List.nil_append, List.length_nil] at h
  have e : repB l = us.flatten := h2
  rw [e]
  exact h
end Go.Proofs.YtbpboghjgbgjfaaDoor
