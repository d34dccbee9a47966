/- Patterns as plain data, and what the parser of package pattern answers, as a plain function; no condition. -/
import Derived.Test.YtfkgicakiapmaaaAsciiCls
import Derived.Test.YtfkgicakiapmaaaNumber
import Derived.Lib.Bytealg
namespace Go.Proofs.Ytfkgicakiapmaaa

/-- A node of a pattern. -/
inductive Nd where
  | mk (op : Int) (rs : List (Nat × Nat)) (nm : ByteArray) (kids : List Nd) (mn mx : Int)
namespace Nd
def op : Nd → Int | .mk o _ _ _ _ _ => o
def rs : Nd → List (Nat × Nat) | .mk _ r _ _ _ _ => r
def nm : Nd → ByteArray | .mk _ _ n _ _ _ => n
def kids : Nd → List Nd | .mk _ _ _ k _ _ => k
def mn : Nd → Int | .mk _ _ _ _ m _ => m
def mx : Nd → Int | .mk _ _ _ _ _ m => m
end Nd
def noName : ByteArray := ⟨#[]⟩
def ndLeaf (o : Int) : Nd := .mk o [] noName [] 0 0
def ndClass (r : List (Nat × Nat)) : Nd := .mk 1 r noName [] 0 0
def ndKids (o : Int) (k : List Nd) : Nd := .mk o [] noName k 0 0
def ndRep (k : Nd) (a b : Int) : Nd := .mk 4 [] noName [k] a b
def ndCap (n : ByteArray) (k : Nd) : Nd := .mk 5 [] n [k] 0 0

/-- The byte at an offset, 0 behind the end. -/
def byteN (s : ByteArray) (k : Nat) : Nat := if h : k < s.size then s[k].toNat else 0
theorem byteN_in (s : ByteArray) (k : Nat) (h : k < s.size) : byteN s k = s[k].toNat := by simp [byteN, h]
theorem byteN_out (s : ByteArray) (k : Nat) (h : ¬ k < s.size) : byteN s k = 0 := by simp [byteN, h]
theorem byteN_lt (s : ByteArray) (k : Nat) : byteN s k < 256 := by
  unfold byteN; split
  · exact UInt8.toNat_lt _
  · omega

/-- The parser's state: the offset, and the first error. -/
structure PS where
  pos : Nat
  er : Int
def peekS (s : ByteArray) (p : PS) : Nat := if p.er = 0 then byteN s p.pos else 0
theorem peekS_ok {s : ByteArray} {p : PS} (h : p.er = 0) : peekS s p = byteN s p.pos := by simp [peekS, h]
theorem peekS_lt (s : ByteArray) (p : PS) : peekS s p < 256 := by
  unfold peekS; split
  · exact byteN_lt _ _
  · omega
theorem peekS_in {s : ByteArray} {p : PS} (h : peekS s p ≠ 0) : p.er = 0 ∧ p.pos < s.size := by
  unfold peekS at h
  by_cases he : p.er = 0
  · rw [if_pos he] at h
    refine ⟨he, ?_⟩
    unfold byteN at h
    by_cases hk : p.pos < s.size
    · exact hk
    · rw [dif_neg hk] at h; exact absurd rfl h
  · rw [if_neg he] at h; exact absurd rfl h
def PS.next (p : PS) : PS := ⟨p.pos + 1, p.er⟩
def failS (p : PS) (a : Nat) (e : Int) : PS := if p.er = 0 then ⟨a, e⟩ else p
def takeS (s : ByteArray) (p : PS) (c : Nat) : PS := if peekS s p = c then p.next else p
def expectS (s : ByteArray) (p : PS) (c : Nat) : PS := if peekS s p = c then p.next else failS p p.pos 1

def printN (c : Nat) : Bool := decide (32 ≤ c ∧ c ≤ 126)
def literalS (s : ByteArray) (sp : List UInt8) (p : PS) : List (Nat × Nat) × PS :=
  if printN (peekS s p) = true ∧ peekS s p ≠ 92 ∧ UInt8.ofNat (peekS s p) ∉ sp then ([(peekS s p, peekS s p)], p.next) else ([], failS p p.pos 1)
def escapedS (c : Nat) : List (Nat × Nat) :=
  if c = 100 then [(48, 57)]
  else if c = 119 then [(48, 57), (65, 90), (95, 95), (97, 122)]
  else if c = 115 then [(9, 9), (32, 32)]
  else if c = 110 then [(10, 10)]
  else if c = 116 then [(9, 9)]
  else if printN c = true ∧ letB c = false ∧ digB c = false then [(c, c)]
  else []
def escapeS (s : ByteArray) (p : PS) : List (Nat × Nat) × PS :=
  if escapedS (peekS s (expectS s p 92)) = [] then ([], failS (expectS s p 92) (expectS s p 92).pos 1)
  else (escapedS (peekS s (expectS s p 92)), (expectS s p 92).next)

/-- Names of captures. -/
def nameN (l : List UInt8) : Bool :=
  match l with
  | [] => false
  | c :: _ => decide (l.length ≤ 32) && letB c.toNat && l.all fun c => wrdB c.toNat
/-- The name and the colon at an offset: how long the name is. -/
def capS (s : ByteArray) (p : PS) : Option Nat :=
  if Lib.indexByte (s.extract p.pos s.size).data.toList 58 < 0 then none
  else if nameN ((s.extract p.pos s.size).data.toList.take (Lib.indexByte (s.extract p.pos s.size).data.toList 58).toNat) then some (Lib.indexByte (s.extract p.pos s.size).data.toList 58).toNat
  else none

/-- A bound: one or two digits. -/
def digitsS (s : ByteArray) (p : PS) : Nat :=
  if digB (peekS s p) then (if digB (peekS s p.next) then 2 else 1) else 0
def boundS (s : ByteArray) (p : PS) : Int × PS :=
  if digitsS s p = 0 then (0, failS p p.pos 1)
  else
    let v := valD ((s.extract p.pos (p.pos + digitsS s p)).data.toList)
    ((v : Int), if v > 40 then failS ⟨p.pos + digitsS s p, p.er⟩ (p.pos + digitsS s p) 2 else ⟨p.pos + digitsS s p, p.er⟩)
def boundsS (s : ByteArray) (p : PS) : (Int × Int) × PS :=
  let b := boundS s p
  if peekS s b.2 = 44 then
    if digB (peekS s b.2.next) then
      let h := boundS s b.2.next
      ((b.1, h.1), expectS s (if h.1 < b.1 then failS h.2 h.2.pos 2 else h.2) 125)
    else ((b.1, -1), expectS s b.2.next 125)
  else ((b.1, b.1), expectS s b.2 125)

section
variable (s : ByteArray) (ch br : PS → Nd × PS)
def parenS (p : PS) : Nd × PS :=
  match capS s p with
  | some n => (ndCap (s.extract p.pos (p.pos + n)) (ch ⟨p.pos + n + 1, p.er⟩).1, expectS s (ch ⟨p.pos + n + 1, p.er⟩).2 41)
  | none => ((ch p).1, expectS s (ch p).2 41)
def outside : List UInt8 := [40, 41, 91, 93, 123, 125, 42, 43, 63, 124, 46, 94, 36]
def atomS (p : PS) : Nd × PS :=
  if peekS s p = 92 then (ndClass (escapeS s p).1, (escapeS s p).2)
  else if peekS s p = 40 then parenS s ch p.next
  else if peekS s p = 91 then br p.next
  else if peekS s p = 46 then (ndClass [(0, 9), (11, 255)], p.next)
  else if peekS s p = 94 then (ndLeaf 6, p.next)
  else if peekS s p = 36 then (ndLeaf 7, p.next)
  else (ndClass (literalS s outside p).1, (literalS s outside p).2)
def repeatS (p : PS) : Nd × PS :=
  let a := atomS s ch br p
  if peekS s a.2 = 42 then (ndRep a.1 0 (-1), a.2.next)
  else if peekS s a.2 = 43 then (ndRep a.1 1 (-1), a.2.next)
  else if peekS s a.2 = 63 then (ndRep a.1 0 1, a.2.next)
  else if peekS s a.2 = 123 then (ndRep a.1 (boundsS s a.2.next).1.1 (boundsS s a.2.next).1.2, (boundsS s a.2.next).2)
  else a
def endsCat (c : Nat) : Bool := c == 0 || c == 124 || c == 41
def catLoop : Nat → PS → List Nd → List Nd × PS
  | 0, p, acc => (acc, p)
  | k + 1, p, acc => if endsCat (peekS s p) then (acc, p) else catLoop k (repeatS s ch br p).2 (acc ++ [(repeatS s ch br p).1])
def catOf : List Nd → Nd
  | [] => ndLeaf 0
  | [x] => x
  | l => ndKids 2 l
def concatS (p : PS) : Nd × PS := (catOf (catLoop s ch br (s.size + 2) p []).1, (catLoop s ch br (s.size + 2) p []).2)
def chLoop : Nat → PS → List Nd → List Nd × PS
  | 0, p, acc => (acc, p)
  | k + 1, p, acc => if peekS s p = 124 then chLoop k (concatS s ch br p.next).2 (acc ++ [(concatS s ch br p.next).1]) else (acc, p)
def chOf : List Nd → Nd
  | [] => ndLeaf 0
  | [x] => x
  | l => ndKids 3 l
def choiceS (p : PS) : Nd × PS :=
  let c := concatS s ch br p
  (chOf (chLoop s ch br (s.size + 2) c.2 [c.1]).1, (chLoop s ch br (s.size + 2) c.2 [c.1]).2)
end
def choiceF (s : ByteArray) (br : PS → Nd × PS) : Nat → PS → Nd × PS
  | 0, p => (ndLeaf 0, p)
  | n + 1, p => choiceS s (choiceF s br n) br p

/-- How a reader goes on: not back, not behind the end. -/
structure Adv (s : ByteArray) (p q : PS) : Prop where
  le : q.pos ≤ s.size
  er : q.er = 0 → p.er = 0 ∧ p.pos ≤ q.pos
structure AdvS (s : ByteArray) (p q : PS) : Prop where
  le : q.pos ≤ s.size
  er : q.er = 0 → p.er = 0 ∧ p.pos < q.pos
theorem AdvS.adv {s : ByteArray} {p q : PS} (h : AdvS s p q) : Adv s p q := ⟨h.le, fun e => ⟨(h.er e).1, Nat.le_of_lt (h.er e).2⟩⟩
theorem Adv.refl {s : ByteArray} {p : PS} (h : p.pos ≤ s.size) : Adv s p p := ⟨h, fun e => ⟨e, Nat.le_refl _⟩⟩
theorem Adv.trans {s : ByteArray} {p q r : PS} (h : Adv s p q) (k : Adv s q r) : Adv s p r :=
  ⟨k.le, fun e => ⟨(h.er (k.er e).1).1, Nat.le_trans (h.er (k.er e).1).2 (k.er e).2⟩⟩
theorem AdvS.trans {s : ByteArray} {p q r : PS} (h : AdvS s p q) (k : Adv s q r) : AdvS s p r :=
  ⟨k.le, fun e => ⟨(h.er (k.er e).1).1, Nat.lt_of_lt_of_le (h.er (k.er e).1).2 (k.er e).2⟩⟩
theorem Adv.transS {s : ByteArray} {p q r : PS} (h : Adv s p q) (k : AdvS s q r) : AdvS s p r :=
  ⟨k.le, fun e => ⟨(h.er (k.er e).1).1, Nat.lt_of_le_of_lt (h.er (k.er e).1).2 (k.er e).2⟩⟩
theorem next_adv {s : ByteArray} {p : PS} (h : peekS s p ≠ 0) : AdvS s p p.next := by
  obtain ⟨he, hk⟩ := peekS_in h
  exact ⟨by simp [PS.next]; omega, fun _ => ⟨he, by simp [PS.next]⟩⟩
theorem fail_advS {s : ByteArray} {p : PS} (a : Nat) (e : Int) (he : e ≠ 0) (h : p.pos ≤ s.size) (ha : a ≤ s.size) : AdvS s p (failS p a e) := by
  unfold failS
  by_cases h0 : p.er = 0
  · rw [if_pos h0]; exact ⟨ha, fun x => absurd x he⟩
  · rw [if_neg h0]; exact ⟨h, fun x => absurd x h0⟩
theorem expect_advS {s : ByteArray} {p : PS} (c : Nat) (hc : c ≠ 0) (h : p.pos ≤ s.size) : AdvS s p (expectS s p c) := by
  unfold expectS
  by_cases h0 : peekS s p = c
  · rw [if_pos h0]; exact next_adv (by omega)
  · rw [if_neg h0]; exact fail_advS _ _ (by omega) h h
theorem literal_advS {s : ByteArray} {p : PS} (sp : List UInt8) (h : p.pos ≤ s.size) : AdvS s p (literalS s sp p).2 := by
  unfold literalS
  by_cases h0 : printN (peekS s p) = true ∧ peekS s p ≠ 92 ∧ UInt8.ofNat (peekS s p) ∉ sp
  · rw [if_pos h0]; exact next_adv (by have := h0.1; simp [printN] at this; omega)
  · rw [if_neg h0]; exact fail_advS _ _ (by omega) h h
theorem escaped_zero : escapedS 0 = [] := by decide
theorem escape_advS {s : ByteArray} {p : PS} (h : p.pos ≤ s.size) : AdvS s p (escapeS s p).2 := by
  have h1 := expect_advS (s := s) (p := p) 92 (by omega) h
  unfold escapeS
  by_cases h0 : escapedS (peekS s (expectS s p 92)) = []
  · rw [if_pos h0]; exact h1.trans (fail_advS _ _ (by omega) h1.le h1.le).adv
  · rw [if_neg h0]
    refine h1.trans (next_adv (fun e => h0 (by rw [e]; exact escaped_zero))).adv
end Go.Proofs.Ytfkgicakiapmaaa
