/- Read of the two files of FingerprintStays. Scan's loop over the map of two inodes: what is still to come. -/
import Derived.Test.YtbpboghjgbgjfaaFwB
import Derived.Test.YtbpboghjgbgjfaaFwC
import Derived.Maps.RangeWalk
namespace Go.Proofs.Ytbpboghjgbgjfaa
open Go.RowKit

/-- The two files, of the second of which z bytes are left. -/
def SnAt (l : List UInt8) (z : Nat) (nv fv : Value) (W : World) : Prop := ∃ dv dv2, FsAt [(bsP, 1), (bsQ, 2)] [⟨1, dv, false, true, 0⟩, ⟨2, dv2, true, (z == 0), (z : Int)⟩] [] nv fv (.slice none 0 0) W ∧ DtR W dv l ∧ DtR W dv2 l
theorem SnAt.below {l : List UInt8} {z : Nat} {nv fv : Value} {W W' : World} (h : SnAt l z nv fv W) (k : Below W.heap.size W W') : SnAt l z nv fv W' := by
  obtain ⟨dv, dv2, h1, h2, h3⟩ := h
  exact ⟨dv, dv2, h1.below k, row_below h2 k, row_below h3 k⟩
def lenS (l : List UInt8) (z : Nat) (i : Int) : Nat := if i = 1 then l.length else l.length - z
theorem first2 (x y : FileV) (hx : x.ino = 1) (hy : y.ino = 2) : Firsts (fun f => f.ino == (2 : Int)) [x, y] 1 := (named_Q2 x y hx hy).f
theorem first1 (x y : FileV) (hx : x.ino = 1) : Firsts (fun f => f.ino == (1 : Int)) [x, y] 0 := ⟨Nat.zero_le _, fun i h hi => by omega, fun h => by show (x.ino == 1) = true; rw [hx]; rfl⟩
theorem read_S {l : List UInt8} {z : Nat} {nv fv : Value} {w : World} (h : SnAt l z nv fv w) (hl0 : 0 < l.length) (hz : z ≤ l.length) (i : Int) (hi : i = 1 ∨ i = 2) :
    Calls Try.prog 17 #[.agg #[nv, fv, .slice none 0 0], .int .i64 i] w fun e w' => ∃ a c b1 b2 lf, e = .returned (.tuple #[.agg #[.int .i64 i, .slice a (lenS l z i) c, .bool b1, .bool b2, .int .i64 lf], .bool true]) ∧ BySl w' (.slice a (lenS l z i) c) (l.take (lenS l z i)) ∧ Below w.heap.size w w' := by
  obtain ⟨dv, dv2, h1, h2, h3⟩ := h
  rcases hi with rfl | rfl
  · have hby := DtR.by' h2
    obtain ⟨a, c, hdv, -⟩ := id hby
    refine (read_whole 1 0 h1 (first1 _ _ rfl) (by simp) (.inl rfl) ⟨_, _, _, hdv⟩).mono ?_
    rintro e w' ⟨he, hb⟩
    have e1 : lenS l z 1 = l.length := if_pos rfl
    rw [e1]
    subst hdv
    exact ⟨a, c, _, _, _, he, by simpa using hby.below hb, hb⟩
  · have e1 : lenS l z 2 = l.length - z := if_neg (by decide)
    rw [e1]
    have hby := DtR.by' h3
    rcases row_form h3 with ⟨-, h0⟩ | ⟨g, c, hdv, -, hg3, hc, hcm⟩
    · omega
    · subst hdv
      by_cases h0 : z = 0
      · subst h0
        refine (read_whole 2 1 h1 (first2 _ _ rfl rfl) (by simp) (.inr rfl) ⟨_, _, _, rfl⟩).mono ?_
        rintro e w' ⟨he, hb⟩
        exact ⟨_, c, _, _, _, he, by simpa using hby.below hb, hb⟩
      · have hz0 : (z == 0) = false := by simpa using h0
        refine (read_part 2 1 h1 (first2 _ _ rfl rfl) (by simp) ⟨rfl, hz0⟩ g z ⟨_, _, rfl, hc, Nat.le_trans hcm (by decide), hz⟩ rfl l.length ⟨_, rfl⟩).mono ?_
        rintro e w' ⟨he, hb⟩
        exact ⟨_, _, _, _, _, he, (hby.take (l.length - z) (by omega) _ (Nat.le_refl _)).below hb, hb⟩
end Go.Proofs.Ytbpboghjgbgjfaa

namespace Go.Proofs.Ytbpboghjgbgjfaa
open Go.RowKit Go.Maps Go.ChangeMaps

def kL (x : Int) : Lit := .int .i64 x
/-- Behind the inodes vs. -/
def Lf (vs : List Int) : Lit → Bool := fun z => Maps.has (mapP 2) z && !(vs.any fun x => z.sameKey (kL x))
theorem lf_nil : Maps.has (mapP 2) = Lf [] := by
  funext z
  unfold Lf
  simp
theorem lf_step (vs : List Int) (x : Int) : (fun z : Lit => Lf vs z && !z.sameKey (kL x)) = Lf (vs ++ [x]) := by
  funext z
  unfold Lf
  rw [List.any_append, Bool.not_or, Bool.and_assoc]
  simp
theorem same_int (x y : Int) : (kL x).sameKey (kL y) = (x == y) := by
  unfold kL
  rw [Bool.eq_iff_iff]
  simp [Lit.sameKey]
theorem mapP_has (x : Int) : Maps.has (mapP 2) (kL x) = (x == 1 || x == 2) := by
  have e : mapP 2 = .map [(kL 1, .held (.string (tP 0))), (kL 2, .held (.string (tP 1)))] := rfl
  rw [e, Maps.has_eq]
  simp only [List.any_cons, List.any_nil, Bool.or_false, same_int]
  rw [Bool.eq_iff_iff]
  simp only [Bool.or_eq_true, beq_iff_eq]
  omega
theorem lf_key {vs : List Int} {x : Int} (h : Lf vs (kL x) = true) : (x = 1 ∨ x = 2) ∧ x ∉ vs := by
  unfold Lf at h
  rw [Bool.and_eq_true_iff, mapP_has] at h
  refine ⟨by simpa using h.1, fun hm => ?_⟩
  have h2 := h.2
  rw [Bool.not_eq_true', List.any_eq_false] at h2
  exact h2 x hm (by rw [same_int]; simp)
theorem lf_done {vs : List Int} (h : ∀ kl, Lf vs kl = false) : (1 : Int) ∈ vs ∧ (2 : Int) ∈ vs := by
  have h1 : ∀ x : Int, (x = 1 ∨ x = 2) → x ∈ vs := fun x hx => by
    have h2 := h (kL x)
    unfold Lf at h2
    rw [mapP_has, show (x == 1 || x == 2) = true by simpa using hx, Bool.true_and, Bool.not_eq_false', List.any_eq_true] at h2
    obtain ⟨y, hy, he⟩ := h2
    rw [same_int] at he
    have : x = y := by simpa using he
    rw [this]; exact hy
  exact ⟨h1 1 (.inl rfl), h1 2 (.inr rfl)⟩
end Go.Proofs.Ytbpboghjgbgjfaa
