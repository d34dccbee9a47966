/- The contracts of package pattern's Check and Parse, where brackets and bounds keep theirs. -/
import Derived.Test.YtfkgicakiapmaaaPatVis
import Derived.BigRegion
namespace Go.Proofs.Ytfkgicakiapmaaa
open Go.RowKit

theorem strs_of_own {w : World} {base : Nat} {nv : Value} {L : List ByteArray} (h : w.ownsRow base 9 1 nv L.length (L.map Value.string)) (hl : L.length ≤ 4096) (hs : ∀ x ∈ L, x.size ≤ maxLen) : StrsIn w nv L := by
  have h2 := h.2
  rcases h2 with ⟨hv, h0⟩ | ⟨g, cap, cur, hv, -⟩
  · exact ⟨none, 0, by rw [hv, h0], hl, hs, fun i hi => by omega⟩
  · refine ⟨_, _, hv, hl, hs, fun i hi => ⟨g, rfl, ?_⟩⟩
    have := h.cells (g := g) (by rw [hv]; rfl) i (.string L[i]) (by simp [hi])
    rw [← this]
    unfold Addr.add
    by_cases hz : i = 0
    · rw [if_pos hz, hz]
    · rw [if_neg hz]; simp

set_option maxRecDepth 100000 in
set_option maxHeartbeats 4000000 in
theorem check_any (t : Nd) (v : Value) (w : World) (h : NodeIn 0 w t v) :
    Calls Try.prog 60 #[v] w fun e w' => e = .returned (.int .i64 (chkN t)) ∧ Below w.heap.size w w' := by
  have hv := h
  obtain ⟨ra, rc, ka, kc, rfl⟩ := hv.shape
  clear hv
  have hb : Below w.heap.size w ((w.alloc (.cells #[.int .i64 t.op, .slice ra t.rs.length rc, .string t.nm, .slice ka t.kids.length kc, .int .i64 t.mn, .int .i64 t.mx] 27)).alloc (.cells #[.int .i64 0, .slice none 0 0] 151)) :=
    ((Below.refl _ w).alloc (Nat.le_refl _) _).alloc (by rw [Go.Deep.nblk_alloc]; omega) _
  have hck : CkAt w.heap.size (w.heap.size + 1) 0 [] ((w.alloc (.cells #[.int .i64 t.op, .slice ra t.rs.length rc, .string t.nm, .slice ka t.kids.length kc, .int .i64 t.mn, .int .i64 t.mx] 27)).alloc (.cells #[.int .i64 0, .slice none 0 0] 151)) := by
    refine ⟨by omega, ⟨.slice none 0 0, ?_, World.ownsRow_nil _ _ _ _, by simp [Value.ownBlock]⟩, by simp, by simp⟩
    have := heap_alloc_new (w.alloc (.cells #[.int .i64 t.op, .slice ra t.rs.length rc, .string t.nm, .slice ka t.kids.length kc, .int .i64 t.mn, .int .i64 t.mx] 27)) (.cells #[.int .i64 0, .slice none 0 0] 151)
    rw [Go.Deep.nblk_alloc] at this
    exact this
  have hvis := visit_any t w _ 0 _ _ 0 [] h hb hck (by omega) (by omega)
  have hle := vis_le t 0 (0, [])
  unfold chkN
  obtain ⟨⟨er, k2, L2⟩, hx⟩ : ∃ x, visN t 0 (0, []) = x := ⟨_, rfl⟩
  rw [hx] at hvis hle ⊢
  simp only at hvis hle ⊢
  have HV := Lib.hid hvis
  have HL := Lib.hid hle
  clear hvis hle hx hck h hb
  by_cases h0 : er = 0
  · subst h0
    rw [if_neg (by simp)]
    go_enter Try.func60, Try.ntmps60
    go_wp2_with fail
    refine (HV.out).mono ?_
    rintro e w2 ⟨rfl, hck2, hb2⟩
    have hk2 := HL.out trivial
    obtain ⟨nv, n1, n2, -⟩ := hck2.ex
    have hst := strs_of_own n2 (by have := hck2.le; omega) hck2.sz
    have hst2 := hst
    obtain ⟨na, nc, rfl, -⟩ := hst2
    have m1 : w2.cell? ⟨w.heap.size + 1, 1, none⟩ = some (.slice na L2.length nc) := by rw [Lib.cell_of_heap n1]; rfl
    have HS := Lib.hid (checkNames_any L2 _ w2 hst)
    clear n1 n2 hst hk2
    go_wp2_with fail
    refine (HS.out).mono ?_
    rintro e w3 ⟨rfl, hb3⟩
    go_wp2
    go_ret
    exact ⟨rfl, hb2.trans (hb3.mono hb2.size)⟩
  · rw [if_pos h0]
    have e1 : (er == 0) = false := by rw [beq_eq_false_iff_ne]; exact h0
    have e2 : (er != 0) = true := by rw [bne_iff_ne]; exact h0
    clear h0
    go_enter Try.func60, Try.ntmps60
    go_wp2_with fail
    refine (HV.out).mono ?_
    rintro e w2 ⟨rfl, hck2, hb2⟩
    go_wp2
    go_ret
    exact ⟨rfl, hb2⟩

theorem chLoop_adv {s : ByteArray} {n : Nat} {ch br : PS → Nd × PS} (hf : ∀ q, q.er = 0 → q.pos ≤ s.size → s.size - q.pos ≤ n → Adv s q (concatS s ch br q).2) :
    ∀ (k : Nat) (q : PS) (acc : List Nd), q.pos ≤ s.size → (q.er = 0 → s.size - q.pos ≤ n) → Adv s q (chLoop s ch br k q acc).2 := by
  intro k
  induction k with
  | zero => intro q acc hq _; exact Adv.refl hq
  | succ k ih =>
    intro q acc hq hn
    unfold chLoop
    by_cases hend : peekS s q = 124
    · rw [if_pos hend]
      obtain ⟨he, hql⟩ := peekS_in (s := s) (p := q) (by omega)
      have h0 := next_adv (s := s) (p := q) (by omega)
      have hn1 : s.size - q.next.pos ≤ n := by have := hn he; simp only [PS.next]; omega
      have h1 := hf q.next he h0.le hn1
      exact (h0.adv.trans h1).trans (ih _ _ h1.le fun e => by have := (h1.er e).2; omega)
    · rw [if_neg hend]; exact Adv.refl hq
/-- What Parse answers: the node, the offset, the error. -/
def parseN (s : ByteArray) (br : PS → Nd × PS) : Nd × Nat × Int :=
  if 400 < s.size then (ndLeaf 0, 0, 3)
  else
    let r := choiceF s br (s.size + 1) ⟨0, 0⟩
    if r.2.pos < s.size then (ndLeaf 0, (failS r.2 r.2.pos 1).pos, (failS r.2 r.2.pos 1).er)
    else if r.2.er ≠ 0 then (ndLeaf 0, r.2.pos, r.2.er)
    else if chkN r.1 ≠ 0 then (ndLeaf 0, r.2.pos, chkN r.1)
    else (r.1, r.2.pos, 0)
def ParseOut (lo : Nat) (w : World) (r : Nd × Nat × Int) (e : Ending) (w' : World) : Prop :=
  ∃ v, e = .returned (.tuple #[v, .int .i64 (r.2.1 : Int), .int .i64 r.2.2]) ∧ NodeIn lo w' r.1 v ∧ Below w.heap.size w w'
theorem keeps_drew {lo : Nat} {a w : World} (h : Keeps lo a w) : Keeps lo a w.drew := fun b o v hl hc => h b o v hl hc
theorem fr_below {B : Nat} {a w : World} (h : Fr B a w) (hB : a.heap.size ≤ B) : Below a.heap.size a w :=
  ⟨h.os, h.tape, h.output, h.size, fun i hi => World.grownBy.block h i hi (by simp; omega)⟩

end Go.Proofs.Ytfkgicakiapmaaa
