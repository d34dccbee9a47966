/- Package multiline: what the blocks of some lines cover; append of blocks. -/
import Derived.Test.YtfkgicakiapmaaaMlVd
import Derived.Laws.AppendOwnNone
namespace Go.Proofs.Ytfkgicakiapmaaa
open Go Go.RowKit

/-- The lines of some blocks, each with whether its block is one of a line that is too long. -/
def covL (bs : List PBk) : List (LnV × Bool) := (bs.map fun b => b.ls.map fun y => (y, decide (b.rule ≠ ⟨#[]⟩))).flatten
def opnL (opn : List LnV) : List (LnV × Bool) := opn.map fun y => (y, false)
def linL (ls : List FrV) : List (LnV × Bool) := ls.map fun x => (x.ln, x.tl)
def GdB (b : PBk) : Prop := b.ls ≠ [] ∧ b.fr = headO b.ls ∧ b.en = lastEnd b.ls ∧ (b.rule ≠ ⟨#[]⟩ → b.ls.length = 1)
structure CovS (bs : List PBk) (opn : List LnV) (ls : List FrV) : Prop where
  l : covL bs ++ opnL opn = linL ls
  g : ∀ b ∈ bs, GdB b
theorem covL_app (a b : List PBk) : covL (a ++ b) = covL a ++ covL b := by simp [covL]
theorem covL_flB (opn : List LnV) : covL (flB opn) = opnL opn := by
  unfold flB
  split
  · rename_i h
    subst h
    rfl
  · simp [covL, opnL, mkB]
theorem gd_flB (opn : List LnV) : ∀ b ∈ flB opn, GdB b := by
  intro b hb
  unfold flB at hb
  split at hb
  · exact absurd hb (by simp)
  · rename_i h
    simp only [List.mem_singleton] at hb
    subst hb
    exact ⟨h, rfl, rfl, fun h => absurd rfl h⟩
theorem CovS.init : CovS [] [] [] := ⟨rfl, fun b hb => absurd hb (by simp)⟩
theorem CovS.flush {bs : List PBk} {opn : List LnV} {ls : List FrV} (h : CovS bs opn ls) : CovS (bs ++ flB opn) [] ls :=
  ⟨by rw [covL_app, covL_flB, h.l.symm]; simp [opnL], fun b hb => by
    rcases List.mem_append.1 hb with hb | hb
    · exact h.g b hb
    · exact gd_flB opn b hb⟩
theorem linL_snoc (ls : List FrV) (x : FrV) : linL (ls ++ [x]) = linL ls ++ [(x.ln, x.tl)] := by simp [linL]
theorem CovS.add {bs : List PBk} {opn : List LnV} {ls : List FrV} (h : CovS bs opn ls) (m : ByteArray → Bool) (emp : Bool) (x : FrV) (he : emp = true → opn = []) (ht : x.tl = true → x.ln.txt = ⟨#[]⟩) :
    CovS (bs ++ addB m emp opn x.ln x.tl) (addO m emp opn x.ln x.tl) (ls ++ [x]) := by
  obtain ⟨⟨off, len, txt⟩, dmg, tl⟩ := x
  dsimp only at ht ⊢
  have hl := h.l
  have key : covL (addB m emp opn ⟨off, len, txt⟩ tl) ++ opnL (addO m emp opn ⟨off, len, txt⟩ tl) = opnL opn ++ [(⟨off, len, txt⟩, tl)] := by
    unfold addB addO
    split
    · rename_i htl
      obtain rfl := ht htl
      rw [covL_app, covL_flB, htl]
      have : (tlR ≠ (⟨#[]⟩ : ByteArray)) := by decide
      simp [covL, mkB, opnL, this]
    · rename_i htl
      have htl : tl = false := by simpa using htl
      subst htl
      split
      · rename_i hem
        rw [he hem]
        simp [covL, mkB, opnL]
      · split
        · simp [covL, opnL]
        · rw [covL_flB]
          simp [opnL]
  refine ⟨?_, fun b hb => ?_⟩
  · rw [covL_app, linL_snoc, ← hl, List.append_assoc, key, ← List.append_assoc]
  · rcases List.mem_append.1 hb with hb | hb
    · exact h.g b hb
    · unfold addB at hb
      split at hb
      · rcases List.mem_append.1 hb with hb | hb
        · exact gd_flB opn b hb
        · simp only [List.mem_singleton] at hb
          subst hb
          exact ⟨by simp [mkB], rfl, rfl, fun _ => rfl⟩
      · split at hb
        · simp only [List.mem_singleton] at hb
          subst hb
          exact ⟨by simp [mkB], rfl, rfl, fun h => absurd rfl h⟩
        · split at hb
          · exact absurd hb (by simp)
          · exact gd_flB opn b hb
theorem addO_emp {m : ByteArray → Bool} {emp : Bool} {opn : List LnV} {x : LnV} {tl : Bool} (h : emp = true → opn = []) (he : emp = true) : addO m emp opn x tl = [] := by
  unfold addO
  rw [h he, he]
  simp
/-- How many lines the first j blocks hold. -/
def cnt (bs : List PBk) (j : Nat) : Nat := (covL (bs.take j)).length
theorem cnt_zero (bs : List PBk) : cnt bs 0 = 0 := rfl
theorem cnt_succ {bs : List PBk} {j : Nat} (h : j < bs.length) : cnt bs (j + 1) = cnt bs j + bs[j].ls.length := by
  unfold cnt
  rw [List.take_add_one, List.getElem?_eq_getElem h, covL_app, List.length_append]
  simp [covL]
theorem cnt_all {bs : List PBk} {ls : List FrV} (h : CovS bs [] ls) : cnt bs bs.length = ls.length := by
  unfold cnt
  have := congrArg List.length h.l
  simpa [opnL, linL] using this
theorem cov_get {bs : List PBk} {ls : List FrV} (h : CovS bs [] ls) {j : Nat} (hj : j < bs.length) {i : Nat} (hi : i < bs[j].ls.length) : ∃ hk : cnt bs j + i < ls.length, ls[cnt bs j + i].ln = bs[j].ls[i] ∧ ls[cnt bs j + i].tl = decide (bs[j].rule ≠ ⟨#[]⟩) := by
  have h1 : linL ls = covL (bs.take j) ++ ((bs[j].ls.map fun y => (y, decide (bs[j].rule ≠ ⟨#[]⟩))) ++ covL (bs.drop (j + 1))) := by
    have h2 := h.l
    have h3 : bs = bs.take j ++ (bs[j] :: bs.drop (j + 1)) := by rw [← List.drop_eq_getElem_cons hj, List.take_append_drop]
    have h4 : covL bs = covL (bs.take j) ++ covL (bs[j] :: bs.drop (j + 1)) := by rw [← covL_app]; congr 1
    rw [← h2, h4]
    show (covL (bs.take j) ++ covL ([bs[j]] ++ bs.drop (j + 1))) ++ [] = _
    rw [covL_app, List.append_nil]
    congr 2
    simp [covL]
  have hlen : (linL ls).length = ls.length := by simp [linL]
  have hk : cnt bs j + i < ls.length := by
    rw [← hlen, h1]
    simp only [List.length_append, List.length_map]
    show (covL (bs.take j)).length + i < _
    omega
  have h5 : (linL ls)[cnt bs j + i]? = some (bs[j].ls[i], decide (bs[j].rule ≠ ⟨#[]⟩)) := by
    rw [h1, List.getElem?_append_right (by show (covL (bs.take j)).length ≤ (covL (bs.take j)).length + i; omega)]
    show (_ ++ _)[(covL (bs.take j)).length + i - (covL (bs.take j)).length]? = _
    rw [Nat.add_sub_cancel_left, List.getElem?_append_left (by simpa using hi), List.getElem?_map, List.getElem?_eq_getElem hi]
    rfl
  have h6 : (linL ls)[cnt bs j + i]? = some (ls[cnt bs j + i].ln, ls[cnt bs j + i].tl) := by
    unfold linL
    rw [List.getElem?_map, List.getElem?_eq_getElem hk]
    rfl
  rw [h6] at h5
  obtain ⟨e1, e2⟩ := Prod.mk.inj (Option.some.inj h5)
  exact ⟨hk, e1, e2⟩
theorem lastEnd_at (l : List LnV) (i : Nat) (hi : i < l.length) (h : i + 1 = l.length) : lastEnd l = l[i].off + l[i].len := by
  unfold lastEnd
  rw [List.getLast?_eq_getElem?, show l.length - 1 = i by omega, List.getElem?_eq_getElem hi]
  rfl
theorem headO_at (l : List LnV) (h : 0 < l.length) : headO l = l[0].off := by
  unfold headO
  rw [List.head?_eq_getElem?, List.getElem?_eq_getElem h]
  rfl

theorem bksC_one (l : List BkV) (hl : ∀ b ∈ l, ∃ a n c, b.sl = .slice a n c) : ∀ u ∈ bksC l, u.oneCell' = true := by
  intro u hu
  unfold bksC at hu
  rw [List.mem_flatten] at hu
  obtain ⟨y, hy, hu⟩ := hu
  rw [List.mem_map] at hy
  obtain ⟨b, hb, rfl⟩ := hy
  obtain ⟨a, n, c, e⟩ := hl b hb
  unfold bkC at hu
  rw [e] at hu
  simp only [List.mem_cons, List.not_mem_nil, or_false] at hu
  rcases hu with rfl | rfl | rfl | rfl <;> rfl
theorem bksC_app (a b : List BkV) : bksC (a ++ b) = bksC a ++ bksC b := by simp [bksC]
/-- append of a row of blocks onto a row of the call's own. -/
theorem wpList_append_bks {w : World} {ops : Array Oper} {rest : List Oper} {o : Oper} {a : Act} {Q : Exit → Act → World → Prop} (hgd : o.guard = none) (s x : Operand)
    (ho : o.op = .call { callee := .builtin .append, args := #[s, x], argTypes := #[36, 36] })
    (base : Nat) (v : Value) (xs : List BkV) (hs : a.eval s = v) (hown : w.ownsRow base 44 4 v xs.length (bksC xs))
    (base2 : Nat) (v2 : Value) (ys : List BkV) (hx : a.eval x = v2) (hown2 : w.ownsRow base2 44 4 v2 ys.length (bksC ys)) (hys : ∀ b ∈ ys, ElB b w)
    (h63 : xs.length + ys.length ≤ 1000000) (hbase : base ≤ w.heap.size)
    (h : ∀ v' w', w'.ownsRow base 44 4 v' (xs ++ ys).length (bksC (xs ++ ys)) → w.grownBy w' v.ownBlock → wpList Try.prog ops Q rest (a.put o.dst v') w') :
    wpList Try.prog ops Q (o :: rest) a w := by
  obtain ⟨i0, hi, hz0, hz1, hz2⟩ := info_parts infoBk
  rcases row_form hown2 with ⟨h1, h2⟩ | ⟨g, c, h1, -, hg, h3, -⟩
  · have hnil : ys = [] := List.length_eq_zero_iff.1 h2
    subst hnil
    refine wpList_append_own_none hgd s x 36 ho base 44 i0 4 Try.underlying36 hi v xs.length (bksC xs) hs hown (by rw [hx, h1]) ?_
    refine h v w ?_ (World.grownBy.refl _ _)
    rw [List.append_nil]
    exact hown
  · subst h1
    refine wpList_append_own_at _ hgd s x 36 ho base 44 i0 _ 4 56 Try.underlying36 hi hz0 hz1 hz2 rfl (by decide) v xs.length (bksC xs) hs hown ⟨g, 0, none⟩ ys.length c (bksC ys) hx hown2.1 (World.ownsRow.cells hown2 rfl) (bksC_one ys (fun b hb => row_slice (hys b hb))) (by unfold maxLen; omega) (by omega) hbase ?_
    intro v' w' hr hgr _ _
    refine h v' w' ?_ hgr
    rw [List.length_append, bksC_app]
    exact hr
end Go.Proofs.Ytfkgicakiapmaaa
