/- The contract of ranges of a byte set. -/
import Derived.Test.YtfmoidhpafpgnaaPatSet
import Derived.Test.YtfmoidhpafpgnaaPatCat
import Derived.Laws.OwnMore
import Derived.Maps.AppendAt
namespace Go.Proofs.Ytfmoidhpafpgnaa
open Go.RowKit

def setHi (l : List (Nat × Nat)) (v : Nat) : List (Nat × Nat) := l.set (l.length - 1) ((l.getD (l.length - 1) (0, 0)).1, v)
def rangesTo (f : Nat → Bool) : Nat → List (Nat × Nat)
  | 0 => []
  | k + 1 => if f k then (if 0 < k ∧ f (k - 1) = true then setHi (rangesTo f k) k else rangesTo f k ++ [(k, k)]) else rangesTo f k
theorem setHi_len (l : List (Nat × Nat)) (v : Nat) : (setHi l v).length = l.length := by simp [setHi]
theorem rangesTo_len (f : Nat → Bool) : ∀ k, (rangesTo f k).length ≤ k := by
  intro k
  induction k with
  | zero => simp [rangesTo]
  | succ k ih =>
    unfold rangesTo
    split
    · split
      · rw [setHi_len]; omega
      · simp; omega
    · omega
theorem rangesTo_pos (f : Nat → Bool) (k : Nat) (h : 0 < k) (hf : f (k - 1) = true) : 0 < (rangesTo f k).length := by
  induction k with
  | zero => omega
  | succ k ih =>
    have hf : f k = true := hf
    unfold rangesTo
    rw [if_pos hf]
    by_cases h2 : 0 < k ∧ f (k - 1) = true
    · rw [if_pos h2, setHi_len]; exact ih h2.1 h2.2
    · rw [if_neg h2]; simp
theorem rangesTo_lt (f : Nat → Bool) : ∀ k, k ≤ 256 → ∀ x ∈ rangesTo f k, x.1 < 256 ∧ x.2 < 256 := by
  intro k
  induction k with
  | zero => intro _ x hx; simp [rangesTo] at hx
  | succ k ih =>
    intro hk x hx
    unfold rangesTo at hx
    split at hx
    · split at hx
      · unfold setHi at hx
        rcases List.mem_or_eq_of_mem_set hx with h | h
        · exact ih (by omega) x h
        · subst h
          refine ⟨?_, by simp only; omega⟩
          have hl := rangesTo_pos f k (by rename_i h2; exact h2.1) (by rename_i h2; exact h2.2)
          have hm : (rangesTo f k).getD ((rangesTo f k).length - 1) (0, 0) ∈ rangesTo f k := by
            rw [List.getD_eq_getElem?_getD, List.getElem?_eq_getElem (by omega)]
            simp
          exact (ih (by omega) _ hm).1
      · rcases List.mem_append.1 hx with h | h
        · exact ih (by omega) x h
        · obtain rfl : x = (k, k) := by simpa using h
          exact ⟨by omega, by omega⟩
    · exact ih (by omega) x hx

def rsList (l : List (Nat × Nat)) : List Value := l.flatMap fun x => [Value.int .u8 (x.1 : Int), Value.int .u8 (x.2 : Int)]
theorem rsList_len (l : List (Nat × Nat)) : (rsList l).length = l.length * 2 := by
  induction l with
  | nil => rfl
  | cons x r ih => simp [rsList] at ih ⊢; omega
theorem rsList_snoc (l : List (Nat × Nat)) (a b : Nat) : rsList (l ++ [(a, b)]) = rsList l ++ [.int .u8 (a : Int), .int .u8 (b : Int)] := by simp [rsList]
theorem rsList_get (l : List (Nat × Nat)) (i : Nat) (h : i < l.length) : (rsList l)[i * 2]? = some (.int .u8 (l[i].1 : Int)) ∧ (rsList l)[i * 2 + 1]? = some (.int .u8 (l[i].2 : Int)) := by
  have := rsCells_get l i h
  simpa [rsCells, rsList] using this
theorem rsList_set (l : List (Nat × Nat)) (m v : Nat) (h : l.length = m + 1) : rsList (setHi l v) = (rsList l).set (m * 2 + 1) (.int .u8 (v : Int)) := by
  have key : ∀ (l : List (Nat × Nat)) (m : Nat) (h : m < l.length), rsList (l.set m (l[m].1, v)) = (rsList l).set (m * 2 + 1) (.int .u8 (v : Int)) := by
    intro l
    induction l with
    | nil => intro m h; simp at h
    | cons x r ih =>
      intro m h
      match m with
      | 0 => simp [rsList]
      | m + 1 =>
        have := ih m (by simpa using h)
        rw [show (m + 1) * 2 + 1 = m * 2 + 1 + 2 from by omega]
        simpa [rsList] using this
  have := key l m (by omega)
  unfold setHi
  rw [show l.length - 1 = m from by omega, List.getD_eq_getElem?_getD, List.getElem?_eq_getElem (by omega)]
  exact this

theorem infoRange : (Try.prog.info? 46).map (fun i => (i.zero, i.size, i.bytes)) = some (some (.agg #[.int .u8 0, .int .u8 0]), 2, 2) := by kernel_rfl
theorem below_grown {n : Nat} {w w1 w2 : World} {row : Option Nat} (h : Below n w w1) (k : w1.grownBy w2 row) (hn : n ≤ w1.heap.size) (hr : ∀ b, row = some b → n ≤ b) : Below n w w2 :=
  ⟨k.os.trans h.os, k.tape.trans h.tape, k.output.trans h.output, Nat.le_trans h.size k.size, fun i hi => (k.block i (by omega) (fun e => by have := hr i e.symm; omega)).trans (h.block i hi)⟩

/-- What ranges' loop holds. -/
structure RgAt (f : Nat → Bool) (w : World) (v : Value) (wr : World) (k : Nat) : Prop where
  own : wr.ownsRow (w.heap.size + 1) 46 2 v (rangesTo f k).length (rsList (rangesTo f k))
  set : SetAt w.heap.size f wr
  bel : Below w.heap.size w wr
theorem RgAt.size {f : Nat → Bool} {w : World} {v : Value} {wr : World} {k : Nat} (h : RgAt f w v wr k) : w.heap.size + 1 ≤ wr.heap.size := h.set.lt
theorem RgAt.slice {f : Nat → Bool} {w : World} {v : Value} {wr : World} {k : Nat} (h : RgAt f w v wr k) : ∃ a c, v = .slice a (rangesTo f k).length c := by
  rcases h.own.2 with ⟨hv, h0⟩ | ⟨g, cap, cur, hv, -⟩
  · exact ⟨none, 0, by rw [hv, h0]⟩
  · exact ⟨_, _, hv⟩
theorem RgAt.some {f : Nat → Bool} {w : World} {v : Value} {wr : World} {k : Nat} (h : RgAt f w v wr k) (hp : 0 < (rangesTo f k).length) : ∃ g c, v = .slice (some ⟨g, 0, none⟩) (rangesTo f k).length c ∧ w.heap.size < g := by
  rcases h.own.2 with ⟨hv, h0⟩ | ⟨g, cap, cur, hv, hg, -⟩
  · omega
  · exact ⟨_, _, hv, hg⟩
theorem RgAt.rowLe {f : Nat → Bool} {w : World} {v : Value} {wr : World} {k : Nat} (h : RgAt f w v wr k) : ∀ b, v.ownBlock = Option.some b → w.heap.size ≤ b := fun b hb => by have := (h.own.lt b hb).1; omega
theorem RgAt.rowNe {f : Nat → Bool} {w : World} {v : Value} {wr : World} {k : Nat} (h : RgAt f w v wr k) : Option.some w.heap.size ≠ v.ownBlock := fun e => by have := (h.own.lt _ e.symm).1; omega
theorem RgAt.noRow {f : Nat → Bool} {w : World} {v : Value} {wr : World} {k : Nat} (_h : RgAt f w v wr k) : v.ownBlock = none ∨ v.ownBlock ≠ none := by
  cases v.ownBlock with
  | none => exact .inl rfl
  | some a => exact .inr (by simp)
theorem ranges_of_own {lo : Nat} {w : World} {v : Value} {l : List (Nat × Nat)} (h : w.ownsRow lo 46 2 v l.length (rsList l)) (hl : l.length ≤ 256) (hb : ∀ x ∈ l, x.1 < 256 ∧ x.2 < 256) : RangesIn lo w v l := by
  have h2 := h.2
  rcases h2 with ⟨hv, h0⟩ | ⟨g, cap, cur, hv, hlo, -⟩
  · exact ⟨none, 0, by rw [hv, h0], by unfold maxLen; omega, hb, fun i hi => by omega⟩
  · subst hv
    refine ⟨_, _, rfl, by unfold maxLen; omega, hb, fun i hi => ⟨g, 0, rfl, hlo, ?_, ?_⟩⟩
    · rw [Nat.zero_add, h.cellAt (i * 2) (by omega)]; exact (rsList_get l i hi).1
    · rw [Nat.zero_add, h.cellAt (i * 2 + 1) (by omega)]; exact (rsList_get l i hi).2

def rangesS (f : Nat → Bool) : List (Nat × Nat) := rangesTo f 256

set_option maxRecDepth 100000 in
set_option maxHeartbeats 8000000 in
theorem ranges_own (f : Nat → Bool) (w : World) :
    Calls Try.prog 59 #[.agg (rowB f)] w fun e w' => ∃ v, e = .returned v ∧ w'.ownsRow (w.heap.size + 1) 46 2 v (rangesS f).length (rsList (rangesS f)) ∧ Below w.heap.size w w' := by
  obtain ⟨i0, hi, hz0, hz1, hz2⟩ := info_parts infoRange
  have hbr := fun a b W => byteRange_any a b W
  have HB := Lib.hid hbr
  clear hbr
  go_enter Try.func59, Try.ntmps59
  go_wp2_with (with_reducible refine wpList_load_row rfl 82 (.tmp 1) rfl w.heap.size rfl 82 (rowB f) (0, 0) _ (heap_alloc_new _ _) Try.underlying82 rfl (by rw [rowB_size]; exact sizeSet) ?_)
  go_loopw [3, 7] (fun v i wr => ∃ k : Nat, k ≤ 256 ∧ i = .int .i64 k ∧ RgAt f w v wr k) (fun _ i _ => 256 - (intOf i).toNat)
  case atStart => exact ⟨0, by omega, rfl, World.ownsRow_nil _ _ _ _, heap_alloc_new _ _, (Below.refl _ w).alloc (Nat.le_refl _) _⟩
  case round =>
    obtain ⟨k, hk, rfl, hat⟩ := hrel
    by_cases hlt : k < 256
    · have hi8 := fun q W => run_index_set f q k hlt W
      by_cases hfk : f k = true
      · by_cases hp : 0 < k ∧ f (k - 1) = true
        · obtain ⟨j, rfl⟩ : ∃ j, k = j + 1 := ⟨k - 1, by omega⟩
          have hpos := rangesTo_pos f (j + 1) hp.1 hp.2
          obtain ⟨g, c, rfl, hg⟩ := hat.some hpos
          have hT : rangesTo f (j + 1 + 1) = setHi (rangesTo f (j + 1)) (j + 1) := by rw [rangesTo, if_pos hfk, if_pos hp]
          have hle := rangesTo_len f (j + 1)
          have hpr : f j = true := hp.2
          have hcj := hat.set.cell j (by omega)
          rw [hpr] at hcj
          obtain ⟨m, hm⟩ : ∃ m, (rangesTo f (j + 1)).length = m + 1 := ⟨(rangesTo f (j + 1)).length - 1, by omega⟩
          have hfz := hat.own.frozenAt (m * 2 + 1)
          have hzz := hat.own.cellAt (m * 2 + 1) (by omega)
          rw [(rsList_get _ m (by omega)).2] at hzz
          obtain ⟨z, hzz2⟩ : ∃ z, wr.cell? ⟨g, m * 2 + 1, none⟩ = some z := ⟨_, hzz⟩
          clear hzz
          have hst := hat.own.stored (m * 2 + 1) (.int .u8 ((j + 1 : Nat) : Int))
          rw [← rsList_set _ m (j + 1) hm] at hst
          have KA := Lib.hid hat
          have KT := Lib.hid hT
          have KM := Lib.hid (And.intro hm hst)
          rw [hm] at hle ⊢
          rw [hfk] at hi8
          push_cast at hi8
          clear hat hT hst hm hp hpr hfk hpos
          go_wp2
          go_roundw
          case rel =>
            refine ⟨j + 1 + 1, by omega, by simp, ?_, ?_, ?_⟩
            · rw [KT.out, setHi_len]
              have := KM.out.2.1
              rw [KM.out.1] at this ⊢
              exact this
            · exact (Below.heap_setCell _ ⟨g, m * 2 + 1, none⟩ _ _ (by simp only [ne_eq]; omega)).trans KA.out.set
            · exact below_grown KA.out.bel KM.out.2.2 (by have := KA.out.size; omega) (fun b hb => by have := Option.some.inj hb; omega)
          case measure => first | (simp [intOf]; omega) | simp [intOf]
        · have hT : rangesTo f (k + 1) = rangesTo f k ++ [(k, k)] := by rw [rangesTo, if_pos hfk, if_neg hp]
          have hle := rangesTo_len f k
          obtain ⟨va, vc, rfl⟩ := hat.slice
          have KT := Lib.hid hT
          rw [hfk] at hi8
          clear hT hfk
          by_cases hk0 : k = 0
          · subst hk0
            have hi80 : ∀ q W, (Instr.index 82 (.agg (rowB f)) (.int q 0)).run Try.prog W = .ok (.bool true) W := hi8
            have KA := Lib.hid hat
            clear hat hp hi8
            go_wp2_with fail
            refine (HB.out _ _ _).mono ?_
            rintro e w1 ⟨rfl, hb1⟩
            have hbz := hb1.size
            have ho1 := (KA.out.own.kept (row := none) ⟨hb1.os, hb1.tape, hb1.output, hb1.size, fun i hi _ => hb1.block i hi⟩ (KA.out.noRow)).alloc (.cells #[.int .u8 0, .int .u8 0] 46)
            have KO := Lib.hid ho1
            have hz := KA.out.size
            clear ho1
            go_wp2_with (at_builtin; refine wpList_append_own_at _ rfl (.tmp 11) (.tmp 17) 22 rfl (w.heap.size + 1) 46 i0 (.agg #[.int .u8 0, .int .u8 0]) 2 2 Try.underlying22 hi hz0 hz1 hz2 rfl (by decide) _ _ _ rfl KO.out ⟨w1.heap.size, 0, none⟩ 1 1 [.int .u8 0, .int .u8 0] rfl rfl ?c1 ?c2 ?c3 ?c4 ?c5 ?_)
            case c1 => exact new_cells _ _ _
            case c2 => intro u hu; simp only [List.mem_cons, List.not_mem_nil, or_false] at hu; rcases hu with rfl | rfl <;> rfl
            case c3 => unfold maxLen; omega
            case c4 => omega
            case c5 => rw [Go.Deep.nblk_alloc]; omega
            intro v' w3 hown' hgrow _ hat'
            have KG := Lib.hid (And.intro hown' (And.intro hgrow hat'))
            clear hown' hgrow hat'
            go_wp2
            go_roundw
            case rel =>
              refine ⟨0 + 1, by omega, by simp, ?_, ?_, ?_⟩
              · have := KG.out.1
                rw [KT.out, List.length_append, List.length_singleton, rsList_snoc]
                exact this
              · exact (KG.out.2.1.block _ (by rw [Go.Deep.nblk_alloc]; omega) (KA.out.rowNe)).trans (((KA.out.set.below hb1).alloc _))
              · exact below_grown ((KA.out.bel.trans (hb1.mono (by omega))).alloc (by omega) _) KG.out.2.1 (by rw [Go.Deep.nblk_alloc]; omega) (fun b hb => (KA.out.rowLe b hb))
            case measure => first | (simp [intOf]; omega) | simp [intOf]
          · obtain ⟨j, rfl⟩ : ∃ j, k = j + 1 := ⟨k - 1, by omega⟩
            have hpr : f j = false := by
              have : ¬ f j = true := fun h => hp ⟨by omega, h⟩
              simpa using this
            have hcj := hat.set.cell j (by omega)
            rw [hpr] at hcj
            push_cast at hi8
            have KA := Lib.hid hat
            clear hat hp hpr hk0
            go_wp2_with fail
            refine (HB.out _ _ _).mono ?_
            rintro e w1 ⟨rfl, hb1⟩
            have hbz := hb1.size
            have ho1 := (KA.out.own.kept (row := none) ⟨hb1.os, hb1.tape, hb1.output, hb1.size, fun i hi _ => hb1.block i hi⟩ (KA.out.noRow)).alloc (.cells #[.int .u8 ((j : Int) + 1), .int .u8 ((j : Int) + 1)] 46)
            have KO := Lib.hid ho1
            have hz := KA.out.size
            clear ho1
            go_wp2_with (at_builtin; refine wpList_append_own_at _ rfl (.tmp 11) (.tmp 17) 22 rfl (w.heap.size + 1) 46 i0 (.agg #[.int .u8 0, .int .u8 0]) 2 2 Try.underlying22 hi hz0 hz1 hz2 rfl (by decide) _ _ _ rfl KO.out ⟨w1.heap.size, 0, none⟩ 1 1 [.int .u8 ((j : Int) + 1), .int .u8 ((j : Int) + 1)] rfl rfl ?c1 ?c2 ?c3 ?c4 ?c5 ?_)
            case c1 => exact new_cells _ _ _
            case c2 => intro u hu; simp only [List.mem_cons, List.not_mem_nil, or_false] at hu; rcases hu with rfl | rfl <;> rfl
            case c3 => unfold maxLen; omega
            case c4 => omega
            case c5 => rw [Go.Deep.nblk_alloc]; omega
            intro v' w3 hown' hgrow _ hat'
            have KG := Lib.hid (And.intro hown' (And.intro hgrow hat'))
            clear hown' hgrow hat'
            go_wp2
            go_roundw
            case rel =>
              refine ⟨(j + 1) + 1, by omega, by simp, ?_, ?_, ?_⟩
              · have := KG.out.1
                rw [KT.out, List.length_append, List.length_singleton, rsList_snoc]
                exact this
              · exact (KG.out.2.1.block _ (by rw [Go.Deep.nblk_alloc]; omega) (KA.out.rowNe)).trans (((KA.out.set.below hb1).alloc _))
              · exact below_grown ((KA.out.bel.trans (hb1.mono (by omega))).alloc (by omega) _) KG.out.2.1 (by rw [Go.Deep.nblk_alloc]; omega) (fun b hb => (KA.out.rowLe b hb))
            case measure => first | (simp [intOf]; omega) | simp [intOf]
      · have hfk : f k = false := by simpa using hfk
        have hT : rangesTo f (k + 1) = rangesTo f k := by rw [rangesTo, if_neg (by rw [hfk]; simp)]
        rw [hfk] at hi8
        obtain ⟨va, vc, rfl⟩ := hat.slice
        have KA := Lib.hid hat
        have KT := Lib.hid hT
        clear hat hT hfk
        go_wp2
        go_roundw
        case rel => exact ⟨k + 1, by omega, by simp, by rw [KT.out]; exact KA.out.own, KA.out.set, KA.out.bel⟩
        case measure => first | (simp [intOf]; omega) | simp [intOf]
    · obtain rfl : k = 256 := by omega
      have d1 : decide (((256 : Nat) : Int) < 256) = false := by decide
      obtain ⟨va, vc, rfl⟩ := hat.slice
      have hle := rangesTo_len f 256
      have KA := Lib.hid hat
      clear hat
      go_wp2
      go_ret
      exact ⟨_, rfl, KA.out.own, KA.out.bel⟩
theorem ranges_any (f : Nat → Bool) (w : World) :
    Calls Try.prog 59 #[.agg (rowB f)] w fun e w' => ∃ v, e = .returned v ∧ RangesIn w.heap.size w' v (rangesS f) ∧ Below w.heap.size w w' := by
  refine (ranges_own f w).mono ?_
  rintro e w' ⟨v, rfl, ho, hb⟩
  exact ⟨v, rfl, RangesIn.lower (ranges_of_own ho (rangesTo_len f 256) (rangesTo_lt f 256 (by omega))) (by omega), hb⟩
end Go.Proofs.Ytfmoidhpafpgnaa
