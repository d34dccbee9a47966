/- The reference's Sort: an insertion sort on a row of its own. -/
import Derived.Test.YtdjkemodlbbmaaaDoorKvI
namespace Go.Proofs.YtdjkemodlbbmaaaDoor
open Go.RowKit

/-- The row while a place is sought: a gap at k. -/
def zapF (S : List FldV) (k : Nat) (x : FldV) : List FldV := S.take k ++ x :: S.drop k
theorem zapF_len (S : List FldV) (k : Nat) (x : FldV) (h : k ≤ S.length) : (zapF S k x).length = S.length + 1 := by
  unfold zapF; simp; omega
theorem zapF_end (S : List FldV) (x : FldV) : zapF S S.length x = S ++ [x] := by unfold zapF; simp
theorem zapF_get (S : List FldV) (k : Nat) (x : FldV) (h : k < S.length) : (zapF S (k + 1) x)[k]? = some S[k] := by
  unfold zapF
  rw [List.getElem?_append_left (by simp; omega)]
  simp [h]
theorem zapF_set (S : List FldV) (k : Nat) (x y : FldV) (h : k ≤ S.length) : (zapF S k x).set k y = zapF S k y := by
  unfold zapF
  rw [List.set_append_right _ _ (by rw [List.length_take]; omega)]
  have : k - (S.take k).length = 0 := by rw [List.length_take]; omega
  rw [this]
  rfl
theorem zapF_shift (S : List FldV) (k : Nat) (x : FldV) (h : k < S.length) : (zapF S (k + 1) x).set (k + 1) S[k] = zapF S k S[k] := by
  rw [zapF_set _ _ _ _ (by omega)]
  unfold zapF
  rw [List.take_succ_eq_append_getElem h, List.append_assoc]
  congr 1
  show S[k] :: (S[k] :: S.drop (k + 1)) = S[k] :: S.drop k
  rw [List.drop_eq_getElem_cons h]
theorem encL_set : ∀ (L : List FldV) (k : Nat) (a b : ByteArray), k < L.length → ((encL L).set (k * 2) (.string a)).set (k * 2 + 1) (.string b) = encL (L.set k (a, b))
  | [], k, a, b, h => by simp at h
  | p :: r, 0, a, b, _ => rfl
  | p :: r, k + 1, a, b, h => by
    have ih := encL_set r k a b (by simpa using h)
    rw [show (k + 1) * 2 = k * 2 + 1 + 1 by omega]
    simp only [encL, List.set_cons_succ]
    rw [ih]
theorem FsR.put {base g cap n : Nat} {w : World} {L : List FldV} (hn : L.length = n) (h : FsR base w (.slice (some ⟨g, 0, none⟩) n cap) L) (k : Nat) (hk : k < L.length) (a b : ByteArray) :
    FsR base ((w.setCell ⟨g, k * 2, none⟩ (.string a)).setCell ⟨g, k * 2 + 1, none⟩ (.string b)) (.slice (some ⟨g, 0, none⟩) n cap) (L.set k (a, b)) ∧ Below base w ((w.setCell ⟨g, k * 2, none⟩ (.string a)).setCell ⟨g, k * 2 + 1, none⟩ (.string b)) := by
  subst hn
  have h1 := World.ownsRow.stored h (k * 2) (.string a)
  have h2 := World.ownsRow.stored h1.1 (k * 2 + 1) (.string b)
  have hg := (h.lt g rfl).1
  refine ⟨?_, ((Below.refl base w).setCell (p := ⟨g, k * 2, none⟩) hg _).setCell (p := ⟨g, k * 2 + 1, none⟩) hg _⟩
  show World.ownsRow _ _ _ _ _ _ _
  rw [List.length_set, ← encL_set L k a b hk]
  exact h2.1
theorem FsR.get {base g cap n : Nat} {w : World} {L : List FldV} (hn : L.length = n) (h : FsR base w (.slice (some ⟨g, 0, none⟩) n cap) L) {k : Nat} {y : FldV} (hy : L[k]? = some y) :
    w.cell? ⟨g, k * 2, none⟩ = some (.string y.1) ∧ w.cell? ⟨g, k * 2 + 1, none⟩ = some (.string y.2) ∧ w.frozen? ⟨g, k * 2, none⟩ = false ∧ w.frozen? ⟨g, k * 2 + 1, none⟩ = false := by
  subst hn
  obtain ⟨hk, rfl⟩ := List.getElem?_eq_some_iff.1 hy
  have h1 := FsR.cells h hk
  exact ⟨h1.1, h1.2, h.frozenAt _, h.frozenAt _⟩
theorem FsR.drewN {base : Nat} {w : World} {v : Value} {L : List FldV} (h : FsR base w v L) (n : Nat) : FsR base (w.drewN n) v L := FsR.below h ⟨rfl, rfl, rfl, Nat.le_refl _, fun _ _ => rfl⟩
theorem zapF_at (S : List FldV) (k : Nat) (x : FldV) (h : k ≤ S.length) : (zapF S k x)[k]? = some x := by
  unfold zapF
  rw [List.getElem?_append_right (by rw [List.length_take]; omega)]
  have : k - (S.take k).length = 0 := by rw [List.length_take]; omega
  rw [this]
  rfl
theorem dup_of_two {L : List FldV} (j i : Nat) (hj : j < i) (hi : i < L.length) (e : L[j].1 = L[i].1) : dupN L = true := by
  unfold dupN
  rw [decide_eq_false]
  · rfl
  · intro hn
    rw [List.Nodup, List.pairwise_map, List.pairwise_iff_getElem] at hn
    exact hn j i (by omega) hi hj e
theorem dup_of_mem {L S : List FldV} (i : Nat) (hi : i < L.length) (hp : S.Perm (L.take i)) (y : FldV) (hy : y ∈ S) (e : y.1 = L[i].1) : dupN L = true := by
  have h := hp.mem_iff.1 hy
  obtain ⟨j, hj, rfl⟩ := List.getElem_of_mem h
  have hj2 : j < i := by rw [List.length_take] at hj; omega
  rw [List.getElem_take] at e
  exact dup_of_two j i hj2 hi e
theorem asc_zap {S : List FldV} (hs : Asc S) (k : Nat) (x : FldV) (h1 : ∀ y ∈ S.take k, nltB y.1 x.1) (h2 : ∀ y ∈ S.drop k, nltB x.1 y.1) : Asc (zapF S k x) := by
  unfold Asc zapF
  unfold Asc at hs
  rw [← List.take_append_drop k S, List.pairwise_append] at hs
  rw [List.pairwise_append]
  refine ⟨hs.1, List.pairwise_cons.2 ⟨h2, hs.2.1⟩, fun a ha b hb => ?_⟩
  rcases List.mem_cons.1 hb with rfl | hb
  · exact h1 a ha
  · exact hs.2.2 a ha b hb
theorem asc_before {S : List FldV} (hs : Asc S) (k : Nat) (hk : k < S.length) (y : FldV) (hy : y ∈ S.take (k + 1)) (x : FldV) (hx : nltB S[k].1 x.1) : nltB y.1 x.1 := by
  rw [List.take_succ_eq_append_getElem hk] at hy
  rcases List.mem_append.1 hy with hy | hy
  · obtain ⟨j, hj, rfl⟩ := List.getElem_of_mem hy
    rw [List.getElem_take]
    unfold Asc at hs
    rw [List.pairwise_iff_getElem] at hs
    rw [List.length_take] at hj
    exact nlt_trans (hs j k (by omega) hk (by omega)) hx
  · simp at hy
    subst hy
    exact hx
theorem zap_perm {L S : List FldV} (i : Nat) (hi : i < L.length) (hp : S.Perm (L.take i)) (k : Nat) : (zapF S k L[i]).Perm (L.take (i + 1)) := by
  rw [List.take_succ_eq_append_getElem hi]
  unfold zapF
  refine List.Perm.trans List.perm_middle ?_
  rw [List.take_append_drop]
  refine List.Perm.trans (List.Perm.cons _ hp) ?_
  exact (List.perm_append_singleton _ _).symm
theorem nlt_bool {a b : ByteArray} (h : nltB b a) : Op.bytesLess a.toList b.toList = false ∧ (a.toList == b.toList) = false := by
  refine ⟨?_, ?_⟩
  · have := fun q => nlt_trans h ((lessB_iff a b).1 q)
    unfold lessB at this
    rw [Bool.eq_false_iff]
    exact fun q => nlt_irrefl _ (this q)
  · rw [beq_eq_false_iff_ne]
    intro e
    rw [toList_b, toList_b] at e
    have := ext_b e
    subst this
    exact nlt_irrefl _ h
theorem nnlt_bool {a b : ByteArray} (h : ¬ nltB b a) : (Op.bytesLess a.toList b.toList || a.toList == b.toList) = true := by
  by_cases e : nltB a b
  · have := (lessB_iff a b).2 e
    unfold lessB at this
    rw [this]; rfl
  · have := nlt_tri e h
    subst this
    simp
structure RsI (w : World) (L : List FldV) (v : Value) (S : List FldV) (i : Nat) (wr : World) : Prop where
  row : FsR w.heap.size wr v S
  perm : S.Perm (L.take i)
  asc : Asc S
  hb : Below w.heap.size w wr
set_option maxRecDepth 100000 in
set_option maxHeartbeats 8000000 in
theorem rsort_good (L : List FldV) (v : Value) (w : World) (h : FsI w v L) (hl : L.length ≤ 32) (hsz : ∀ x ∈ L, x.1.size ≤ maxLen) (hb : L.all okN = true) :
    Calls Tryd.prog 13 #[v] w fun e w' => SortO L e w' ∧ Below w.heap.size w w' := by
  obtain ⟨n, hn⟩ : ∃ n, L.length = n := ⟨_, rfl⟩
  obtain ⟨av, cv, rfl⟩ : ∃ a c, v = .slice a n c := by
    rcases h with ⟨rfl, a, c, rfl⟩ | ⟨g, o, c, rfl, -⟩
    · exact ⟨a, c, by rw [← hn]; rfl⟩
    · exact ⟨_, c, by rw [hn]⟩
  obtain ⟨i0, hi0, hz0, hz1, hz2⟩ := info_parts infoFld
  have HN := Lib.hid hn
  have HC := Lib.hid (And.intro hb (And.intro h hsz))
  have hnl : ¬ 32 < n := by omega
  have hn32 : n ≤ 32 := by omega
  have hcellL : ∀ k (hk : k < L.length), ∃ g o, av = some ⟨g, o, none⟩ ∧ w.cell? ⟨g, o + k * 2, none⟩ = some (.string L[k].1) ∧ w.cell? ⟨g, o + k * 2 + 1, none⟩ = some (.string L[k].2) ∧ g < w.heap.size := fun k hk => by
    rcases h with ⟨hL, -⟩ | ⟨g, o, c, he, hg, -, -, hc⟩
    · rw [hL] at hk; simp at hk
    · cases he
      have := hc k hk
      exact ⟨g, o, rfl, this.1, this.2, hg⟩
  have HCL := Lib.hid hcellL
  clear hn hb hl h hcellL hsz
  go_enter Tryd.func13, Tryd.ntmps13
  go_wp2
  go_loop [4] (fun x => ∃ k : Nat, x = .int .i64 k ∧ k ≤ n) (fun x => n - (intOf x).toNat)
  case atStart => exact ⟨0, rfl, Nat.zero_le _⟩
  case round =>
    obtain ⟨k, rfl, hk⟩ := hrel
    by_cases hkn : k < n
    · have hkL : k < L.length := by rw [HN.out]; exact hkn
      obtain ⟨g, o, rfl, hc0, hc1, hg⟩ := HCL.out k hkL
      have hok : okN L[k] = true := List.all_eq_true.1 HC.out.1 _ (List.getElem_mem _)
      have hsk : L[k].1.size ≤ maxLen := HC.out.2.2 _ (List.getElem_mem _)
      obtain ⟨s1, hs1⟩ : ∃ x, L[k].1 = x := ⟨_, rfl⟩
      rw [hs1] at hc0 hsk
      have HIN := Lib.hid (fun W => rname_any s1 W hsk)
      unfold okN at hok
      rw [hs1] at hok
      rw [hok] at HIN
      clear hok hs1 hsk hc1
      go_wp2_with fail
      refine (HIN.out _).mono ?_
      rintro e w2 ⟨rfl, rfl⟩
      go_wp2
      go_round
      case rel => exact ⟨k + 1, by go_num, by omega⟩
      case measure => simp [intOf]; omega
    · have hke : k = n := by omega
      subst hke
      go_wp2
      go_loopw [5, 6] (fun a b wr => ∃ (i : Nat) (S : List FldV), b = .int .i64 i ∧ i ≤ k ∧ RsI w L a S i wr) (fun _ b _ => k - (intOf b).toNat)
      case atStart => exact ⟨0, [], rfl, Nat.zero_le _, FsR.nil _ _, by simp, List.Pairwise.nil, Below.refl _ _⟩
      case round =>
        obtain ⟨i, S, rfl, hik, hI⟩ := hrel
        have hSi : S.length = i := by rw [hI.perm.length_eq, List.length_take, HN.out]; omega
        obtain ⟨va, vc, rfl⟩ := rowf_slice hI.row
        have HI := Lib.hid hI
        have HSI := Lib.hid hSi
        rw [hSi]
        clear hI hSi
        by_cases hlt : i < k
        · have hiL : i < L.length := by rw [HN.out]; exact hlt
          obtain ⟨g, o, rfl, hc0, hc1, hg⟩ := HCL.out i hiL
          obtain ⟨s1, hs1⟩ : ∃ x, L[i].1 = x := ⟨_, rfl⟩
          obtain ⟨s2, hs2⟩ : ∃ x, L[i].2 = x := ⟨_, rfl⟩
          rw [hs1] at hc0
          rw [hs2] at hc1
          have HX := Lib.hid (show L[i] = (s1, s2) by rw [← hs1, ← hs2])
          have HCW := Lib.hid (fun (W : World) (q : Below w.heap.size w W) => And.intro ((q.cell (p := ⟨g, o + i * 2, none⟩) hg).trans hc0) ((q.cell (p := ⟨g, o + i * 2 + 1, none⟩) hg).trans hc1))
          clear hc0 hc1 hs1 hs2
          obtain ⟨d0, d1⟩ := HCW.out wr HI.out.hb
          have hrow : wr.ownsRow w.heap.size 31 2 (.slice va i vc) i (encL S) := by
            have := HI.out.row
            rw [HSI.out] at this
            have h2 : World.ownsRow wr w.heap.size 31 2 (.slice va i vc) S.length (encL S) := this
            rw [HSI.out] at h2
            exact h2
          have HR := Lib.hid hrow
          clear hrow
          go_wp2_with (at_builtin; refine wpList_append_own _ rfl _ _ 22 rfl w.heap.size 31 i0 (.agg #[.string ⟨#[]⟩, .string ⟨#[]⟩]) 2 32 Tryd.underlying22 hi0 hz0 hz1 hz2 rfl (by decide) _ _ _ rfl (HR.out.alloc _) ⟨wr.heap.size, 0, none⟩ 1 1 [.string s1, .string s2] rfl rfl ?c1 ?c2 ?c3 ?c4 ?c5 ?_)
          case c1 =>
            intro j q hj
            obtain ⟨e0, e1, -, -⟩ := box2 (heap_alloc_new wr (.cells #[.string s1, .string s2] 31))
            rw [Addr.add_lit, Nat.zero_add]
            match j, hj with
            | 0, hj => rw [e0]; simpa using hj
            | 1, hj => rw [e1]; simpa using hj
          case c2 =>
            intro q hq
            simp only [List.mem_cons, List.not_mem_nil, or_false] at hq
            rcases hq with rfl | rfl <;> rfl
          case c3 => unfold maxLen; omega
          case c4 => omega
          case c5 =>
            have q1 := HI.out.hb.size
            simp
            omega
          intro v' w3 hown' hgrow _
          obtain ⟨g2, vc', rfl, hg2b, hg2l, hcap, hcm⟩ : ∃ g2 vc', v' = .slice (some ⟨g2, 0, none⟩) (i + 1) vc' ∧ w.heap.size ≤ g2 ∧ g2 < w3.heap.size ∧ i + 1 ≤ vc' ∧ vc' ≤ maxLen := by
            rcases rowf_form hown' with ⟨-, h0⟩ | ⟨g2, vc', h⟩
            · exact absurd h0 (by omega)
            · exact ⟨g2, vc', h⟩
          have hbel : Below w.heap.size w w3 := by
            have h2 := (bel_trans HI.out.hb (bel_new wr (.cells #[.string s1, .string s2] 31)))
            exact h2.grown hgrow h2.size (fun k hk => ((HR.out.alloc (.cells #[.string s1, .string s2] 31)).lt k hk).1)
          have hrow3 : FsR w.heap.size w3 (.slice (some ⟨g2, 0, none⟩) (i + 1) vc') (zapF S i (s1, s2)) := by
            show World.ownsRow _ _ _ _ _ _ _
            rw [zapF_len _ _ _ (by rw [HSI.out]; exact Nat.le_refl _)]
            have e : zapF S i (s1, s2) = S ++ [(s1, s2)] := by
              have := zapF_end S (s1, s2)
              rw [HSI.out] at this
              exact this
            rw [e, encL_app, HSI.out]
            exact hown'
          have HW := Lib.hid (And.intro hrow3 hbel)
          clear hown' hbel hgrow hrow3 d0 d1 hg2l hcap hcm
          go_wp2
          go_loopw [7] (fun x wi => ∃ (k2 : Nat) (y : FldV), x = .int .i64 k2 ∧ k2 ≤ i ∧ FsR w.heap.size wi (.slice (some ⟨g2, 0, none⟩) (i + 1) vc') (zapF S k2 y) ∧ Below w.heap.size w wi ∧ ∀ z ∈ S.drop k2, nltB s1 z.1) (fun x _ => (intOf x).toNat)
          case atStart => exact ⟨i, _, rfl, Nat.le_refl _, HW.out.1, HW.out.2, fun z hz => by rw [List.drop_eq_nil_of_le (by rw [HSI.out]; exact Nat.le_refl _)] at hz; simp at hz⟩
          case round =>
            obtain ⟨k2, y, rfl, hk2, hrowi, hbi, hgt⟩ := hrel
            have HI2 := Lib.hid (And.intro hrowi (And.intro hbi hgt))
            clear hrowi hbi hgt
            obtain ⟨d0, d1⟩ := HCW.out _ HI2.out.2.1
            have hk2S : k2 ≤ S.length := by rw [HSI.out]; exact hk2
            have hlenZ := Lib.hid (fun y => (zapF_len S k2 y hk2S).trans (by rw [HSI.out] : S.length + 1 = i + 1))
            have HLZ := hlenZ
            clear hlenZ
            by_cases hk0 : k2 = 0
            · subst hk0
              have HPE := Lib.hid (fun nq => FsR.put (HLZ.out y) (HI2.out.1.drewN nq) 0 (by rw [HLZ.out y]; omega) s1 s2)
              have hg4 := FsR.get (HLZ.out y) HI2.out.1 (zapF_at S 0 y hk2S)
              obtain ⟨f0, f1, f2, f3⟩ : wr.cell? ⟨g2, 0, none⟩ = some (.string y.1) ∧ wr.cell? ⟨g2, 1, none⟩ = some (.string y.2) ∧ wr.frozen? ⟨g2, 0, none⟩ = false ∧ wr.frozen? ⟨g2, 1, none⟩ = false := hg4
              go_wp2_with fail
              go_quiet (fail)
              go_wp2_with fail
              obtain ⟨W2, hW2⟩ : ∃ W, ((wr.drewN nq).setCell ⟨g2, 0, none⟩ (.string s1)).setCell ⟨g2, 1, none⟩ (.string s2) = W := ⟨_, rfl⟩
              have hPE : FsR w.heap.size W2 (.slice (some ⟨g2, 0, none⟩) (i + 1) vc') ((zapF S 0 y).set 0 (s1, s2)) ∧ Below w.heap.size (wr.drewN nq) W2 := by rw [← hW2]; exact HPE.out nq
              rw [zapF_set S 0 y (s1, s2) hk2S] at hPE
              rw [hW2]
              have HQE := Lib.hid (And.intro hPE.1 ((below_drewN HI2.out.2.1 nq).trans hPE.2))
              clear hW2 hPE f0 f1 f2 f3 d0 d1
              go_quiet (fail)
              go_wp2
              go_roundw
              case rel =>
                refine ⟨i + 1, zapF S 0 (s1, s2), by go_num, by omega, HQE.out.1.drewN _, ?_, ?_, below_drewN HQE.out.2 _⟩
                · rw [← HX.out]; exact zap_perm i hiL HI.out.perm 0
                · exact asc_zap HI.out.asc 0 _ (fun y hy => by simp at hy) HI2.out.2.2
              case measure => simp [intOf]; omega
            · obtain ⟨q, hq⟩ : ∃ q, k2 = q + 1 := ⟨k2 - 1, by omega⟩
              have hqS : q < S.length := by omega
              have hqi : q < i := by omega
              have e1 : IntKind.i64.wrap ((k2 : Int) - 1) = (k2 : Int) - 1 := IntWalk.i64_in _ (by omega)
              have e2 : (0 : Int) ≤ (k2 : Int) - 1 := by omega
              have e3 : ((k2 : Int) - 1).toNat = q := by omega
              have e4 : q < i + 1 := by omega
              have e5 : k2 < i + 1 := by omega
              have hkt : decide ((0 : Int) < (k2 : Int)) = true := by rw [decide_eq_true_iff]; omega
              have hk1 : 0 < k2 := by omega
              obtain ⟨t1, ht1⟩ : ∃ x, S[q].1 = x := ⟨_, rfl⟩
              obtain ⟨t2, ht2⟩ : ∃ x, S[q].2 = x := ⟨_, rfl⟩
              have hget : (zapF S k2 y)[q]? = some (t1, t2) := by rw [hq, zapF_get S q y hqS, ← ht1, ← ht2]
              obtain ⟨g0, g1, -, -⟩ := FsR.get (HLZ.out y) HI2.out.1 hget
              obtain ⟨f0, f1, f2, f3⟩ := FsR.get (HLZ.out y) HI2.out.1 (zapF_at S k2 y hk2S)
              simp only [] at g0 g1
              have HQ := Lib.hid (And.intro hq (And.intro ht1 ht2))
              clear hget hq ht1 ht2
              by_cases hgr : nltB s1 t1
              · obtain ⟨b1, b2⟩ := nlt_bool hgr
                have HPE := Lib.hid (fun nq => FsR.put (HLZ.out y) (HI2.out.1.drewN nq) k2 (by rw [HLZ.out y]; omega) t1 t2)
                have HGR := Lib.hid hgr
                clear hgr
                go_wp2_with fail
                go_quiet (fail)
                go_wp2
                go_roundw
                case rel =>
                  refine ⟨q, (t1, t2), ?_, by omega, ?_, (below_drewN HI2.out.2.1 _).trans (HPE.out _).2, ?_⟩
                  · congr 1
                    have := HQ.out.1
                    omega
                  · have h := (HPE.out nq).1
                    have hz : (zapF S k2 y).set k2 (t1, t2) = zapF S q (t1, t2) := by
                      have := zapF_shift S q y hqS
                      rw [show S[q] = (t1, t2) by rw [← HQ.out.2.1, ← HQ.out.2.2]] at this
                      rw [HQ.out.1]
                      exact this
                    rw [hz] at h
                    exact h
                  · intro z hz
                    rw [List.drop_eq_getElem_cons hqS] at hz
                    rcases List.mem_cons.1 hz with rfl | hz
                    · rw [HQ.out.2.1]; exact HGR.out
                    · refine HI2.out.2.2 z ?_
                      rw [HQ.out.1]
                      exact hz
                case measure => simp only [intOf]; have := HQ.out.1; omega
              · have b0 := nnlt_bool hgr
                have HPE := Lib.hid (fun nq => FsR.put (HLZ.out y) (HI2.out.1.drewN nq) k2 (by rw [HLZ.out y]; omega) s1 s2)
                have HGR := Lib.hid hgr
                clear hgr
                go_wp2_with fail
                go_quiet (fail)
                go_wp2_with fail
                obtain ⟨W2, hW2⟩ : ∃ W, ((wr.drewN nq).setCell ⟨g2, k2 * 2, none⟩ (.string s1)).setCell ⟨g2, k2 * 2 + 1, none⟩ (.string s2) = W := ⟨_, rfl⟩
                have hPE : FsR w.heap.size W2 (.slice (some ⟨g2, 0, none⟩) (i + 1) vc') ((zapF S k2 y).set k2 (s1, s2)) ∧ Below w.heap.size (wr.drewN nq) W2 := by rw [← hW2]; exact HPE.out nq
                rw [zapF_set S k2 y (s1, s2) hk2S] at hPE
                rw [hW2]
                have HQE := Lib.hid (And.intro hPE.1 ((below_drewN HI2.out.2.1 nq).trans hPE.2))
                clear hW2 hPE f0 f1 f2 f3 d0 d1 g0 g1 b0
                obtain ⟨d0, d1⟩ := HCW.out _ HQE.out.2
                have hget : (zapF S k2 (s1, s2))[q]? = some (t1, t2) := by rw [HQ.out.1, zapF_get S q (s1, s2) hqS, ← HQ.out.2.1, ← HQ.out.2.2]
                obtain ⟨g0, g1, -, -⟩ := FsR.get (HLZ.out (s1, s2)) HQE.out.1 hget
                simp only [] at g0 g1
                clear hget
                by_cases heq : t1 = s1
                · have HD := Lib.hid (show dupN L = true from dup_of_mem i hiL HI.out.perm S[q] (List.getElem_mem _) (by rw [HQ.out.2.1, HX.out, heq]))
                  subst heq
                  go_quiet (fail)
                  go_wp2
                  go_ret2
                  exact ⟨.inl ⟨HD.out, rfl⟩, below_drewN HQE.out.2 _⟩
                · have hne : (t1.toList == s1.toList) = false := beq_eq_false_iff_ne.2 (fun e => heq (by
                    rw [toList_b, toList_b] at e
                    exact ext_b e))
                  have HNE := Lib.hid heq
                  clear heq
                  go_quiet (fail)
                  go_wp2
                  go_roundw
                  case rel =>
                    refine ⟨i + 1, zapF S k2 (s1, s2), by go_num, by omega, HQE.out.1.drewN _, ?_, ?_, below_drewN HQE.out.2 _⟩
                    · rw [← HX.out]; exact zap_perm i hiL HI.out.perm k2
                    · refine asc_zap HI.out.asc k2 _ (fun z hz => ?_) HI2.out.2.2
                      rw [HQ.out.1] at hz
                      refine asc_before HI.out.asc q hqS z hz (s1, s2) ?_
                      rw [HQ.out.2.1]
                      by_cases e : nltB t1 s1
                      · exact e
                      · exact absurd (nlt_tri e HGR.out) HNE.out
                  case measure => simp [intOf]; omega
        · have hie : i = k := by omega
          have hpe : S.Perm L := by
            have := HI.out.perm
            rw [List.take_of_length_le (by rw [HN.out]; omega)] at this
            exact this
          have HP := Lib.hid hpe
          subst hie
          clear hpe
          go_wp2
          go_ret2
          refine ⟨.inr ⟨by rw [← dup_perm HP.out]; exact nodup_of_asc HI.out.asc, S, _, HP.out, HI.out.asc, ?_, rfl⟩, HI.out.hb⟩
          have := HI.out.row.shows
          rw [HSI.out] at this
          exact this
end Go.Proofs.YtdjkemodlbbmaaaDoor
