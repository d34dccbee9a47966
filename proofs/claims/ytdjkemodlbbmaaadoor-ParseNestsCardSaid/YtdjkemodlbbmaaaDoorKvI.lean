/- The contract of KeyValue. -/
import Derived.Test.YtdjkemodlbbmaaaDoorKvG
import Derived.Test.YtdjkemodlbbmaaaDoorKvH
namespace Go.Proofs.YtdjkemodlbbmaaaDoor
open Go.RowKit

/-- What Sort hands back. -/
def SortA (L : List FldV) (e : Ending) (w' : World) : Prop :=
  (sortE L = 0 ∧ ∃ (S : List FldV) (v' : Value), S.Perm L ∧ Asc S ∧ FsI w' v' S ∧ e = .returned (.tuple #[v', .int .i64 0])) ∨ (sortE L ≠ 0 ∧ e = .returned (.tuple #[.slice none 0 0, .int .i64 (sortE L)]))
theorem sort_any (L : List FldV) (v : Value) (w : World) (h : FsI w v L) :
    Calls Tryd.prog 12 #[v] w fun e w' => SortA L e w' ∧ Below w.heap.size w w' := by
  by_cases hl : 32 < L.length
  · refine (sort_long L v w h hl).mono fun e w' ⟨he, hb⟩ => ⟨.inr ?_, hb⟩
    have e4 : sortE L = 4 := by unfold sortE; rw [if_pos hl]
    rw [e4]
    exact ⟨by decide, he⟩
  · cases ha : L.all okN with
    | false =>
      refine (sort_bad L v w h (by omega) ha).mono fun e w' ⟨he, hb⟩ => ⟨.inr ?_, hb⟩
      have e4 : sortE L = 6 := by unfold sortE; rw [if_neg hl, if_neg (by rw [ha]; simp)]
      rw [e4]
      exact ⟨by decide, he⟩
    | true =>
      refine (sort_good L v w h (by omega) ha).mono fun e w' ⟨he, hb⟩ => ⟨?_, hb⟩
      have e4 : sortE L = if dupN L then 7 else 0 := by unfold sortE; rw [if_neg hl, if_pos ha]
      rcases he with ⟨hd, he⟩ | ⟨hd, S, v', h1, h2, h3, he⟩
      · rw [hd, if_pos rfl] at e4
        right
        rw [e4]
        exact ⟨by decide, he⟩
      · rw [hd, if_neg (by simp)] at e4
        exact .inl ⟨e4, S, v', h1, h2, h3, he⟩
theorem valR_len {l t u : List UInt8} (h : valR l = some (t, u)) : u.length ≤ l.length := by
  cases hq : q34 l with
  | true =>
    rw [(valR_q hq).1] at h
    unfold quotR at h
    cases hr : qA 0 escQ [] (l.drop 1) with
    | none => rw [hr] at h; cases h
    | some p =>
      obtain ⟨t', u'⟩ := p
      rw [hr] at h
      simp only [] at h
      split at h
      · cases h
        have := qS_len 0 escQ (l.drop 1) _ [] _ _ hr
        rw [List.length_drop] at this
        omega
      · cases h
  | false =>
    rw [valR_p hq] at h
    unfold plainR at h
    split at h
    · cases h
    · cases h
      have := frm_len 32 l
      omega
theorem pairR_len {l : List UInt8} {p : List UInt8 × List UInt8} {u : List UInt8} (h : pairR l = some (p, u)) : u.length < l.length := by
  unfold pairR at h
  have hl := frm_len 61 l
  cases hf : frm 61 l with
  | nil => rw [hf] at h; cases h
  | cons c r =>
    rw [hf] at h hl
    simp only [List.length_cons] at hl
    simp only [] at h
    split at h
    · cases h
    · cases hv : valR r with
      | none => rw [hv] at h; cases h
      | some q =>
        obtain ⟨t, u'⟩ := q
        rw [hv] at h
        cases h
        have := valR_len hv
        omega
theorem trimL_len (c : UInt8) (l : List UInt8) : (trimL c l).length ≤ l.length := by
  unfold trimL
  exact (List.dropWhile_sublist _).length_le
def accF (acc : List FldV) (n t : List UInt8) : List FldV := if acc.length < 33 then acc ++ [(⟨n.toArray⟩, ⟨t.toArray⟩)] else acc
/-- The pairs of a line, 33 at most. -/
def kvF : Nat → List FldV → List UInt8 → Option (List FldV)
  | 0, _, _ => none
  | f + 1, acc, l => match trimL 32 l with
    | [] => some acc
    | c :: r => match pairR (c :: r) with
      | none => none
      | some ((n, t), u) => kvF f (accF acc n t) u
def kvN (l : List UInt8) : Option (List FldV) := kvF (l.length + 1) [] l
def KvOut (R : Option (List FldV)) (e : Ending) (w' : World) : Prop := match R with
  | none => e = .returned (.tuple #[.slice none 0 0, .int .i64 1])
  | some L => SortA L e w'
structure KvI (w : World) (R : Option (List FldV)) (x : ByteArray) (v : Value) (acc : List FldV) (f : Nat) (wr : World) : Prop where
  row : FsR w.heap.size wr v acc
  le : acc.length ≤ 33
  eqn : R = kvF f acc x.data.toList
  lt : x.size < f
  sz : x.size ≤ 1000000
  hb : Below w.heap.size w wr

set_option maxRecDepth 100000 in
set_option maxHeartbeats 4000000 in
theorem kv_any (s : ByteArray) (w : World) (hs : s.size ≤ 1000000) :
    Calls Tryd.prog 19 #[.string s] w fun e w' => KvOut (kvN s.data.toList) e w' ∧ Below w.heap.size w w' := by
  obtain ⟨R, hR⟩ : ∃ R, kvN s.data.toList = R := ⟨_, rfl⟩
  have HR := Lib.hid hR
  rw [hR]
  clear hR
  obtain ⟨i0, hi, hz0, hz1, hz2⟩ := info_parts infoFld
  go_enter Tryd.func19, Tryd.ntmps19
  go_wp2
  go_loopw [0, 4] (fun a b wr => ∃ (x : ByteArray) (acc : List FldV) (f : Nat), a = .string x ∧ KvI w R x b acc f wr) (fun a _ _ => strSz a)
  case atStart => exact ⟨s, [], s.size + 1, rfl, FsR.nil _ _, by simp, by rw [← HR.out]; unfold kvN; rw [size_b], by omega, hs, Below.refl _ _⟩
  case round =>
    obtain ⟨x, acc, f, rfl, hI⟩ := hrel
    obtain ⟨va, vc, rfl⟩ := rowf_slice hI.row
    obtain ⟨f, rfl⟩ : ∃ f', f = f' + 1 := ⟨f - 1, by have := hI.lt; omega⟩
    have HI := Lib.hid hI
    clear hI
    have hT := trimLeft_any x wr
    obtain ⟨m, hm⟩ : ∃ m, acc.length = m := ⟨_, rfl⟩
    cases htr : trimL 32 x.data.toList with
    | nil =>
      rw [htr] at hT
      have HT := Lib.hid hT
      have hRv : R = some acc := by rw [HI.out.eqn, kvF, htr]
      have HRV := Lib.hid hRv
      have HS := Lib.hid (sort_any acc _ wr HI.out.row.shows)
      clear hT hRv htr
      rw [hm] at HS ⊢
      have HM := Lib.hid hm
      clear hm
      go_wp2_with fail
      refine (HT.out).mono ?_
      rintro e w1 ⟨rfl, rfl⟩
      go_wp2_with fail
      refine (HS.out).mono ?_
      rintro e w2 ⟨hso, hb2⟩
      obtain ⟨z1, z2, rfl⟩ : ∃ z1 z2, e = .returned (.tuple #[z1, z2]) := by
        rcases hso with ⟨-, S, v', -, -, -, he⟩ | ⟨-, he⟩
        · exact ⟨_, _, he⟩
        · exact ⟨_, _, he⟩
      have HO := Lib.hid (And.intro hso hb2)
      clear hso hb2
      go_wp2
      go_ret2
      exact ⟨by rw [HRV.out]; exact HO.out.1, bel_trans HI.out.hb HO.out.2⟩
    | cons c r =>
      obtain ⟨z, hz⟩ : ∃ z : ByteArray, z = ⟨(c :: r).toArray⟩ := ⟨_, rfl⟩
      have hzs : z.size = r.length + 1 := by rw [hz]; rfl
      have hzl : z.data.toList = c :: r := by rw [hz]
      obtain ⟨hn1, hn2, hn3⟩ := str_ne z (by omega)
      have hxl : z.size ≤ x.size := by
        have := trimL_len 32 x.data.toList
        rw [htr, size_b] at this
        simp only [List.length_cons] at this
        omega
      rw [htr, ← hz] at hT
      have HT := Lib.hid hT
      have hP := pair_any z
      rw [hzl] at hP
      have hRk : R = match pairR (c :: r) with
        | none => none
        | some ((n, t), u) => kvF f (accF acc n t) u := by rw [HI.out.eqn, kvF, htr]
      have hzsz : z.size ≤ 1000000 := by have := HI.out.sz; omega
      have hzf : z.size ≤ f := by have := HI.out.lt; omega
      clear hT htr hz
      cases hp : pairR (c :: r) with
      | none =>
        rw [hp] at hP hRk
        have HP := Lib.hid (fun W => hP W hzsz)
        have HRV := Lib.hid hRk
        clear hP hRk hzl hp hzs
        rw [hm]
        clear hm
        go_wp2_with fail
        refine (HT.out).mono ?_
        rintro e w1 ⟨rfl, rfl⟩
        go_wp2_with fail
        refine (HP.out _).mono ?_
        rintro e w2 ⟨⟨a, b, d, rfl⟩, hb2⟩
        have HB2 := Lib.hid hb2
        clear hb2
        go_wp2
        go_ret2
        exact ⟨by rw [HRV.out]; exact rfl, bel_trans HI.out.hb (bel_trans HB2.out (bel_new _ _))⟩
      | some p =>
        obtain ⟨⟨n, t⟩, u⟩ := p
        have hul := pairR_len hp
        rw [hp] at hP hRk
        have HP := Lib.hid (fun W => hP W hzsz)
        have HRV := Lib.hid hRk
        have hus : (⟨u.toArray⟩ : ByteArray).size = u.length := rfl
        have hul2 : u.length < z.size := by simp only [List.length_cons] at hul; omega
        have HUS := Lib.hid hus
        clear hP hRk hzl hp hzs hul hus
        have HM := Lib.hid hm
        rw [hm]
        have hmle : m ≤ 33 := by rw [← hm]; exact HI.out.le
        clear hm
        by_cases hm33 : m < 33
        · go_wp2_with fail
          refine (HT.out).mono ?_
          rintro e w1 ⟨rfl, rfl⟩
          go_wp2_with fail
          refine (HP.out _).mono ?_
          rintro e w2 ⟨rfl, hb2⟩
          have hrow2 : w2.ownsRow w.heap.size 31 2 (.slice va m vc) m (encL acc) := by
            have := rowf_below HI.out.row hb2
            rw [HM.out] at this
            exact this
          have HB2 := Lib.hid (And.intro hb2 hrow2)
          clear hb2 hrow2
          go_wp2_with (at_builtin; refine wpList_append_own _ rfl _ _ 22 rfl w.heap.size 31 i0 (.agg #[.string ⟨#[]⟩, .string ⟨#[]⟩]) 2 32 Tryd.underlying22 hi hz0 hz1 hz2 rfl (by decide) _ _ _ rfl ((HB2.out.2.alloc _).alloc _) ⟨w2.heap.size + 1, 0, none⟩ 1 1 [.string ⟨n.toArray⟩, .string ⟨t.toArray⟩] rfl rfl ?c1 ?c2 ?c3 ?c4 ?c5 ?_)
          case c1 =>
            intro j q hj
            have hbx : ((w2.alloc (.cells #[.string ⟨n.toArray⟩, .string ⟨t.toArray⟩] 31)).alloc (.cells #[.string ⟨n.toArray⟩, .string ⟨t.toArray⟩] 31)).heap[w2.heap.size + 1]? = some (.cells #[.string ⟨n.toArray⟩, .string ⟨t.toArray⟩] 31 (0, 0)) := by
              have := heap_alloc_new (w2.alloc (.cells #[.string ⟨n.toArray⟩, .string ⟨t.toArray⟩] 31)) (.cells #[.string ⟨n.toArray⟩, .string ⟨t.toArray⟩] 31)
              simpa using this
            obtain ⟨d0, d1, -, -⟩ := box2 hbx
            rw [Addr.add_lit, Nat.zero_add]
            match j, hj with
            | 0, hj => rw [d0]; simpa using hj
            | 1, hj => rw [d1]; simpa using hj
          case c2 =>
            intro q hq
            simp only [List.mem_cons, List.not_mem_nil, or_false] at hq
            rcases hq with rfl | rfl <;> rfl
          case c3 => unfold maxLen; omega
          case c4 => omega
          case c5 =>
            have q1 := HI.out.hb.size
            have q2 := HB2.out.1.size
            simp
            omega
          intro v' w3 hown' hgrow _
          obtain ⟨va', vc', rfl⟩ := rowf_slice hown'
          have hbel : Below w.heap.size w w3 := by
            have h1 := bel_trans HI.out.hb HB2.out.1
            have h2 := (bel_trans h1 (bel_new w2 (.cells #[.string ⟨n.toArray⟩, .string ⟨t.toArray⟩] 31)))
            have h3 := (bel_trans h2 (bel_new _ (.cells #[.string ⟨n.toArray⟩, .string ⟨t.toArray⟩] 31)))
            exact h3.grown hgrow h3.size (fun k hk => (((HB2.out.2.alloc (.cells #[.string ⟨n.toArray⟩, .string ⟨t.toArray⟩] 31)).alloc (.cells #[.string ⟨n.toArray⟩, .string ⟨t.toArray⟩] 31)).lt k hk).1)
          have HW := Lib.hid (And.intro hown' hbel)
          clear hown' hbel hgrow
          go_wp2
          go_roundw
          case rel =>
            refine ⟨_, acc ++ [(⟨n.toArray⟩, ⟨t.toArray⟩)], f, rfl, ?_, ?_, ?_, ?_, ?_, HW.out.2⟩
            · have h := HW.out.1
              show World.ownsRow _ _ _ _ _ _ _
              rw [encL_app, List.length_append, HM.out]
              exact h
            · rw [List.length_append, HM.out]; simp only [List.length_cons, List.length_nil]; omega
            · rw [HRV.out]; unfold accF; rw [if_pos (by rw [HM.out]; exact hm33)]
            · rw [HUS.out]; omega
            · rw [HUS.out]; omega
          case measure => simp only [strSz]; rw [HUS.out]; omega
        · go_wp2_with fail
          refine (HT.out).mono ?_
          rintro e w1 ⟨rfl, rfl⟩
          go_wp2_with fail
          refine (HP.out _).mono ?_
          rintro e w2 ⟨rfl, hb2⟩
          have HB2 := Lib.hid hb2
          clear hb2
          go_wp2
          go_roundw
          case rel =>
            refine ⟨_, acc, f, rfl, ?_, HI.out.le, ?_, ?_, ?_, bel_trans HI.out.hb (bel_trans HB2.out (bel_new _ _))⟩
            · have h := rowf_below (rowf_below HI.out.row HB2.out) (bel_new w2 (.cells #[.string ⟨n.toArray⟩, .string ⟨t.toArray⟩] 31))
              show World.ownsRow _ _ _ _ _ _ _
              rw [HM.out] at h ⊢
              exact h
            · rw [HRV.out]; unfold accF; rw [if_neg (by rw [HM.out]; exact hm33)]
            · rw [HUS.out]; omega
            · rw [HUS.out]; omega
          case measure => simp only [strSz]; rw [HUS.out]; omega
end Go.Proofs.YtdjkemodlbbmaaaDoor
