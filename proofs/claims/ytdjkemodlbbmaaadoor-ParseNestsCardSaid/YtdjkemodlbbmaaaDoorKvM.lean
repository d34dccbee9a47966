/- The contract of Delimited. -/
import Derived.Test.YtdjkemodlbbmaaaDoorKvL
import Derived.Test.YtdjkemodlbbmaaaDoorKvK
import Derived.Test.YtdjkemodlbbmaaaDoorKvD
namespace Go.Proofs.YtdjkemodlbbmaaaDoor
open Go.RowKit

def accS (acc : List ByteArray) (t : List UInt8) : List ByteArray := if acc.length < 33 then acc ++ [⟨t.toArray⟩] else acc
/-- The fields of a line, 33 at most. -/
def dlF (c : UInt8) : Nat → List ByteArray → List UInt8 → Option (List ByteArray)
  | 0, _, _ => none
  | f + 1, acc, l => match dvR c l with
    | none => none
    | some (t, []) => some (accS acc t)
    | some (t, _ :: r) => dlF c f (accS acc t) r
def sepBad (c : UInt8) : Bool := c == 34 || c == 10 || c == 13
def encT (L : List ByteArray) : List Value := L.map Value.string
def StR (base : Nat) (w : World) (v : Value) (L : List ByteArray) : Prop := w.ownsRow base 9 1 v L.length (encT L)
theorem StR.shows {base : Nat} {w : World} {v : Value} {L : List ByteArray} (h : StR base w v L) : StI w v L := by
  rcases rowf_form h with ⟨rfl, h0⟩ | ⟨g, cap, rfl, -, hg, h1, h2⟩
  · exact .inl ⟨List.eq_nil_of_length_eq_zero h0, _, _, rfl⟩
  · refine .inr ⟨g, 0, cap, rfl, hg, fun i hi => ?_⟩
    rw [Nat.zero_add]
    refine (World.ownsRow.cellAt h i (by omega)).trans ?_
    simp [encT, hi]
def DlOut (R : Option (List ByteArray)) (e : Ending) (w' : World) : Prop := match R with
  | none => e = .returned (.tuple #[.slice none 0 0, .int .i64 1])
  | some L => if 32 < L.length then e = .returned (.tuple #[.slice none 0 0, .int .i64 4]) else ∃ v, e = .returned (.tuple #[v, .int .i64 0]) ∧ StI w' v L
theorem infoStr : (Tryd.prog.info? 9).map (fun i => (i.zero, i.size, i.bytes)) = some (some (.string ⟨#[]⟩), 1, 16) := by kernel_rfl
structure DlI (w : World) (c : UInt8) (R : Option (List ByteArray)) (x : ByteArray) (v : Value) (acc : List ByteArray) (f : Nat) (wr : World) : Prop where
  row : StR w.heap.size wr v acc
  le : acc.length ≤ 33
  eqn : R = dlF c f acc x.data.toList
  lt : x.size < f
  sz : x.size ≤ 1000000
  hb : Below w.heap.size w wr
set_option maxRecDepth 100000 in
set_option maxHeartbeats 4000000 in
theorem dl_any (s : ByteArray) (c : UInt8) (w : World) (hs : s.size ≤ 1000000) (hc : sepBad c = false) :
    Calls Tryd.prog 17 #[.string s, .int .u8 c.toNat] w fun e w' => DlOut (dlF c (s.size + 1) [] s.data.toList) e w' ∧ Below w.heap.size w w' := by
  obtain ⟨R, hR⟩ : ∃ R, dlF c (s.size + 1) [] s.data.toList = R := ⟨_, rfl⟩
  have HR := Lib.hid hR
  rw [hR]
  clear hR
  obtain ⟨i0, hi, hz0, hz1, hz2⟩ := info_parts infoStr
  unfold sepBad at hc
  rw [Bool.or_eq_false_iff, Bool.or_eq_false_iff] at hc
  have t1 : ((c.toNat : Int) == 34) = false := by
    rw [beq_eq_false_iff_ne]; intro q
    exact (beq_eq_false_iff_ne.1 hc.1.1) (UInt8.toNat_inj.1 (by simpa using (by omega : c.toNat = 34)))
  have t2 : ((c.toNat : Int) == 10) = false := by
    rw [beq_eq_false_iff_ne]; intro q
    exact (beq_eq_false_iff_ne.1 hc.1.2) (UInt8.toNat_inj.1 (by simpa using (by omega : c.toNat = 10)))
  have t3 : ((c.toNat : Int) == 13) = false := by
    rw [beq_eq_false_iff_ne]; intro q
    exact (beq_eq_false_iff_ne.1 hc.2) (UInt8.toNat_inj.1 (by simpa using (by omega : c.toNat = 13)))
  clear hc
  go_enter Tryd.func17, Tryd.ntmps17
  go_wp2
  go_loopw [0, 6] (fun a b wr => ∃ (x : ByteArray) (acc : List ByteArray) (f : Nat), a = .string x ∧ DlI w c R x b acc f wr) (fun a _ _ => strSz a)
  case atStart => exact ⟨s, [], s.size + 1, rfl, World.ownsRow_nil _ _ _ _, by simp, HR.out.symm, by omega, hs, Below.refl _ _⟩
  case round =>
    obtain ⟨x, acc, f, rfl, hI⟩ := hrel
    obtain ⟨va, vc, rfl⟩ := rowf_slice hI.row
    obtain ⟨f, rfl⟩ : ∃ f', f = f' + 1 := ⟨f - 1, by have := hI.lt; omega⟩
    have HI := Lib.hid hI
    clear hI
    have hP := dv_any x c wr HI.out.sz
    have hRk := HI.out.eqn
    rw [dlF] at hRk
    obtain ⟨m, hm⟩ : ∃ m, acc.length = m := ⟨_, rfl⟩
    have HM := Lib.hid hm
    have hmle : m ≤ 33 := by rw [← hm]; exact HI.out.le
    rw [hm]
    clear hm
    cases hp : dvR c x.data.toList with
    | none =>
      rw [hp] at hP hRk
      have HP := Lib.hid hP
      have HRV := Lib.hid hRk
      clear hP hRk hp
      go_wp2_with fail
      refine (HP.out).mono ?_
      rintro e w2 ⟨⟨a, b, rfl⟩, hb2⟩
      have HB2 := Lib.hid hb2
      clear hb2
      go_wp2
      go_ret2
      exact ⟨by rw [HRV.out]; exact rfl, bel_trans HI.out.hb HB2.out⟩
    | some p =>
      obtain ⟨t, u⟩ := p
      have hul := dvR_len hp
      rw [size_b] at hul
      rw [hp] at hP hRk
      have HP := Lib.hid hP
      clear hP hp
      -- what the list is behind the append
      have hstep : ∀ (w2 : World), Below wr.heap.size wr w2 → w2.ownsRow w.heap.size 9 1 (.slice va m vc) m (encT acc) := fun w2 hb2 => by
        have := rowf_below HI.out.row hb2
        rw [HM.out] at this
        exact this
      have HST := Lib.hid hstep
      clear hstep
      cases u with
      | nil =>
        have HRV := Lib.hid (show R = some (accS acc t) from hRk)
        clear hRk
        by_cases hm33 : m < 33
        · have hacc : accS acc t = acc ++ [⟨t.toArray⟩] := by unfold accS; rw [if_pos (by rw [HM.out]; exact hm33)]
          have HAC := Lib.hid hacc
          clear hacc
          go_wp2_with fail
          refine (HP.out).mono ?_
          rintro e w2 ⟨rfl, hb2⟩
          have HB2 := Lib.hid hb2
          clear hb2
          go_wp2_with (at_builtin; refine wpList_append_own _ rfl _ _ 37 rfl w.heap.size 9 i0 (.string ⟨#[]⟩) 1 16 Tryd.underlying37 hi hz0 hz1 hz2 rfl (by decide) _ _ _ rfl ((HST.out _ HB2.out).alloc _) ⟨w2.heap.size, 0, none⟩ 1 1 [.string ⟨t.toArray⟩] rfl rfl ?c1 ?c2 ?c3 ?c4 ?c5 ?_)
          case c1 =>
            intro j q hj
            match j, hj with
            | 0, hj => simp at hj; subst hj; simp [Addr.add]
          case c2 => intro q hq; simp at hq; subst hq; rfl
          case c3 => unfold maxLen; omega
          case c4 => omega
          case c5 =>
            have q1 := HI.out.hb.size
            have q2 := HB2.out.size
            simp
            omega
          intro v' w3 hown' hgrow _
          obtain ⟨va', vc', rfl⟩ := rowf_slice hown'
          have hbel : Below w.heap.size w w3 := by
            have h1 := bel_trans HI.out.hb HB2.out
            have h2 := (bel_trans h1 (bel_new w2 (.cells #[.string ⟨t.toArray⟩] 9)))
            exact h2.grown hgrow h2.size (fun k hk => (((HST.out _ HB2.out).alloc (.cells #[.string ⟨t.toArray⟩] 9)).lt k hk).1)
          have hrow : StR w.heap.size w3 (.slice va' (m + 1) vc') (acc ++ [⟨t.toArray⟩]) := by
            show World.ownsRow _ _ _ _ _ _ _
            rw [List.length_append, HM.out, show encT (acc ++ [⟨t.toArray⟩]) = encT acc ++ [.string ⟨t.toArray⟩] by simp [encT]]
            exact hown'
          have HW := Lib.hid (And.intro hrow hbel)
          clear hown' hbel hgrow hrow
          by_cases hm32 : m < 32
          · go_wp2
            go_ret2
            refine ⟨?_, HW.out.2⟩
            rw [HRV.out, HAC.out]
            show DlOut (some _) _ _
            unfold DlOut
            simp only []
            rw [if_neg (by rw [List.length_append, HM.out]; simp only [List.length_cons, List.length_nil]; omega)]
            exact ⟨_, rfl, HW.out.1.shows⟩
          · go_wp2
            go_ret2
            refine ⟨?_, HW.out.2⟩
            rw [HRV.out, HAC.out]
            unfold DlOut
            simp only []
            rw [if_pos (by rw [List.length_append, HM.out]; simp only [List.length_cons, List.length_nil]; omega)]
            rfl
        · have hacc : accS acc t = acc := by unfold accS; rw [if_neg (by rw [HM.out]; exact hm33)]
          have HAC := Lib.hid hacc
          clear hacc
          go_wp2_with fail
          refine (HP.out).mono ?_
          rintro e w2 ⟨rfl, hb2⟩
          have HB2 := Lib.hid hb2
          clear hb2
          go_wp2
          go_ret2
          refine ⟨?_, bel_trans HI.out.hb HB2.out⟩
          rw [HRV.out, HAC.out]
          unfold DlOut
          simp only []
          rw [if_pos (by rw [HM.out]; omega)]
          rfl
      | cons b r =>
        have HRV := Lib.hid (show R = dlF c f (accS acc t) r from hRk)
        clear hRk
        obtain ⟨z, hz⟩ : ∃ z : ByteArray, z = ⟨(b :: r).toArray⟩ := ⟨_, rfl⟩
        have hzs : z.size = r.length + 1 := by rw [hz]; rfl
        obtain ⟨hn1, hn2, hn3⟩ := str_ne z (by omega)
        have hzge : 1 ≤ z.size := by omega
        have hzx : (z.extract 1 z.size).data.toList = r := by rw [extract_from, hz]; rfl
        have hzz : (z.extract 1 z.size).size = r.length := by rw [← size_b, hzx]
        have HP : Hid (Calls Tryd.prog 29 #[.string x, .int .u8 c.toNat] wr fun e w' => e = .returned (.tuple #[.string ⟨t.toArray⟩, .string z, .bool true]) ∧ Below wr.heap.size wr w') := by rw [hz]; exact HP
        have HZ := Lib.hid (And.intro hzx hzz)
        simp only [List.length_cons] at hul
        clear hz hzx hzz
        have HZS := Lib.hid hzs
        clear hzs
        by_cases hm33 : m < 33
        · have hacc : accS acc t = acc ++ [⟨t.toArray⟩] := by unfold accS; rw [if_pos (by rw [HM.out]; exact hm33)]
          have HAC := Lib.hid hacc
          clear hacc
          go_wp2_with fail
          refine (HP.out).mono ?_
          rintro e w2 ⟨rfl, hb2⟩
          have HB2 := Lib.hid hb2
          clear hb2
          go_wp2_with (at_builtin; refine wpList_append_own _ rfl _ _ 37 rfl w.heap.size 9 i0 (.string ⟨#[]⟩) 1 16 Tryd.underlying37 hi hz0 hz1 hz2 rfl (by decide) _ _ _ rfl ((HST.out _ HB2.out).alloc _) ⟨w2.heap.size, 0, none⟩ 1 1 [.string ⟨t.toArray⟩] rfl rfl ?c1 ?c2 ?c3 ?c4 ?c5 ?_)
          case c1 =>
            intro j q hj
            match j, hj with
            | 0, hj => simp at hj; subst hj; simp [Addr.add]
          case c2 => intro q hq; simp at hq; subst hq; rfl
          case c3 => unfold maxLen; omega
          case c4 => omega
          case c5 =>
            have q1 := HI.out.hb.size
            have q2 := HB2.out.size
            simp
            omega
          intro v' w3 hown' hgrow _
          obtain ⟨va', vc', rfl⟩ := rowf_slice hown'
          have hbel : Below w.heap.size w w3 := by
            have h1 := bel_trans HI.out.hb HB2.out
            have h2 := (bel_trans h1 (bel_new w2 (.cells #[.string ⟨t.toArray⟩] 9)))
            exact h2.grown hgrow h2.size (fun k hk => (((HST.out _ HB2.out).alloc (.cells #[.string ⟨t.toArray⟩] 9)).lt k hk).1)
          have hrow : StR w.heap.size w3 (.slice va' (m + 1) vc') (acc ++ [⟨t.toArray⟩]) := by
            show World.ownsRow _ _ _ _ _ _ _
            rw [List.length_append, HM.out, show encT (acc ++ [⟨t.toArray⟩]) = encT acc ++ [.string ⟨t.toArray⟩] by simp [encT]]
            exact hown'
          have HW := Lib.hid (And.intro hrow hbel)
          clear hown' hbel hgrow hrow
          go_wp2
          go_roundw
          case rel =>
            refine ⟨_, accS acc t, f, rfl, ?_, ?_, ?_, ?_, ?_, HW.out.2⟩
            · rw [HAC.out]; exact HW.out.1
            · rw [HAC.out, List.length_append, HM.out]; simp only [List.length_cons, List.length_nil]; omega
            · rw [HZ.out.1]; exact HRV.out
            · rw [HZ.out.2]; have := HI.out.lt; omega
            · rw [HZ.out.2]; have := HI.out.sz; omega
          case measure => simp only [strSz]; rw [HZ.out.2]; omega
        · have hacc : accS acc t = acc := by unfold accS; rw [if_neg (by rw [HM.out]; exact hm33)]
          have HAC := Lib.hid hacc
          clear hacc
          go_wp2_with fail
          refine (HP.out).mono ?_
          rintro e w2 ⟨rfl, hb2⟩
          have HB2 := Lib.hid hb2
          clear hb2
          go_wp2
          go_roundw
          case rel =>
            refine ⟨_, accS acc t, f, rfl, ?_, ?_, ?_, ?_, ?_, bel_trans HI.out.hb HB2.out⟩
            · rw [HAC.out]
              show World.ownsRow _ _ _ _ _ _ _
              rw [HM.out]
              exact HST.out _ HB2.out
            · rw [HAC.out]; exact HI.out.le
            · rw [HZ.out.1]; exact HRV.out
            · rw [HZ.out.2]; have := HI.out.lt; omega
            · rw [HZ.out.2]; have := HI.out.sz; omega
          case measure => simp only [strSz]; rw [HZ.out.2]; omega
end Go.Proofs.YtdjkemodlbbmaaaDoor
