/- The contracts of doubleQuoted and delimitedValue. -/
import Derived.Test.YtdjkemodlbbmaaaDoorKvG
namespace Go.Proofs.YtdjkemodlbbmaaaDoor
open Go.RowKit

/-- A string in quotes, read behind its first quote; the first argument: whether a quote stands before. -/
def dS : Bool → List UInt8 → List UInt8 → Option (List UInt8 × List UInt8)
  | false, _, [] => none
  | true, acc, [] => some (acc, [])
  | false, acc, c :: r => if c = 34 then dS true acc r else dS false (acc ++ [c]) r
  | true, acc, c :: r => if c = 34 then dS false (acc ++ [34]) r else some (acc, c :: r)
theorem dS_cut : ∀ (l acc : List UInt8), dS false acc l = match frm 34 l with
    | [] => none
    | _ :: a => dS true (acc ++ untl 34 l) a
  | [], acc => rfl
  | c :: r, acc => by
    rw [dS, frm_cons, untl_cons]
    by_cases h : c = 34
    · rw [if_pos h, if_pos h, if_pos h]; simp
    · rw [if_neg h, if_neg h, if_neg h, dS_cut r (acc ++ [c])]
      cases frm 34 r with
      | nil => rfl
      | cons b a => simp
theorem dS_len : ∀ (l : List UInt8) (p : Bool) (acc t u : List UInt8), dS p acc l = some (t, u) → u.length ≤ l.length
  | [], false, acc, t, u, h => by cases h
  | [], true, acc, t, u, h => by cases h; exact Nat.le_refl _
  | c :: r, false, acc, t, u, h => by
    rw [dS] at h
    simp only [List.length_cons]
    split at h
    · have := dS_len r _ _ _ _ h; omega
    · have := dS_len r _ _ _ _ h; omega
  | c :: r, true, acc, t, u, h => by
    rw [dS] at h
    split at h
    · have := dS_len r _ _ _ _ h; simp only [List.length_cons]; omega
    · cases h; exact Nat.le_refl _
theorem bd_below {B b : Nat} {l : List UInt8} {w w' : World} (h : Bd B b l w) (k : Below w.heap.size w w') : Bd B b l w' := by
  have hlt := h.lt
  obtain ⟨p, hp, hB, v, hb, hown, hne⟩ := h
  exact ⟨p, hp, hB, v, (k.block b hlt).trans hb, rowf_below hown k, hne⟩
structure DqI (w : World) (R : Option (List UInt8 × List UInt8)) (d : Bool) (x : ByteArray) (wr : World) : Prop where
  st : ∃ acc : List UInt8, acc.length + x.size ≤ 1000000 ∧ Bd w.heap.size w.heap.size acc wr ∧ (d = true → 1 ≤ x.size ∧ R = dS false acc (x.data.toList.drop 1)) ∧ (d = false → R = some (acc, x.data.toList))
  hb : Below w.heap.size w wr
def bN (d : Value) : Nat := match d with
  | .bool true => 1
  | _ => 0
set_option maxRecDepth 100000 in
set_option maxHeartbeats 4000000 in
theorem dq_any (s : ByteArray) (w : World) (h1 : 1 ≤ s.size) (hs : s.size ≤ 1000000) :
    Calls Tryd.prog 41 #[.string s] w fun e w' => e = .returned (qR (dS false [] (s.data.toList.drop 1))) ∧ Below w.heap.size w w' := by
  obtain ⟨R, hR⟩ : ∃ R, dS false [] (s.data.toList.drop 1) = R := ⟨_, rfl⟩
  have HR := Lib.hid hR
  rw [hR]
  clear hR
  go_enter Tryd.func41, Tryd.ntmps41
  go_wp2
  go_loopw [0, 6] (fun a b wr => ∃ (x : ByteArray) (d : Bool), a = .string x ∧ b = .bool d ∧ DqI w R d x wr) (fun a b _ => strSz a + bN b)
  case atStart => exact ⟨s, true, rfl, rfl, ⟨[], by simpa using hs, bd_new w, fun _ => ⟨h1, HR.out.symm⟩, (fun h => by cases h)⟩, bel_new w _⟩
  case round =>
    obtain ⟨x, d, rfl, rfl, hI⟩ := hrel
    have HI := Lib.hid hI
    clear hI
    cases d with
    | false =>
      obtain ⟨⟨acc, hal, hbd, -, hR⟩, hbel⟩ := HI.out
      have hRv := hR rfl
      have HRV := Lib.hid hRv
      have HB := Lib.hid (And.intro hbd hbel)
      have HS := Lib.hid (fun (W : World) (q1 : Bd w.heap.size w.heap.size acc W) (q2 : w.heap.size ≤ W.heap.size) => bdString _ _ acc W q1 q2)
      clear hR hRv hbd hbel
      go_wp2_with fail
      refine (HS.out _ HB.out.1 HB.out.2.size).mono ?_
      rintro e w3 ⟨rfl, hb3⟩
      go_wp2
      go_ret3
      refine ⟨ret_eq (by rw [HRV.out]; rfl), HB.out.2.trans hb3⟩
    | true =>
      obtain ⟨⟨acc, hal, hbd, hR, -⟩, hbel⟩ := HI.out
      obtain ⟨hx1, hRv⟩ := hR rfl
      obtain ⟨y, hy⟩ : ∃ y, x.extract 1 x.size = y := ⟨_, rfl⟩
      have hyl : y.data.toList = x.data.toList.drop 1 := by rw [← hy, extract_from]
      have hys : y.size = x.size - 1 := by
        have := congrArg List.length hyl
        rw [size_b, List.length_drop, size_b] at this
        exact this
      rw [← hyl, dS_cut] at hRv
      have hC := fun W => cut_any y 34 W (by unfold maxLen; omega)
      unfold cutV at hC
      have hlen := frm_len 34 y.data.toList
      rw [size_b] at hlen
      obtain ⟨u, hu⟩ : ∃ u, untl 34 y.data.toList = u := ⟨_, rfl⟩
      rw [hu] at hC hRv hlen
      have HY := Lib.hid hy
      cases hf : frm 34 y.data.toList with
      | nil =>
        rw [hf] at hC hRv
        have HC := Lib.hid hC
        have HRV := Lib.hid hRv
        have HB := Lib.hid hbel
        clear hC hRv hf hu hyl hR hbel hbd hlen hys hy
        go_wp2_with fail
        rw [HY.out]
        refine (HC.out _).mono ?_
        rintro e w3 ⟨rfl, hb3⟩
        go_wp2
        go_ret3
        refine ⟨ret_eq (by rw [HRV.out]; rfl), HB.out.trans (hb3.mono HB.out.size)⟩
      | cons b a =>
        rw [hf] at hC hRv hlen
        have HC := Lib.hid hC
        have HRV := Lib.hid hRv
        simp only [List.length_cons] at hlen
        have hws := fun (W : World) (q : Bd w.heap.size w.heap.size acc W) => bldStr _ _ acc ⟨u.toArray⟩ W q (by omega) (by show u.length ≤ _; omega)
        have HWS := Lib.hid hws
        have HB := Lib.hid (And.intro hbd hbel)
        have hP : ∀ W, Calls Tryd.prog 40 #[.string ⟨a.toArray⟩, .string ⟨#[34]⟩] W fun e w' => e = .returned (.bool (q34 a)) ∧ W = w' := fun W => by
          have := Tryd.strings_HasPrefix ⟨a.toArray⟩ ⟨#[34]⟩ W
          rw [show (⟨a.toArray⟩ : ByteArray).data.toList = a from rfl, show (⟨#[34]⟩ : ByteArray).data.toList = [34] from rfl, pre34] at this
          exact this.mono fun _ _ h => ⟨h.1, h.2.symm⟩
        have hal2 : acc.length + u.length + a.length + 1 < 1000000 := by omega
        have hax : a.length + 2 ≤ x.size := by omega
        have HLN := Lib.hid (show (⟨a.toArray⟩ : ByteArray).size = a.length from rfl)
        clear hC hRv hf hu hyl hR hbel hbd hlen hws hys hy
        cases hq : q34 a with
        | false =>
          rw [hq] at hP
          have HP := Lib.hid hP
          have HQ := Lib.hid hq
          clear hP hq
          go_wp2_with fail
          rw [HY.out]
          refine (HC.out _).mono ?_
          rintro e w3 ⟨rfl, hb3⟩
          have HB3 := Lib.hid (And.intro (bd_below HB.out.1 hb3) (bel_trans HB.out.2 hb3))
          clear hb3
          go_wp2_with fail
          refine (HWS.out _ HB3.out.1).mono ?_
          rintro e w4 ⟨⟨r4, rfl⟩, hb4, hb5, -, -⟩
          have HB4 := Lib.hid (And.intro hb4 (HB3.out.2.trans hb5))
          clear hb4 hb5
          go_wp2_with fail
          refine (HP.out _).mono ?_
          rintro e w5 ⟨rfl, rfl⟩
          go_wp2
          go_roundw
          case rel =>
            refine ⟨⟨a.toArray⟩, false, rfl, rfl, ⟨acc ++ u, ?_, HB4.out.1, (fun h => by cases h), fun _ => ?_⟩, HB4.out.2⟩
            · rw [HLN.out, List.length_append]; omega
            · have hh := HRV.out
              rw [hh]
              have hq2 := HQ.out
              cases a with
              | nil => rfl
              | cons c r =>
                have hc : c ≠ 34 := by simpa [q34] using hq2
                rw [dS, if_neg hc]
          case measure => simp only [strSz, bN]; rw [HLN.out]; omega
        | true =>
          rw [hq] at hP
          have HP := Lib.hid hP
          have HQ := Lib.hid hq
          clear hP hq
          go_wp2_with fail
          rw [HY.out]
          refine (HC.out _).mono ?_
          rintro e w3 ⟨rfl, hb3⟩
          have HB3 := Lib.hid (And.intro (bd_below HB.out.1 hb3) (bel_trans HB.out.2 hb3))
          clear hb3
          go_wp2_with fail
          refine (HWS.out _ HB3.out.1).mono ?_
          rintro e w4 ⟨⟨r4, rfl⟩, hb4, hb5, -, -⟩
          have HB4 := Lib.hid (And.intro hb4 (HB3.out.2.trans hb5))
          have hwb : Calls Tryd.prog 67 #[.pointer (some ⟨w.heap.size, 0, none⟩), .int .u8 34] w4 fun e w' => e = .returned .nilIface ∧ BOut w.heap.size w.heap.size (acc ++ u ++ [34]) w4 w' := bldByte _ _ (acc ++ u) 34 w4 hb4 (by rw [List.length_append]; omega)
          have HWB := Lib.hid hwb
          clear hb4 hb5 hwb
          go_wp2_with fail
          refine (HP.out _).mono ?_
          rintro e w5 ⟨rfl, rfl⟩
          go_wp2_with fail
          refine (HWB.out).mono ?_
          rintro e w6 ⟨rfl, hb6, hb7, -, -⟩
          have HB6 := Lib.hid (And.intro hb6 (HB4.out.2.trans hb7))
          clear hb6 hb7
          go_wp2
          go_roundw
          case rel =>
            refine ⟨⟨a.toArray⟩, true, rfl, rfl, ⟨acc ++ u ++ [34], ?_, HB6.out.1, fun _ => ?_, (fun h => by cases h)⟩, HB6.out.2⟩
            · rw [HLN.out, List.length_append, List.length_append]; simp only [List.length_cons, List.length_nil]; omega
            · have hh := HRV.out
              rw [hh]
              have hq2 := HQ.out
              cases a with
              | nil => cases hq2
              | cons c r =>
                have hc : c = 34 := by simpa [q34] using hq2
                refine ⟨by show 1 ≤ (c :: r).length; simp, ?_⟩
                rw [dS, if_pos hc]
                rfl
          case measure => simp only [strSz, bN]; rw [HLN.out]; omega
/-- A field of delimited ones at the beginning, and what follows it. -/
def dvR (c : UInt8) (l : List UInt8) : Option (List UInt8 × List UInt8) := if q34 l then (match dS false [] (l.drop 1) with
    | none => none
    | some (t, r) => if endB c r then some (t, r) else none) else some (untl c l, frm c l)
set_option maxRecDepth 100000 in
set_option maxHeartbeats 1000000 in
theorem dv_plain (s : ByteArray) (c : UInt8) (w : World) (hs : s.size ≤ 1000000) (hq : q34 s.data.toList = false) :
    Calls Tryd.prog 29 #[.string s, .int .u8 c.toNat] w fun e w' => OutS (some (untl c s.data.toList, frm c s.data.toList)) e ∧ Below w.heap.size w w' := by
  obtain ⟨v, hv⟩ : ∃ v, untl c s.data.toList = v := ⟨_, rfl⟩
  obtain ⟨u, hu⟩ : ∃ u, frm c s.data.toList = u := ⟨_, rfl⟩
  have hC := cut_any s c w (by unfold maxLen; omega)
  unfold cutV at hC
  rw [hv, hu] at hC ⊢
  have hl := frm_len c s.data.toList
  have ha := untl_app c s.data.toList
  rw [hv, hu] at ha
  rw [hv, hu, size_b] at hl
  have hx : s.extract v.length s.size = ⟨u.toArray⟩ := by
    rw [str_of _ _ (extract_from s _), ← ha, List.drop_left]
  have hP : ∀ W, Calls Tryd.prog 40 #[.string s, .string ⟨#[34]⟩] W fun e w' => e = .returned (.bool false) ∧ W = w' := fun W => by
    have := Tryd.strings_HasPrefix s ⟨#[34]⟩ W
    rw [show (⟨#[34]⟩ : ByteArray).data.toList = [34] from rfl, pre34, hq] at this
    exact this.mono fun _ _ h => ⟨h.1, h.2.symm⟩
  have HP := Lib.hid hP
  have HC := Lib.hid hC
  have HX := Lib.hid hx
  have hsz : (⟨v.toArray⟩ : ByteArray).size = v.length := rfl
  have HZ := Lib.hid hsz
  have hvl : v.length ≤ s.size := by omega
  clear hC hl ha hx hP hv hu hsz hq
  go_enter Tryd.func29, Tryd.ntmps29
  go_wp2_with fail
  refine (HP.out _).mono ?_
  rintro e w1 ⟨rfl, rfl⟩
  go_wp2_with fail
  refine (HC.out).mono ?_
  rintro e w1 ⟨rfl, hb1⟩
  have HB := Lib.hid hb1
  clear hb1
  go_wp2_with fail
  go_quiet (fail)
  go_wp2
  go_ret3
  refine ⟨?_, below_drewN HB.out _⟩
  refine ret_eq ?_
  rw [← HX.out]
  rfl
set_option maxRecDepth 100000 in
set_option maxHeartbeats 1000000 in
theorem dv_quot (s : ByteArray) (m : UInt8) (w : World) (hs : s.size ≤ 1000000) (hq : q34 s.data.toList = true) :
    Calls Tryd.prog 29 #[.string s, .int .u8 m.toNat] w fun e w' => OutS (match dS false [] (s.data.toList.drop 1) with
    | none => none
    | some (t, r) => if endB m r then some (t, r) else none) e ∧ Below w.heap.size w w' := by
  have h1 : 1 ≤ s.size := by
    have := (valR_q hq).2
    rw [size_b] at this
    exact this
  have hq' := dq_any s w h1 hs
  have hP : ∀ W, Calls Tryd.prog 40 #[.string s, .string ⟨#[34]⟩] W fun e w' => e = .returned (.bool true) ∧ W = w' := fun W => by
    have := Tryd.strings_HasPrefix s ⟨#[34]⟩ W
    rw [show (⟨#[34]⟩ : ByteArray).data.toList = [34] from rfl, pre34, hq] at this
    exact this.mono fun _ _ h => ⟨h.1, h.2.symm⟩
  have HP := Lib.hid hP
  obtain ⟨R, hR⟩ : ∃ R, (match dS false [] (s.data.toList.drop 1) with
    | none => none
    | some (t, r) => if endB m r then some (t, r) else none) = R := ⟨_, rfl⟩
  rw [hR]
  clear hP hq
  cases hr : dS false [] (s.data.toList.drop 1) with
  | none =>
    have HRV := Lib.hid (show R = none by rw [← hR, hr])
    rw [hr] at hq'
    have HQ := Lib.hid hq'
    clear hq' hr hR
    go_enter Tryd.func29, Tryd.ntmps29
    go_wp2_with fail
    refine (HP.out _).mono ?_
    rintro e w1 ⟨rfl, rfl⟩
    go_wp2_with fail
    refine (HQ.out).mono ?_
    unfold qR
    rintro e w1 ⟨rfl, hb1⟩
    have HB := Lib.hid hb1
    clear hb1
    go_wp2_with fail
    go_quiet (fail)
    go_wp2
    go_ret3
    exact ⟨by rw [HRV.out]; exact ⟨_, _, rfl⟩, below_drewN HB.out _⟩
  | some p =>
    obtain ⟨t, r⟩ := p
    have HRW := Lib.hid (show R = if endB m r then some (t, r) else none by rw [← hR, hr])
    rw [hr] at hq'
    have HQ := Lib.hid hq'
    clear hq' hr hR
    cases r with
    | nil =>
      go_enter Tryd.func29, Tryd.ntmps29
      go_wp2_with fail
      refine (HP.out _).mono ?_
      rintro e w1 ⟨rfl, rfl⟩
      go_wp2_with fail
      refine (HQ.out).mono ?_
      unfold qR
      rintro e w1 ⟨rfl, hb1⟩
      have HB := Lib.hid hb1
      clear hb1
      go_wp2_with fail
      go_quiet (fail)
      go_wp2
      go_ret3
      exact ⟨by rw [HRW.out]; exact rfl, below_drewN HB.out _⟩
    | cons b r =>
      obtain ⟨z, hz⟩ : ∃ z : ByteArray, z = ⟨(b :: r).toArray⟩ := ⟨_, rfl⟩
      have hz0 : 0 < z.size := by rw [hz]; exact Nat.zero_lt_succ _
      have hzb : z[0] = b := by subst hz; rfl
      obtain ⟨hn1, hn2, hn3⟩ := str_ne z (by omega)
      have HQ2 : Hid (Calls Tryd.prog 41 #[.string s] w fun e w' => e = .returned (.tuple #[.string ⟨t.toArray⟩, .string z, .bool true]) ∧ Below w.heap.size w w') := by rw [hz]; exact HQ
      have HZ := Lib.hid hz
      clear hz HQ
      cases hbm : (b == m) with
      | true =>
        have t1 : ((z[0].toNat : Int) == (m.toNat : Int)) = true := by rw [hzb, eq_of_beq hbm]; simp
        have HE := Lib.hid (show endB m (b :: r) = true from hbm)
        clear hzb hbm
        go_enter Tryd.func29, Tryd.ntmps29
        go_wp2_with fail
        refine (HP.out _).mono ?_
        rintro e w1 ⟨rfl, rfl⟩
        go_wp2_with fail
        refine (HQ2.out).mono ?_
        rintro e w1 ⟨rfl, hb1⟩
        have HB := Lib.hid hb1
        clear hb1
        go_wp2_with fail
        go_quiet (fail)
        go_wp2
        go_ret3
        refine ⟨?_, below_drewN HB.out _⟩
        rw [HRW.out, HE.out]
        refine ret_eq ?_
        rw [← HZ.out]
        rfl
      | false =>
        have t1 : ((z[0].toNat : Int) == (m.toNat : Int)) = false := by
          rw [hzb, beq_eq_false_iff_ne]
          intro q
          have := UInt8.toNat_inj.1 (by omega : b.toNat = m.toNat)
          rw [this] at hbm
          simp at hbm
        have HE := Lib.hid (show endB m (b :: r) = false from hbm)
        clear hzb hbm
        go_enter Tryd.func29, Tryd.ntmps29
        go_wp2_with fail
        refine (HP.out _).mono ?_
        rintro e w1 ⟨rfl, rfl⟩
        go_wp2_with fail
        refine (HQ2.out).mono ?_
        rintro e w1 ⟨rfl, hb1⟩
        have HB := Lib.hid hb1
        clear hb1
        go_wp2_with fail
        go_quiet (fail)
        go_wp2
        go_ret3
        refine ⟨?_, below_drewN HB.out _⟩
        rw [HRW.out, HE.out]
        exact ⟨_, _, rfl⟩
theorem dv_any (s : ByteArray) (m : UInt8) (w : World) (hs : s.size ≤ 1000000) :
    Calls Tryd.prog 29 #[.string s, .int .u8 m.toNat] w fun e w' => OutS (dvR m s.data.toList) e ∧ Below w.heap.size w w' := by
  unfold dvR
  cases hq : q34 s.data.toList with
  | true => rw [if_pos rfl]; exact dv_quot s m w hs hq
  | false => rw [if_neg (by simp)]; exact dv_plain s m w hs hq
theorem dvR_len {c : UInt8} {l t u : List UInt8} (h : dvR c l = some (t, u)) : u.length ≤ l.length := by
  unfold dvR at h
  split at h
  · cases hr : dS false [] (l.drop 1) with
    | none => rw [hr] at h; cases h
    | some p =>
      obtain ⟨t', u'⟩ := p
      rw [hr] at h
      simp only [] at h
      split at h
      · cases h
        have := dS_len _ _ _ _ _ hr
        rw [List.length_drop] at this
        omega
      · cases h
  · cases h
    have := frm_len c l
    omega
end Go.Proofs.YtdjkemodlbbmaaaDoor
