/- The contracts of plainValue, quotedValue and pair. -/
import Derived.Test.YtdjkemodlbbmaaaDoorKvE
import Derived.Test.YtdjkemodlbbmaaaDoorCutC
import Derived.WalkSmall
namespace Go.Proofs.YtdjkemodlbbmaaaDoor
open Go.RowKit

def escQ (c : UInt8) : Option UInt8 := if c = 34 ∨ c = 92 then some c else none
theorem ne34 {c : UInt8} {n : Nat} (h : c.toNat = n) (hn : n < 256) : c = UInt8.ofNat n := by
  subst h; simp
theorem escQ_is : EscIs 75 escQ := fun c w => by
  by_cases h1 : c = 34
  · subst h1
    go_enter Tryd.func75, Tryd.ntmps75
    go_wp2
    go_ret2
    exact ⟨⟨34, rfl, fun y hy => by simp [escQ] at hy; exact hy.symm⟩, rfl⟩
  · by_cases h2 : c = 92
    · subst h2
      go_enter Tryd.func75, Tryd.ntmps75
      go_wp2
      go_ret2
      exact ⟨⟨92, rfl, fun y hy => by simp [escQ] at hy; exact hy.symm⟩, rfl⟩
    · have e : escQ c = none := by unfold escQ; rw [if_neg (by rintro (h | h); exact h1 h; exact h2 h)]
      have t1 : ((c.toNat : Int) == 34) = false := by
        rw [beq_eq_false_iff_ne]
        intro q
        exact h1 (UInt8.toNat_inj.1 (by simpa using (by omega : c.toNat = 34)))
      have t2 : ((c.toNat : Int) == 92) = false := by
        rw [beq_eq_false_iff_ne]
        intro q
        exact h2 (UInt8.toNat_inj.1 (by simpa using (by omega : c.toNat = 92)))
      have H := Lib.hid e
      clear e h1 h2
      go_enter Tryd.func75, Tryd.ntmps75
      go_wp2
      go_ret2
      exact ⟨⟨c, by rw [H.out]; rfl, fun y hy => by rw [H.out] at hy; cases hy⟩, rfl⟩
def untl (c : UInt8) (l : List UInt8) : List UInt8 := l.takeWhile (fun b => b != c)
def frm (c : UInt8) (l : List UInt8) : List UInt8 := l.dropWhile (fun b => b != c)
theorem untl_cons (c b : UInt8) (r : List UInt8) : untl c (b :: r) = if b = c then [] else b :: untl c r := by
  unfold untl
  rw [List.takeWhile_cons]
  by_cases h : b = c
  · simp [h]
  · simp [h]
theorem frm_cons (c b : UInt8) (r : List UInt8) : frm c (b :: r) = if b = c then b :: r else frm c r := by
  unfold frm
  rw [List.dropWhile_cons]
  by_cases h : b = c
  · simp [h]
  · simp [h]
theorem cut_at : ∀ (l : List UInt8) (c : UInt8) (o : Nat), l[o]? = some c → (∀ k, k < o → l[k]? ≠ some c) → untl c l = l.take o ∧ frm c l = l.drop o
  | [], c, o, h, _ => by simp at h
  | b :: r, c, 0, h, _ => by
    obtain rfl : b = c := by simpa using h
    rw [untl_cons, frm_cons]
    simp
  | b :: r, c, o + 1, h, hn => by
    have hb : b ≠ c := fun e => hn 0 (by omega) (by simp [e])
    have ih := cut_at r c o (by simpa using h) (fun k hk => by have := hn (k + 1) (by omega); simpa using this)
    rw [untl_cons, frm_cons, if_neg hb, if_neg hb, ih.1, ih.2]
    simp
theorem cut_none : ∀ (l : List UInt8) (c : UInt8), (∀ k : Nat, l[k]? ≠ some c) → untl c l = l ∧ frm c l = []
  | [], c, _ => ⟨rfl, rfl⟩
  | b :: r, c, hn => by
    have hb : b ≠ c := fun e => hn 0 (by simp [e])
    have ih := cut_none r c (fun k => by have := hn (k + 1); simpa using this)
    rw [untl_cons, frm_cons, if_neg hb, if_neg hb, ih.1, ih.2]
    exact ⟨rfl, rfl⟩
theorem idx_cut {l : List UInt8} {c : UInt8} {o : Nat} (h : Lib.indexByte l c = o) : untl c l = l.take o ∧ frm c l = l.drop o ∧ l.drop o = c :: l.drop (o + 1) := by
  have hs := Lib.indexByte_some h
  obtain ⟨h1, h2⟩ := cut_at l c o hs.1 hs.2
  refine ⟨h1, h2, ?_⟩
  obtain ⟨h3, h4⟩ := List.getElem?_eq_some_iff.1 hs.1
  rw [List.drop_eq_getElem_cons h3, h4]
theorem idx_none {l : List UInt8} {c : UInt8} (h : Lib.indexByte l c = -1) : untl c l = l ∧ frm c l = [] := cut_none l c (Lib.indexByte_none h)
/-- What Cut hands back. -/
def cutV (c : UInt8) (l : List UInt8) : Value := .tuple #[.string ⟨(untl c l).toArray⟩, .string ⟨((frm c l).drop 1).toArray⟩, .bool (!(frm c l).isEmpty)]
theorem cut_any (s : ByteArray) (c : UInt8) (w : World) (hs : s.size ≤ maxLen) :
    Calls Tryd.prog 42 #[.string s, .int .u8 c.toNat] w fun e w' => e = .returned (cutV c s.data.toList) ∧ Below w.heap.size w w' := by
  rcases indexByte_ways s c with h | ⟨o, ho, h⟩
  · obtain ⟨h1, h2⟩ := idx_none h
    refine (cut_no s c w h).mono ?_
    rintro e w' ⟨rfl, rfl⟩
    refine ⟨?_, Below.refl _ _⟩
    unfold cutV cutNo
    rw [h1, h2]
    rfl
  · obtain ⟨h1, h2, h3⟩ := idx_cut h
    refine (cut_yes s c o w h ho hs).mono ?_
    rintro e w' ⟨rfl, hb⟩
    refine ⟨?_, hb⟩
    unfold cutV cutYes
    rw [h1, h2, h3, str_of (s.extract 0 o) (s.data.toList.take o) (by rw [extract_b, List.drop_zero]), str_of (s.extract (o + 1) s.size) _ (extract_from s _)]
    rfl
theorem frm_len (c : UInt8) : ∀ l, (untl c l).length + (frm c l).length = l.length
  | [] => rfl
  | b :: r => by
    rw [untl_cons, frm_cons]
    have ih := frm_len c r
    by_cases h : b = c
    · rw [if_pos h, if_pos h]; simp
    · rw [if_neg h, if_neg h]; simp only [List.length_cons]; omega
theorem untl_app (c : UInt8) : ∀ l, untl c l ++ frm c l = l
  | [] => rfl
  | b :: r => by
    rw [untl_cons, frm_cons]
    have ih := untl_app c r
    by_cases h : b = c
    · rw [if_pos h, if_pos h]; simp
    · rw [if_neg h, if_neg h]; simp only [List.cons_append, ih]
def hasB (c : UInt8) (l : List UInt8) : Bool := decide (0 ≤ Lib.indexByte l c)
theorem contains_any (s : ByteArray) (c : UInt8) (w : World) : Calls Tryd.prog 47 #[.string s, .string ⟨#[c]⟩] w fun e w' => e = .returned (.bool (hasB c s.data.toList)) ∧ w' = w := Tryd.strings_Contains_one s c w
/-- A value without quotes. -/
def plainR (l : List UInt8) : Option (List UInt8 × List UInt8) := if hasB 34 (untl 32 l) then none else some (untl 32 l, frm 32 l)
/-- What is handed back of a string read at the beginning. -/
def OutS (r : Option (List UInt8 × List UInt8)) (e : Ending) : Prop := match r with
  | none => ∃ a b : ByteArray, e = .returned (.tuple #[.string a, .string b, .bool false])
  | some (t, u) => e = .returned (.tuple #[.string ⟨t.toArray⟩, .string ⟨u.toArray⟩, .bool true])
set_option maxRecDepth 100000 in
set_option maxHeartbeats 1000000 in
theorem plain_any (s : ByteArray) (w : World) (hs : s.size ≤ 1000000) :
    Calls Tryd.prog 48 #[.string s] w fun e w' => OutS (plainR s.data.toList) e ∧ Below w.heap.size w w' := by
  obtain ⟨v, hv⟩ : ∃ v, untl 32 s.data.toList = v := ⟨_, rfl⟩
  obtain ⟨u, hu⟩ : ∃ u, frm 32 s.data.toList = u := ⟨_, rfl⟩
  have hC := cut_any s 32 w (by unfold maxLen; omega)
  unfold cutV at hC
  rw [hv, hu] at hC
  have hl := frm_len 32 s.data.toList
  have ha := untl_app 32 s.data.toList
  rw [hv, hu] at ha
  rw [hv, hu, size_b] at hl
  have hx : s.extract v.length s.size = ⟨u.toArray⟩ := by
    rw [str_of _ _ (extract_from s _), ← ha, List.drop_left]
  have hR : plainR s.data.toList = if hasB 34 v then none else some (v, u) := by unfold plainR; rw [hv, hu]
  obtain ⟨b, hb⟩ : ∃ b, hasB 34 v = b := ⟨_, rfl⟩
  rw [hb] at hR
  have hK : ∀ W, Calls Tryd.prog 47 #[.string ⟨v.toArray⟩, .string ⟨#[34]⟩] W fun e w' => e = .returned (.bool b) ∧ w' = W := fun W => by
    have := contains_any ⟨v.toArray⟩ 34 W
    rw [show (⟨v.toArray⟩ : ByteArray).data.toList = v from rfl, hb] at this
    exact this
  have HC := Lib.hid hC
  have HK := Lib.hid hK
  have HX := Lib.hid (And.intro hx hR)
  have hsz : (⟨v.toArray⟩ : ByteArray).size = v.length := rfl
  have HZ := Lib.hid hsz
  have hvl : v.length ≤ s.size := by omega
  clear hC hl ha hx hR hK hv hu hb hsz
  go_enter Tryd.func48, Tryd.ntmps48
  go_wp2_with fail
  refine (HC.out).mono ?_
  rintro e w1 ⟨rfl, hb1⟩
  have HB := Lib.hid hb1
  clear hb1
  go_wp2_with fail
  go_quiet ((go_at_call 47; exact Calls.quiet_of_same (HK.out _)))
  all_goals
    go_wp2
    go_ret3
    refine ⟨?_, below_drewN HB.out _⟩
    rw [HX.out.2]
    cases b
    · refine ret_eq ?_
      rw [← HX.out.1]
      rfl
    · exact ⟨_, _, rfl⟩
def endB (c : UInt8) (r : List UInt8) : Bool := match r with
  | [] => true
  | b :: _ => b == c
/-- A value in quotes. -/
def quotR (l : List UInt8) : Option (List UInt8 × List UInt8) := match qA 0 escQ [] (l.drop 1) with
  | none => none
  | some (t, r) => if endB 32 r then some (t, r) else none
theorem eg_quot : ∀ args w, (callFunc 75 args).run Tryd.prog w = .ok (.enter 75 args) w := enters_of Tryd.func75 (by kernel_rfl) rfl
set_option maxRecDepth 100000 in
set_option maxHeartbeats 1000000 in
theorem quot_any (s : ByteArray) (w : World) (h1 : 1 ≤ s.size) (hs : s.size ≤ 1000000) :
    Calls Tryd.prog 49 #[.string s] w fun e w' => OutS (quotR s.data.toList) e ∧ Below w.heap.size w w' := by
  have hq := quoted_any s 0 _ escQ w h1 hs escQ_is eg_quot (by decide)
  have hq' : Calls Tryd.prog 74 #[.string s, .int .u8 0, .func (.func 75) #[] #[]] w fun e w' => e = .returned (qR (qA 0 escQ [] (s.data.toList.drop 1))) ∧ Below w.heap.size w w' := hq
  obtain ⟨R, hR⟩ : ∃ R, quotR s.data.toList = R := ⟨_, rfl⟩
  have HR := Lib.hid hR
  rw [hR]
  clear hq hR
  cases hr : qA 0 escQ [] (s.data.toList.drop 1) with
  | none =>
    have HRV := Lib.hid (show R = none by rw [← HR.out]; unfold quotR; rw [hr])
    rw [hr] at hq'
    have HQ := Lib.hid hq'
    clear hq' hr
    go_enter Tryd.func49, Tryd.ntmps49
    go_wp2_with fail
    refine (HQ.out).mono ?_
    unfold qR
    rintro e w1 ⟨rfl, hb1⟩
    have HB := Lib.hid hb1
    clear hb1
    go_wp2_with fail
    go_quiet (fail)
    go_wp2
    go_ret3
    exact ⟨by rw [HRV.out]; exact ⟨_, _, rfl⟩, below_drewN HB.out _⟩
  | some p =>
    obtain ⟨t, r⟩ := p
    have HRW := Lib.hid (show R = if endB 32 r then some (t, r) else none by rw [← HR.out]; unfold quotR; rw [hr])
    rw [hr] at hq'
    have HQ := Lib.hid hq'
    clear hq' hr
    cases r with
    | nil =>
      go_enter Tryd.func49, Tryd.ntmps49
      go_wp2_with fail
      refine (HQ.out).mono ?_
      unfold qR
      rintro e w1 ⟨rfl, hb1⟩
      have HB := Lib.hid hb1
      clear hb1
      go_wp2_with fail
      go_quiet (fail)
      go_wp2
      go_ret3
      exact ⟨by rw [HRW.out]; exact rfl, below_drewN HB.out _⟩
    | cons b r =>
      obtain ⟨z, hz⟩ : ∃ z : ByteArray, z = ⟨(b :: r).toArray⟩ := ⟨_, rfl⟩
      have hz0 : 0 < z.size := by rw [hz]; exact Nat.zero_lt_succ _
      have hzb : z[0] = b := by subst hz; rfl
      obtain ⟨hn1, hn2, hn3⟩ := str_ne z (by omega)
      have HQ2 : Hid (Calls Tryd.prog 74 #[.string s, .int .u8 0, .func (.func 75) #[] #[]] w fun e w' => e = .returned (.tuple #[.string ⟨t.toArray⟩, .string z, .bool true]) ∧ Below w.heap.size w w') := by rw [hz]; exact HQ
      have HZ := Lib.hid hz
      clear hz HQ
      by_cases hb : b = 32
      · subst hb
        have t1 : ((z[0].toNat : Int) == 32) = true := by rw [hzb]; rfl
        clear hzb
        go_enter Tryd.func49, Tryd.ntmps49
        go_wp2_with fail
        refine (HQ2.out).mono ?_
        rintro e w1 ⟨rfl, hb1⟩
        have HB := Lib.hid hb1
        clear hb1
        go_wp2_with fail
        go_quiet (fail)
        go_wp2
        go_ret3
        refine ⟨?_, below_drewN HB.out _⟩
        rw [HRW.out]
        refine ret_eq ?_
        rw [← HZ.out]
        rfl
      · have t1 : ((z[0].toNat : Int) == 32) = false := by
          rw [hzb, beq_eq_false_iff_ne]
          intro q
          exact hb (UInt8.toNat_inj.1 (by simpa using (by omega : b.toNat = 32)))
        have he : endB 32 (b :: r) = false := by show (b == 32) = false; simpa using hb
        have HE := Lib.hid he
        clear he hb hzb
        go_enter Tryd.func49, Tryd.ntmps49
        go_wp2_with fail
        refine (HQ2.out).mono ?_
        rintro e w1 ⟨rfl, hb1⟩
        have HB := Lib.hid hb1
        clear hb1
        go_wp2_with fail
        go_quiet (fail)
        go_wp2
        go_ret3
        refine ⟨?_, below_drewN HB.out _⟩
        rw [HRW.out, HE.out]
        exact ⟨_, _, rfl⟩
end Go.Proofs.YtdjkemodlbbmaaaDoor
