/- strings.TrimLeft at a cutset of one byte; cmp.Compare at strings. -/
import Derived.Test.YtdjkemodlbbmaaaDoorKvA
import Derived.LoopTactic
import Derived.Laws.IdiomStrings
import Derived.Laws.Cover1
import Derived.Outline
namespace Go.Proofs.YtdjkemodlbbmaaaDoor
open Go.RowKit

/-- The bytes without those at the beginning that are c. -/
def trimL (c : UInt8) (l : List UInt8) : List UInt8 := l.dropWhile (fun b => b == c)
theorem trimL_cons_eq (c : UInt8) (r : List UInt8) : trimL c (c :: r) = trimL c r := by simp [trimL]
theorem trimL_cons_ne {c b : UInt8} (r : List UInt8) (h : b ≠ c) : trimL c (b :: r) = b :: r := by simp [trimL, h]
theorem str_of (s : ByteArray) (l : List UInt8) (h : s.data.toList = l) : s = ⟨l.toArray⟩ := by subst h; rfl
theorem ext_b {a b : ByteArray} (h : a.data.toList = b.data.toList) : a = b := by
  cases a; cases b; simp_all [Array.toList_inj]
theorem extract_b (s : ByteArray) (a b : Nat) : (s.extract a b).data.toList = (s.data.toList.take b).drop a := by
  rw [ByteArray.data_extract, Array.toList_extract, List.extract_eq_take_drop, List.drop_take]
theorem extract_from (s : ByteArray) (a : Nat) : (s.extract a s.size).data.toList = s.data.toList.drop a := by
  rw [extract_b, List.take_of_length_le (by simp)]
theorem size_b (s : ByteArray) : s.data.toList.length = s.size := by simp
theorem head_b (s : ByteArray) (h : 0 < s.size) : s.data.toList = s[0] :: s.data.toList.drop 1 := by
  have e := List.drop_eq_getElem_cons (l := s.data.toList) (i := 0) (by rw [size_b]; exact h)
  rw [List.drop_zero] at e
  exact e

theorem toList_b (s : ByteArray) : s.toList = s.data.toList := ByteArray.toList_eq s
theorem str_ne (s : ByteArray) (h : ¬ s.size = 0) : ¬ s.toList = [] ∧ (!s.toList.isEmpty) = true ∧ s.toList.isEmpty = false := by
  have e : ¬ s.toList = [] := by
    rw [toList_b]
    intro q
    have := congrArg List.length q
    rw [size_b] at this
    exact h this
  exact ⟨e, by simpa using e, by simpa using e⟩
def strSz : Value → Nat | .string s => s.size | _ => 0
set_option maxRecDepth 100000 in
set_option maxHeartbeats 1000000 in
theorem trimByte_any (s : ByteArray) (c : UInt8) (w : World) :
    Calls Tryd.prog 43 #[.string s, .int .u8 c.toNat] w fun e w' => e = .returned (.string ⟨(trimL c s.data.toList).toArray⟩) ∧ w = w' := by
  obtain ⟨t, ht⟩ : ∃ t, trimL c s.data.toList = t := ⟨_, rfl⟩
  have HT := Lib.hid ht
  rw [ht]
  clear ht
  go_enter Tryd.func43, Tryd.ntmps43
  go_wp2
  go_loop [0] (fun v => ∃ x : ByteArray, v = .string x ∧ trimL c x.data.toList = t) (fun v => strSz v)
  case atStart => exact ⟨s, rfl, HT.out⟩
  case round =>
    obtain ⟨x, rfl, hx⟩ := hrel
    have HX := Lib.hid hx
    clear hx
    by_cases h0 : 0 < x.size
    · have hh := Lib.hid (head_b x h0)
      by_cases he : x[0] = c
      · have h1 : ((x[0].toNat : Int) == (c.toNat : Int)) = true := by rw [he]; simp
        have he := Lib.hid he
        go_wp2
        go_round
        case rel => 
          refine ⟨_, rfl, ?_⟩
          rw [extract_from, ← HX.out, hh.out, he.out, trimL_cons_eq, List.drop_one, List.tail_cons]
        case measure => simp [strSz]; omega
      · have h1 : ((x[0].toNat : Int) == (c.toNat : Int)) = false := by
          rw [beq_eq_false_iff_ne]
          intro q
          exact he (UInt8.toNat_inj.1 (by omega))
        have he := Lib.hid he
        go_wp2
        go_ret
        exact ⟨by rw [← HX.out, hh.out, trimL_cons_ne _ he.out, ← hh.out]; rfl, rfl⟩
    · have h0 : x.size = 0 := by omega
      go_wp2
      go_ret
      refine ⟨?_, rfl⟩
      have e : x.data.toList = [] := List.eq_nil_of_length_eq_zero (by rw [size_b]; exact h0)
      rw [← HX.out, e, str_of x [] e]
      rfl
set_option maxRecDepth 100000 in
set_option maxHeartbeats 1000000 in
theorem trimLeft_any (s : ByteArray) (w : World) :
    Calls Tryd.prog 30 #[.string s, .string ⟨#[32]⟩] w fun e w' => e = .returned (.string ⟨(trimL 32 s.data.toList).toArray⟩) ∧ w = w' := by
  by_cases h0 : s.size = 0
  · have e : s = ⟨#[]⟩ := ext_b (List.eq_nil_of_length_eq_zero (by rw [size_b]; exact h0))
    subst e
    go_enter Tryd.func30, Tryd.ntmps30
    go_wp2
    go_ret
    exact ⟨rfl, rfl⟩
  · obtain ⟨hn1, hn2, hn3⟩ := str_ne s h0
    have H := Lib.hid (fun W => trimByte_any s 32 W)
    go_enter Tryd.func30, Tryd.ntmps30
    go_wp2_with (go_at_call 43; refine (H.out _).mono ?_; rintro e w' ⟨rfl, rfl⟩)
    go_ret
    exact ⟨rfl, rfl⟩
def lessB (a b : ByteArray) : Bool := Op.bytesLess a.toList b.toList
def cmpS (a b : ByteArray) : Int := if lessB a b then -1 else if a.toList == b.toList then 0 else 1
theorem isNaN_any (a : ByteArray) (w : World) : Calls Tryd.prog 37 #[.string a] w fun e w' => e = .returned (.bool false) ∧ w = w' := by
  go_enter Tryd.func37, Tryd.ntmps37
  go_wp2
  go_ret
  exact ⟨by simp, rfl⟩
theorem cmp_any (a b : ByteArray) (w : World) : Calls Tryd.prog 27 #[.string a, .string b] w fun e w' => e = .returned (.int .i64 (cmpS a b)) ∧ w = w' := by
  unfold cmpS lessB
  go_enter Tryd.func27, Tryd.ntmps27
  go_wp2_with fail
  refine (isNaN_any _ _).mono ?_
  rintro e w' ⟨rfl, rfl⟩
  go_wp2_with fail
  refine (isNaN_any _ _).mono ?_
  rintro e w' ⟨rfl, rfl⟩
  go_wp2
  all_goals go_ret
  all_goals
    refine ⟨?_, rfl⟩
    simp_all
end Go.Proofs.YtdjkemodlbbmaaaDoor
