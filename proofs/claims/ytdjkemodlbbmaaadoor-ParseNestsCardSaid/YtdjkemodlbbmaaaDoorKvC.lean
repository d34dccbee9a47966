/- What the name of a field is: the contracts of isName and of its reference. -/
import Derived.Test.YtdjkemodlbbmaaaDoorKvB
import Derived.Test.YtdjkemodlbbmaaaDoorAsciiCls
namespace Go.Proofs.YtdjkemodlbbmaaaDoor
open Go.RowKit

def fstB (c : Nat) : Bool := decide (c = 95) || letB c
def nchB (c : Nat) : Bool := decide (c = 46) || wrdB c
def nameL (l : List UInt8) : Bool := match l with
  | [] => false
  | c :: r => decide (r.length < 32) && fstB c.toNat && (c :: r).all (fun b => nchB b.toNat)
theorem nameL_cons (c : UInt8) (r : List UInt8) : nameL (c :: r) = (decide (r.length < 32) && fstB c.toNat && (c :: r).all (fun b => nchB b.toNat)) := rfl
theorem nameL_nil {s : ByteArray} (h : s.size = 0) : nameL s.data.toList = false := by
  have e : s.data.toList = [] := List.eq_nil_of_length_eq_zero (by rw [size_b]; exact h)
  rw [e]; rfl
theorem nameL_long {s : ByteArray} (h : 32 < s.size) : nameL s.data.toList = false := by
  have hl := size_b s
  rw [head_b s (by omega)] at hl ⊢
  rw [nameL_cons]
  rw [decide_eq_false (by simp only [List.length_cons] at hl; omega)]
  rfl
theorem nameL_first {s : ByteArray} (h : 0 < s.size) (hf : fstB s[0].toNat = false) : nameL s.data.toList = false := by
  rw [head_b s h]
  rw [nameL_cons]
  rw [hf, Bool.and_false]
  rfl
theorem nameL_bad {s : ByteArray} (k : Nat) (h : k < s.size) (hf : nchB s[k].toNat = false) : nameL s.data.toList = false := by
  have hm : s[k] ∈ s.data.toList := by
    have : s[k] = s.data.toList[k]'(by rw [size_b]; exact h) := rfl
    rw [this]
    exact List.getElem_mem _
  have hh := head_b s (by omega)
  rw [hh] at hm ⊢
  rw [nameL_cons]
  have : (s[0] :: List.drop 1 s.data.toList).all (fun b => nchB b.toNat) = false := by
    rw [List.all_eq_false]
    exact ⟨_, hm, by rw [hf]; simp⟩
  rw [this, Bool.and_false]
theorem nameL_yes {s : ByteArray} (h : 0 < s.size) (h32 : s.size ≤ 32) (hf : fstB s[0].toNat = true) (ha : ∀ k (h : k < s.size), nchB s[k].toNat = true) : nameL s.data.toList = true := by
  have hl := size_b s
  have hall : s.data.toList.all (fun b => nchB b.toNat) = true := by
    rw [List.all_eq_true]
    intro x hx
    obtain ⟨k, hk, rfl⟩ := List.getElem_of_mem hx
    exact ha k (by rw [size_b] at hk; exact hk)
  rw [head_b s h] at hl hall ⊢
  rw [nameL_cons]
  rw [decide_eq_true (by simp only [List.length_cons] at hl; omega), hf, hall]
  rfl
theorem u8lt (c : UInt8) : c.toNat < 256 := c.toNat_lt

set_option maxRecDepth 100000 in
set_option maxHeartbeats 4000000 in
theorem isName_any (s : ByteArray) (w : World) :
    Calls Tryd.prog 23 #[.string s] w fun e w' => e = .returned (.bool (nameL s.data.toList)) ∧ Below w.heap.size w w' := by
  by_cases h0 : s.size = 0
  · rw [nameL_nil h0]
    have e : s = ⟨#[]⟩ := ext_b (List.eq_nil_of_length_eq_zero (by rw [size_b]; exact h0))
    subst e
    go_enter Tryd.func23, Tryd.ntmps23
    go_wp2
    go_ret
    exact ⟨rfl, Below.refl _ _⟩
  · obtain ⟨hn1, hn2, hn3⟩ := str_ne s h0
    by_cases h32 : 32 < s.size
    · rw [nameL_long h32]
      go_enter Tryd.func23, Tryd.ntmps23
      go_wp2
      go_ret
      exact ⟨rfl, Below.refl _ _⟩
    · have hpos : 0 < s.size := by omega
      have h32' : s.size ≤ 32 := by omega
      have hmx : s.size ≤ maxLen := by unfold maxLen; omega
      cases hf : fstB s[0].toNat with
      | false =>
        rw [nameL_first hpos hf]
        obtain ⟨c, hc⟩ : ∃ c, s[0] = c := ⟨_, rfl⟩
        rw [hc] at hf
        unfold fstB at hf
        rw [Bool.or_eq_false_iff] at hf
        have h95 : ((s[0].toNat : Int) != 95) = true := by rw [hc]; have := of_decide_eq_false hf.1; simp; omega
        have HL := Lib.hid (fun W => letter_any s[0].toNat (u8lt _) W)
        have hle := hf.2
        rw [← hc] at hle
        rw [hle] at HL
        clear hf hle hc
        go_enter Tryd.func23, Tryd.ntmps23
        go_wp2_with (go_at_call 33; refine (HL.out _).mono ?_; rintro e w1 ⟨rfl, hb1⟩)
        go_ret
        exact ⟨rfl, hb1⟩
      | true =>
        have hor : ((s[0].toNat : Int) != 95) = false ∨ (((s[0].toNat : Int) != 95) = true ∧ letB s[0].toNat = true) := by
          unfold fstB at hf
          rw [Bool.or_eq_true_iff] at hf
          by_cases h : s[0].toNat = 95
          · left; simp; omega
          · right
            rcases hf with hf | hf
            · exact absurd (of_decide_eq_true hf) h
            · exact ⟨by simp; omega, hf⟩
        have HF := Lib.hid hf
        have HL := Lib.hid (fun W => letter_any s[0].toNat (u8lt _) W)
        clear hf
        rcases hor with h95 | ⟨h95, hlt⟩
        all_goals
          try rw [hlt] at HL
          try clear hlt
          go_enter Tryd.func23, Tryd.ntmps23
          go_wp2_with (go_at_call 33; refine (HL.out _).mono ?_; rintro e w1 ⟨rfl, hb1⟩)
          go_loopw [24] (fun v wr => ∃ k : Nat, v = .int .i64 k ∧ k ≤ s.size ∧ (∀ j (h : j < s.size), j < k → nchB s[j].toNat = true) ∧ Below w.heap.size w wr) (fun v _ => s.size - (intOf v).toNat)
          case atStart => exact ⟨0, rfl, Nat.zero_le _, fun j _ h => absurd h (Nat.not_lt_zero _), by first | exact hb1 | exact Below.refl _ _⟩
          case round =>
            obtain ⟨k, rfl, hk, hall, hb⟩ := hrel
            have HA := Lib.hid (And.intro hall hb)
            clear hall hb
            by_cases hlt : k < s.size
            · have HW := Lib.hid (fun W => word_any s[k].toNat (u8lt _) W)
              cases hw : nchB s[k].toNat with
              | false =>
                have HB := Lib.hid (nameL_bad k hlt hw)
                unfold nchB at hw
                rw [Bool.or_eq_false_iff] at hw
                have h46 : ((s[k].toNat : Int) != 46) = true := by have := of_decide_eq_false hw.1; simp; omega
                rw [hw.2] at HW
                clear hw
                go_wp2_with (go_at_call 34; refine (HW.out _).mono ?_; rintro e w2 ⟨rfl, hb2⟩)
                go_ret
                exact ⟨ret_bool HB.out.symm, bel_trans HA.out.2 hb2⟩
              | true =>
                have hor : ((s[k].toNat : Int) != 46) = false ∨ (((s[k].toNat : Int) != 46) = true ∧ wrdB s[k].toNat = true) := by
                  unfold nchB at hw
                  rw [Bool.or_eq_true_iff] at hw
                  by_cases h : s[k].toNat = 46
                  · left; simp; omega
                  · right
                    rcases hw with hw | hw
                    · exact absurd (of_decide_eq_true hw) h
                    · exact ⟨by simp; omega, hw⟩
                have HN := Lib.hid hw
                clear hw
                rcases hor with h46 | ⟨h46, hwt⟩
                · go_wp2
                  go_roundw
                  case rel =>
                    refine ⟨k + 1, by go_num, by omega, fun j hj hjk => ?_, HA.out.2⟩
                    by_cases q : j = k
                    · subst q; exact HN.out
                    · exact HA.out.1 j hj (by omega)
                  case measure => simp [intOf]; omega
                · rw [hwt] at HW
                  clear hwt
                  go_wp2_with (go_at_call 34; refine (HW.out _).mono ?_; rintro e w2 ⟨rfl, hb2⟩)
                  go_roundw
                  case rel =>
                    refine ⟨k + 1, by go_num, by omega, fun j hj hjk => ?_, bel_trans HA.out.2 hb2⟩
                    by_cases q : j = k
                    · subst q; exact HN.out
                    · exact HA.out.1 j hj (by omega)
                  case measure => simp [intOf]; omega
            · have hn : nameL s.data.toList = true := nameL_yes hpos h32' HF.out (fun j hj => HA.out.1 j hj (by omega))
              have HN := Lib.hid hn
              clear hn
              go_wp2
              go_ret
              exact ⟨ret_bool HN.out.symm, HA.out.2⟩
set_option maxRecDepth 100000 in
set_option maxHeartbeats 4000000 in
theorem rname_any (s : ByteArray) (w : World) (_h : s.size ≤ maxLen) :
    Calls Tryd.prog 28 #[.string s] w fun e w' => e = .returned (.bool (nameL s.data.toList)) ∧ w = w' := by
  by_cases h0 : s.size = 0
  · rw [nameL_nil h0]
    go_enter Tryd.func28, Tryd.ntmps28
    go_wp2
    go_ret
    exact ⟨rfl, rfl⟩
  · have hpos : 0 < s.size := by omega
    have hpos1 : ¬ s.size < 1 := by omega
    have HL := Lib.hid (fun W => rletter_any s[0].toNat W)
    by_cases h32 : 32 < s.size
    · rw [nameL_long h32]
      go_enter Tryd.func28, Tryd.ntmps28
      go_wp2
      go_ret
      exact ⟨rfl, rfl⟩
    · have h32' : s.size ≤ 32 := by omega
      cases hf : fstB s[0].toNat with
      | false =>
        rw [nameL_first hpos hf]
        obtain ⟨c, hc⟩ : ∃ c, s[0] = c := ⟨_, rfl⟩
        rw [hc] at hf
        unfold fstB at hf
        rw [Bool.or_eq_false_iff] at hf
        have h95 : ((s[0].toNat : Int) != 95) = true := by rw [hc]; have := of_decide_eq_false hf.1; simp; omega
        have hle := hf.2
        rw [← hc] at hle
        rw [hle] at HL
        clear hf hle hc
        go_enter Tryd.func28, Tryd.ntmps28
        go_wp2_with (go_at_call 38; refine (HL.out _).mono ?_; rintro e w1 ⟨rfl, rfl⟩)
        go_ret
        exact ⟨rfl, rfl⟩
      | true =>
        have hor : (letB s[0].toNat = true) ∨ (letB s[0].toNat = false ∧ ((s[0].toNat : Int) != 95) = false) := by
          unfold fstB at hf
          rw [Bool.or_eq_true_iff] at hf
          cases h : letB s[0].toNat with
          | true => left; rfl
          | false =>
            right
            rcases hf with hf | hf
            · have := of_decide_eq_true hf
              exact ⟨rfl, by simp; omega⟩
            · rw [h] at hf; cases hf
        have HF := Lib.hid hf
        clear hf
        rcases hor with hl | ⟨hl, h95⟩
        all_goals
          rw [hl] at HL
          clear hl
          go_enter Tryd.func28, Tryd.ntmps28
          go_wp2_with (go_at_call 38; refine (HL.out _).mono ?_; rintro e w1 ⟨rfl, rfl⟩)
          go_loop [3] (fun v => ∃ k : Nat, v = .int .i64 k ∧ k ≤ s.size ∧ (∀ j (h : j < s.size), j < k → nchB s[j].toNat = true)) (fun v => s.size - (intOf v).toNat)
          case atStart => exact ⟨0, rfl, Nat.zero_le _, fun j _ h => absurd h (Nat.not_lt_zero _)⟩
          case round =>
            obtain ⟨k, rfl, hk, hall⟩ := hrel
            have HA := Lib.hid hall
            clear hall
            by_cases hlt : k < s.size
            · have HW := Lib.hid (fun W => rword_any s[k].toNat W)
              cases hw : nchB s[k].toNat with
              | false =>
                have HB := Lib.hid (nameL_bad k hlt hw)
                unfold nchB at hw
                rw [Bool.or_eq_false_iff] at hw
                have h46 : ((s[k].toNat : Int) != 46) = true := by have := of_decide_eq_false hw.1; simp; omega
                rw [hw.2] at HW
                clear hw
                go_wp2_with (go_at_call 39; refine (HW.out _).mono ?_; rintro e w2 ⟨rfl, rfl⟩)
                go_ret
                exact ⟨ret_bool HB.out.symm, rfl⟩
              | true =>
                have hor : (wrdB s[k].toNat = true) ∨ (wrdB s[k].toNat = false ∧ ((s[k].toNat : Int) != 46) = false) := by
                  unfold nchB at hw
                  rw [Bool.or_eq_true_iff] at hw
                  cases h : wrdB s[k].toNat with
                  | true => left; rfl
                  | false =>
                    right
                    rcases hw with hw | hw
                    · have := of_decide_eq_true hw
                      exact ⟨rfl, by simp; omega⟩
                    · rw [h] at hw; cases hw
                have HN := Lib.hid hw
                clear hw
                rcases hor with hwt | ⟨hwt, h46⟩
                all_goals
                  rw [hwt] at HW
                  clear hwt
                  go_wp2_with (go_at_call 39; refine (HW.out _).mono ?_; rintro e w2 ⟨rfl, rfl⟩)
                  go_round
                  case rel =>
                    refine ⟨k + 1, by go_num, by omega, fun j hj hjk => ?_⟩
                    by_cases q : j = k
                    · subst q; exact HN.out
                    · exact HA.out j hj (by omega)
                  case measure => simp [intOf]; omega
            · have hn : nameL s.data.toList = true := nameL_yes hpos h32' HF.out (fun j hj => HA.out j hj (by omega))
              have HN := Lib.hid hn
              clear hn
              go_wp2
              go_ret
              exact ⟨ret_bool HN.out.symm, rfl⟩
end Go.Proofs.YtdjkemodlbbmaaaDoor
