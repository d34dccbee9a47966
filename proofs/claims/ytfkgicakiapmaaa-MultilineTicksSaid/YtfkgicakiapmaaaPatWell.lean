/- The contracts of what Check asks of one node: areBounds, areSeparate, wellFormed, checkNode. -/
import Derived.Test.YtfkgicakiapmaaaPatChkSpec
namespace Go.Proofs.Ytfkgicakiapmaaa
open Go.RowKit

set_option maxRecDepth 100000 in
set_option maxHeartbeats 1000000 in
theorem areBounds_any (a b : Int) (w : World) :
    Calls Try.prog 96 #[.int .i64 a, .int .i64 b] w fun e w' => e = .returned (.bool (boundsB a b)) ∧ w = w' := by
  by_cases h1 : a < 0
  · have hv : boundsB a b = false := by simp [boundsB, h1]
    rw [hv]
    clear hv
    go_enter Try.func96, Try.ntmps96
    go_wp2
    go_ret
    exact ⟨rfl, rfl⟩
  by_cases h2 : 40 < a
  · have hv : boundsB a b = false := by simp [boundsB, h2]
    rw [hv]
    clear hv
    go_enter Try.func96, Try.ntmps96
    go_wp2
    go_ret
    exact ⟨rfl, rfl⟩
  by_cases h3 : b = -1
  · subst h3
    have hv : boundsB a (-1) = true := by simp [boundsB, h1, h2]
    rw [hv]
    clear hv
    go_enter Try.func96, Try.ntmps96
    go_wp2
    go_ret
    exact ⟨rfl, rfl⟩
  have e3 : (b == -1) = false := by rw [beq_eq_false_iff_ne]; exact h3
  by_cases h4 : a ≤ b
  · by_cases h5 : b ≤ 40
    · have hv : boundsB a b = true := by simp [boundsB, h1, h2, h4, h5]
      rw [hv]
      clear hv h3
      go_enter Try.func96, Try.ntmps96
      go_wp2
      go_ret
      exact ⟨rfl, rfl⟩
    · have hv : boundsB a b = false := by simp [boundsB, h1, h2, h3, h5]
      have d5 : decide (b ≤ 40) = false := by simpa using h5
      rw [hv]
      clear hv h3
      go_enter Try.func96, Try.ntmps96
      go_wp2
      go_ret
      exact ⟨rfl, rfl⟩
  · have hv : boundsB a b = false := by simp [boundsB, h1, h2, h3, h4]
    have d4 : decide (a ≤ b) = false := by simpa using h4
    rw [hv]
    clear hv h3
    go_enter Try.func96, Try.ntmps96
    go_wp2
    go_ret
    exact ⟨rfl, rfl⟩

theorem sepFrom_drop (l : List (Nat × Nat)) (k : Nat) (h : k < l.length) (f : Nat) : sepFrom f (l.drop k) = (decide (f ≤ l[k].1 ∧ l[k].1 ≤ l[k].2) && sepFrom (l[k].2 + 2) (l.drop (k + 1))) := by
  rw [List.drop_eq_getElem_cons h, sepFrom]

set_option maxRecDepth 100000 in
set_option maxHeartbeats 2000000 in
theorem areSeparate_any (rs : List (Nat × Nat)) (v : Value) (w : World) (h : RangesIn 0 w v rs) :
    Calls Try.prog 99 #[v] w fun e w' => e = .returned (.bool (sepN rs)) ∧ Below w.heap.size w w' := by
  obtain ⟨a, c, rfl, hl, hb, hc⟩ := h
  have hcell : ∀ i (hi : i < rs.length), ∃ b o, a = some ⟨b, o, none⟩ ∧ b < w.heap.size ∧ w.cell? ⟨b, o + i * 2, none⟩ = some (.int .u8 (rs[i].1 : Nat)) ∧ w.cell? ⟨b, o + i * 2 + 1, none⟩ = some (.int .u8 (rs[i].2 : Nat)) := fun i hi => by
    obtain ⟨b, o, ha, -, h1, h2⟩ := hc i hi
    exact ⟨b, o, ha, block_lt_of_cell (a := ⟨b, o + i * 2, none⟩) h1, h1, h2⟩
  have HC := Lib.hid hcell
  have HB := Lib.hid hb
  clear hcell hb hc
  unfold maxLen at hl
  have hsep : sepN rs = (sepFrom 0 (rs.drop 0) && decide (0 < rs.length)) := rfl
  obtain ⟨r, hr⟩ : ∃ r, sepN rs = r := ⟨_, rfl⟩
  rw [hr] at hsep ⊢
  have HS := Lib.hid hsep
  clear hr hsep
  go_enter Try.func99, Try.ntmps99
  go_wp2
  go_loopw [3, 8] (fun f i wr => ∃ k fr : Nat, k ≤ rs.length ∧ i = .int .i64 k ∧ f = .int .i64 fr ∧ fr ≤ 258 ∧ Hid (r = (sepFrom fr (rs.drop k) && decide (0 < rs.length))) ∧ Below w.heap.size w wr) (fun _ i _ => rs.length - (intOf i).toNat)
  case atStart => exact ⟨0, 0, by omega, rfl, rfl, by omega, HS, Below.refl _ _⟩
  case round =>
    obtain ⟨k, fr, hk, rfl, rfl, hfr, HR, hbw⟩ := hrel
    by_cases hlt : k < rs.length
    · obtain ⟨b, o, rfl, hbl, hc1, hc2⟩ := HC.out k hlt
      have g1 : wr.cell? ⟨b, o + k * 2, none⟩ = some (.int .u8 (rs[k].1 : Nat)) := (hbw.cell (p := ⟨b, o + k * 2, none⟩) hbl).trans hc1
      have g2 : wr.cell? ⟨b, o + k * 2 + 1, none⟩ = some (.int .u8 (rs[k].2 : Nat)) := (hbw.cell (p := ⟨b, o + k * 2 + 1, none⟩) hbl).trans hc2
      obtain ⟨x1, x2⟩ := HB.out rs[k] (List.getElem_mem hlt)
      have hst := sepFrom_drop rs k hlt fr
      obtain ⟨x, hx⟩ : ∃ x, rs[k].1 = x := ⟨_, rfl⟩
      obtain ⟨y, hy⟩ : ∃ y, rs[k].2 = y := ⟨_, rfl⟩
      rw [hx, hy] at hst
      rw [hx] at g1 x1
      rw [hy] at g2 x2
      by_cases h1 : x < fr
      · have hv : r = false := by rw [HR.out, hst]; simp; omega
        have HV := Lib.hid hv
        clear hst hv hx hy hc1 hc2
        go_wp2
        go_ret
        exact ⟨by rw [HV.out]; rfl, hbw.alloc hbw.size _⟩
      by_cases h2 : y < x
      · have hv : r = false := by rw [HR.out, hst]; simp; omega
        have HV := Lib.hid hv
        clear hst hv hx hy hc1 hc2
        go_wp2
        go_ret
        exact ⟨by rw [HV.out]; rfl, hbw.alloc hbw.size _⟩
      have hv : r = (sepFrom (y + 2) (rs.drop (k + 1)) && decide (0 < rs.length)) := by
        have hd : decide (fr ≤ x ∧ x ≤ y) = true := decide_eq_true ⟨by omega, by omega⟩
        rw [HR.out, hst, hd, Bool.true_and]
      have HV := Lib.hid hv
      clear hst hv hx hy hc1 hc2
      go_wp2
      go_roundw
      case rel => exact ⟨k + 1, y + 2, by omega, by simp, by simp, by omega, HV, hbw.alloc hbw.size _⟩
      case measure => simp [intOf]; omega
    · obtain rfl : k = rs.length := by omega
      have hv : r = decide (0 < rs.length) := by rw [HR.out, List.drop_length]; simp [sepFrom]
      have HV := Lib.hid hv
      clear hv
      go_wp2
      go_ret
      exact ⟨by rw [HV.out]; simp, hbw⟩

set_option maxRecDepth 100000 in
set_option maxHeartbeats 4000000 in
theorem well_0 (ra ka : Option Addr) (rl rc kl kc : Nat) (nm : ByteArray) (mn mx : Int) (sep : Bool) (w : World) :
    Calls Try.prog 94 #[.agg #[.int .i64 0, .slice ra rl rc, .string nm, .slice ka kl kc, .int .i64 mn, .int .i64 mx]] w fun e w' => e = .returned (.bool (wellB 0 rl sep (nmE nm) kl mn mx)) ∧ Below w.heap.size w w' := by
  by_cases hr : 0 < rl
  · have hv : wellB 0 rl sep (nmE nm) kl mn mx = false := by simp [wellB, hr]
    rw [hv]
    clear hv
    go_enter Try.func94, Try.ntmps94
    go_wp2
    all_goals
      go_ret
      exact ⟨rfl, (Below.refl _ _).alloc (Nat.le_refl _) _⟩
  have hr' : decide (0 < (rl : Int)) = false := by simp; omega
  obtain ⟨r, hv⟩ : ∃ r, wellB 0 rl sep (nmE nm) kl mn mx = r := ⟨_, rfl⟩
  rw [hv]
  simp only [wellB, nmE] at hv
  have HV := Lib.hid hv
  clear hv
  have HR := Lib.hid hr
  clear hr
  go_enter Try.func94, Try.ntmps94
  go_wp2
  all_goals
    go_ret
    refine ⟨?_, (Below.refl _ _).alloc (Nat.le_refl _) _⟩
    have hv := HV.out
    have hr := HR.out
    clear HV HR
    rw [← hv]
    simp_all
    try (rw [← hv, Bool.eq_iff_iff]; simp <;> omega)

set_option maxRecDepth 100000 in
set_option maxHeartbeats 4000000 in
theorem well_6 (ra ka : Option Addr) (rl rc kl kc : Nat) (nm : ByteArray) (mn mx : Int) (sep : Bool) (w : World) :
    Calls Try.prog 94 #[.agg #[.int .i64 6, .slice ra rl rc, .string nm, .slice ka kl kc, .int .i64 mn, .int .i64 mx]] w fun e w' => e = .returned (.bool (wellB 6 rl sep (nmE nm) kl mn mx)) ∧ Below w.heap.size w w' := by
  by_cases hr : 0 < rl
  · have hv : wellB 6 rl sep (nmE nm) kl mn mx = false := by simp [wellB, hr]
    rw [hv]
    clear hv
    go_enter Try.func94, Try.ntmps94
    go_wp2
    all_goals
      go_ret
      exact ⟨rfl, (Below.refl _ _).alloc (Nat.le_refl _) _⟩
  have hr' : decide (0 < (rl : Int)) = false := by simp; omega
  obtain ⟨r, hv⟩ : ∃ r, wellB 6 rl sep (nmE nm) kl mn mx = r := ⟨_, rfl⟩
  rw [hv]
  simp only [wellB, nmE] at hv
  have HV := Lib.hid hv
  clear hv
  have HR := Lib.hid hr
  clear hr
  go_enter Try.func94, Try.ntmps94
  go_wp2
  all_goals
    go_ret
    refine ⟨?_, (Below.refl _ _).alloc (Nat.le_refl _) _⟩
    have hv := HV.out
    have hr := HR.out
    clear HV HR
    rw [← hv]
    simp_all
    try (rw [← hv, Bool.eq_iff_iff]; simp <;> omega)

set_option maxRecDepth 100000 in
set_option maxHeartbeats 4000000 in
theorem well_7 (ra ka : Option Addr) (rl rc kl kc : Nat) (nm : ByteArray) (mn mx : Int) (sep : Bool) (w : World) :
    Calls Try.prog 94 #[.agg #[.int .i64 7, .slice ra rl rc, .string nm, .slice ka kl kc, .int .i64 mn, .int .i64 mx]] w fun e w' => e = .returned (.bool (wellB 7 rl sep (nmE nm) kl mn mx)) ∧ Below w.heap.size w w' := by
  by_cases hr : 0 < rl
  · have hv : wellB 7 rl sep (nmE nm) kl mn mx = false := by simp [wellB, hr]
    rw [hv]
    clear hv
    go_enter Try.func94, Try.ntmps94
    go_wp2
    all_goals
      go_ret
      exact ⟨rfl, (Below.refl _ _).alloc (Nat.le_refl _) _⟩
  have hr' : decide (0 < (rl : Int)) = false := by simp; omega
  obtain ⟨r, hv⟩ : ∃ r, wellB 7 rl sep (nmE nm) kl mn mx = r := ⟨_, rfl⟩
  rw [hv]
  simp only [wellB, nmE] at hv
  have HV := Lib.hid hv
  clear hv
  have HR := Lib.hid hr
  clear hr
  go_enter Try.func94, Try.ntmps94
  go_wp2
  all_goals
    go_ret
    refine ⟨?_, (Below.refl _ _).alloc (Nat.le_refl _) _⟩
    have hv := HV.out
    have hr := HR.out
    clear HV HR
    rw [← hv]
    simp_all
    try (rw [← hv, Bool.eq_iff_iff]; simp <;> omega)

set_option maxRecDepth 100000 in
set_option maxHeartbeats 4000000 in
theorem well_2 (ra ka : Option Addr) (rl rc kl kc : Nat) (nm : ByteArray) (mn mx : Int) (sep : Bool) (w : World) :
    Calls Try.prog 94 #[.agg #[.int .i64 2, .slice ra rl rc, .string nm, .slice ka kl kc, .int .i64 mn, .int .i64 mx]] w fun e w' => e = .returned (.bool (wellB 2 rl sep (nmE nm) kl mn mx)) ∧ Below w.heap.size w w' := by
  by_cases hr : 0 < rl
  · have hv : wellB 2 rl sep (nmE nm) kl mn mx = false := by simp [wellB, hr]
    rw [hv]
    clear hv
    go_enter Try.func94, Try.ntmps94
    go_wp2
    all_goals
      go_ret
      exact ⟨rfl, (Below.refl _ _).alloc (Nat.le_refl _) _⟩
  have hr' : decide (0 < (rl : Int)) = false := by simp; omega
  obtain ⟨r, hv⟩ : ∃ r, wellB 2 rl sep (nmE nm) kl mn mx = r := ⟨_, rfl⟩
  rw [hv]
  simp only [wellB, nmE] at hv
  have HV := Lib.hid hv
  clear hv
  have HR := Lib.hid hr
  clear hr
  go_enter Try.func94, Try.ntmps94
  go_wp2
  all_goals
    go_ret
    refine ⟨?_, (Below.refl _ _).alloc (Nat.le_refl _) _⟩
    have hv := HV.out
    have hr := HR.out
    clear HV HR
    rw [← hv]
    simp_all
    try (rw [← hv, Bool.eq_iff_iff]; simp <;> omega)

set_option maxRecDepth 100000 in
set_option maxHeartbeats 4000000 in
theorem well_3 (ra ka : Option Addr) (rl rc kl kc : Nat) (nm : ByteArray) (mn mx : Int) (sep : Bool) (w : World) :
    Calls Try.prog 94 #[.agg #[.int .i64 3, .slice ra rl rc, .string nm, .slice ka kl kc, .int .i64 mn, .int .i64 mx]] w fun e w' => e = .returned (.bool (wellB 3 rl sep (nmE nm) kl mn mx)) ∧ Below w.heap.size w w' := by
  by_cases hr : 0 < rl
  · have hv : wellB 3 rl sep (nmE nm) kl mn mx = false := by simp [wellB, hr]
    rw [hv]
    clear hv
    go_enter Try.func94, Try.ntmps94
    go_wp2
    all_goals
      go_ret
      exact ⟨rfl, (Below.refl _ _).alloc (Nat.le_refl _) _⟩
  have hr' : decide (0 < (rl : Int)) = false := by simp; omega
  obtain ⟨r, hv⟩ : ∃ r, wellB 3 rl sep (nmE nm) kl mn mx = r := ⟨_, rfl⟩
  rw [hv]
  simp only [wellB, nmE] at hv
  have HV := Lib.hid hv
  clear hv
  have HR := Lib.hid hr
  clear hr
  go_enter Try.func94, Try.ntmps94
  go_wp2
  all_goals
    go_ret
    refine ⟨?_, (Below.refl _ _).alloc (Nat.le_refl _) _⟩
    have hv := HV.out
    have hr := HR.out
    clear HV HR
    rw [← hv]
    simp_all
    try (rw [← hv, Bool.eq_iff_iff]; simp <;> omega)

set_option maxRecDepth 100000 in
set_option maxHeartbeats 4000000 in
theorem well_4 (ra ka : Option Addr) (rl rc kl kc : Nat) (nm : ByteArray) (mn mx : Int) (sep : Bool) (w : World) :
    Calls Try.prog 94 #[.agg #[.int .i64 4, .slice ra rl rc, .string nm, .slice ka kl kc, .int .i64 mn, .int .i64 mx]] w fun e w' => e = .returned (.bool (wellB 4 rl sep (nmE nm) kl mn mx)) ∧ Below w.heap.size w w' := by
  by_cases hr : 0 < rl
  · have hv : wellB 4 rl sep (nmE nm) kl mn mx = false := by simp [wellB, hr]
    rw [hv]
    clear hv
    go_enter Try.func94, Try.ntmps94
    go_wp2
    all_goals
      go_ret
      exact ⟨rfl, (Below.refl _ _).alloc (Nat.le_refl _) _⟩
  have hr' : decide (0 < (rl : Int)) = false := by simp; omega
  obtain ⟨r, hv⟩ : ∃ r, wellB 4 rl sep (nmE nm) kl mn mx = r := ⟨_, rfl⟩
  rw [hv]
  simp only [wellB, nmE] at hv
  have HV := Lib.hid hv
  clear hv
  have HR := Lib.hid hr
  clear hr
  go_enter Try.func94, Try.ntmps94
  go_wp2
  all_goals
    go_ret
    refine ⟨?_, (Below.refl _ _).alloc (Nat.le_refl _) _⟩
    have hv := HV.out
    have hr := HR.out
    clear HV HR
    rw [← hv]
    simp_all
    try (rw [← hv, Bool.eq_iff_iff]; simp <;> omega)

set_option maxRecDepth 100000 in
set_option maxHeartbeats 4000000 in
theorem well_5 (ra ka : Option Addr) (rl rc kl kc : Nat) (nm : ByteArray) (mn mx : Int) (sep : Bool) (w : World) :
    Calls Try.prog 94 #[.agg #[.int .i64 5, .slice ra rl rc, .string nm, .slice ka kl kc, .int .i64 mn, .int .i64 mx]] w fun e w' => e = .returned (.bool (wellB 5 rl sep (nmE nm) kl mn mx)) ∧ Below w.heap.size w w' := by
  by_cases hr : 0 < rl
  · have hv : wellB 5 rl sep (nmE nm) kl mn mx = false := by simp [wellB, hr]
    rw [hv]
    clear hv
    go_enter Try.func94, Try.ntmps94
    go_wp2
    all_goals
      go_ret
      exact ⟨rfl, (Below.refl _ _).alloc (Nat.le_refl _) _⟩
  have hr' : decide (0 < (rl : Int)) = false := by simp; omega
  obtain ⟨r, hv⟩ : ∃ r, wellB 5 rl sep (nmE nm) kl mn mx = r := ⟨_, rfl⟩
  rw [hv]
  simp only [wellB, nmE] at hv
  have HV := Lib.hid hv
  clear hv
  have HR := Lib.hid hr
  clear hr
  go_enter Try.func94, Try.ntmps94
  go_wp2
  all_goals
    go_ret
    refine ⟨?_, (Below.refl _ _).alloc (Nat.le_refl _) _⟩
    have hv := HV.out
    have hr := HR.out
    clear HV HR
    rw [← hv]
    simp_all
    try (rw [← hv, Bool.eq_iff_iff]; simp <;> omega)

set_option maxRecDepth 100000 in
set_option maxHeartbeats 4000000 in
theorem well_1 (ra ka : Option Addr) (rs : List (Nat × Nat)) (rc kl kc : Nat) (nm : ByteArray) (mn mx : Int) (w : World) (h : RangesIn 0 w (.slice ra rs.length rc) rs) :
    Calls Try.prog 94 #[.agg #[.int .i64 1, .slice ra rs.length rc, .string nm, .slice ka kl kc, .int .i64 mn, .int .i64 mx]] w fun e w' => e = .returned (.bool (wellB 1 rs.length (sepN rs) (nmE nm) kl mn mx)) ∧ Below w.heap.size w w' := by
  have hse := fun W hW => areSeparate_any rs (.slice ra rs.length rc) W hW
  obtain ⟨sep, hsep⟩ : ∃ b, sepN rs = b := ⟨_, rfl⟩
  rw [hsep] at hse ⊢
  obtain ⟨rl, hrl⟩ : ∃ n, rs.length = n := ⟨_, rfl⟩
  rw [hrl] at hse h ⊢
  have HS := Lib.hid hse
  have HI := Lib.hid h
  clear hse h hsep hrl
  obtain ⟨r, hv⟩ : ∃ r, wellB 1 rl sep (nmE nm) kl mn mx = r := ⟨_, rfl⟩
  rw [hv]
  simp only [wellB, nmE] at hv
  have HV := Lib.hid hv
  clear hv
  by_cases hkl : (kl : Int) = 0
  · have e1 : ((kl : Int) == 0) = true := by rw [beq_iff_eq]; exact hkl
    have HK := Lib.hid hkl
    clear hkl
    go_enter Try.func94, Try.ntmps94
    go_wp2_with (go_at_call 99; refine (HS.out _ (RangesIn.keeps HI.out (keeps_alloc _ _ _))).mono ?_; rintro e w1 ⟨rfl, hb1⟩)
    all_goals
      go_ret
      have hv := HV.out
      have hk := HK.out
      clear HV HS HI HK
      first
        | refine ⟨?_, (Below.refl _ _).alloc (Nat.le_refl _) _⟩
        | refine ⟨?_, ((Below.refl _ _).alloc (Nat.le_refl _) _).trans (hb1.mono (by rw [Go.Deep.nblk_alloc]; omega))⟩
      rw [← hv]
      simp_all
  · have e1 : ((kl : Int) == 0) = false := by rw [beq_eq_false_iff_ne]; exact hkl
    have HK := Lib.hid hkl
    clear hkl
    go_enter Try.func94, Try.ntmps94
    go_wp2
    all_goals
      go_ret
      have hv := HV.out
      have hk := HK.out
      clear HV HS HI HK
      refine ⟨?_, (Below.refl _ _).alloc (Nat.le_refl _) _⟩
      rw [← hv]
      simp_all

set_option maxRecDepth 100000 in
set_option maxHeartbeats 4000000 in
theorem well_x (op : Int) (ra ka : Option Addr) (rl rc kl kc : Nat) (nm : ByteArray) (mn mx : Int) (sep : Bool) (w : World)
    (h0 : op ≠ 0) (h1 : op ≠ 1) (h2 : op ≠ 2) (h3 : op ≠ 3) (h4 : op ≠ 4) (h5 : op ≠ 5) (h6 : op ≠ 6) (h7 : op ≠ 7) :
    Calls Try.prog 94 #[.agg #[.int .i64 op, .slice ra rl rc, .string nm, .slice ka kl kc, .int .i64 mn, .int .i64 mx]] w fun e w' => e = .returned (.bool (wellB op rl sep (nmE nm) kl mn mx)) ∧ Below w.heap.size w w' := by
  have hv : wellB op rl sep (nmE nm) kl mn mx = false := by simp [wellB, h0, h1, h2, h3, h4, h5, h6, h7]
  rw [hv]
  have e0 : (op == 0) = false := by rw [beq_eq_false_iff_ne]; exact h0
  have e1 : (op == 1) = false := by rw [beq_eq_false_iff_ne]; exact h1
  have e2 : (op == 2) = false := by rw [beq_eq_false_iff_ne]; exact h2
  have e3 : (op == 3) = false := by rw [beq_eq_false_iff_ne]; exact h3
  have e4 : (op == 4) = false := by rw [beq_eq_false_iff_ne]; exact h4
  have e5 : (op == 5) = false := by rw [beq_eq_false_iff_ne]; exact h5
  have e6 : (op == 6) = false := by rw [beq_eq_false_iff_ne]; exact h6
  have e7 : (op == 7) = false := by rw [beq_eq_false_iff_ne]; exact h7
  have n1 : (op != 1) = true := by rw [bne_iff_ne]; exact h1
  have n4 : (op != 4) = true := by rw [bne_iff_ne]; exact h4
  have n5 : (op != 5) = true := by rw [bne_iff_ne]; exact h5
  clear hv h0 h1 h2 h3 h4 h5 h6 h7
  go_enter Try.func94, Try.ntmps94
  go_wp2
  all_goals
    go_ret
    exact ⟨rfl, (Below.refl _ _).alloc (Nat.le_refl _) _⟩

/-- wellFormed at every node. -/
theorem well_any (op : Int) (ra ka : Option Addr) (rs : List (Nat × Nat)) (rc kl kc : Nat) (nm : ByteArray) (mn mx : Int) (w : World) (h : RangesIn 0 w (.slice ra rs.length rc) rs) :
    Calls Try.prog 94 #[.agg #[.int .i64 op, .slice ra rs.length rc, .string nm, .slice ka kl kc, .int .i64 mn, .int .i64 mx]] w fun e w' => e = .returned (.bool (wellB op rs.length (sepN rs) (nmE nm) kl mn mx)) ∧ Below w.heap.size w w' := by
  by_cases h1 : op = 1
  · subst h1; exact well_1 ra ka rs rc kl kc nm mn mx w h
  by_cases h0 : op = 0
  · subst h0; exact well_0 ra ka _ rc kl kc nm mn mx _ w
  by_cases h2 : op = 2
  · subst h2; exact well_2 ra ka _ rc kl kc nm mn mx _ w
  by_cases h3 : op = 3
  · subst h3; exact well_3 ra ka _ rc kl kc nm mn mx _ w
  by_cases h4 : op = 4
  · subst h4; exact well_4 ra ka _ rc kl kc nm mn mx _ w
  by_cases h5 : op = 5
  · subst h5; exact well_5 ra ka _ rc kl kc nm mn mx _ w
  by_cases h6 : op = 6
  · subst h6; exact well_6 ra ka _ rc kl kc nm mn mx _ w
  by_cases h7 : op = 7
  · subst h7; exact well_7 ra ka _ rc kl kc nm mn mx _ w
  exact well_x op ra ka _ rc kl kc nm mn mx _ w h0 h1 h2 h3 h4 h5 h6 h7
end Go.Proofs.Ytfkgicakiapmaaa
