/- The contracts of the reference of chapter 1's Repair: more, sequence, Repair. -/
import Derived.Test.YtbpboghjgbgjfaaDoorRepair
import Derived.Test.YtbpboghjgbgjfaaDoorNumber
import Derived.Laws.IdiomStrings
namespace Go.Proofs.YtbpboghjgbgjfaaDoor
open Go.RowKit

def moreB (l : List UInt8) (a lo hi : Nat) : Bool := decide (a < l.length ∧ lo ≤ byteAt l a ∧ byteAt l a ≤ hi)
theorem ret_i64 {a b : Int} (h : a = b) : Ending.returned (.int .i64 a) = .returned (.int .i64 b) := by rw [h]

set_option maxRecDepth 100000 in
set_option maxHeartbeats 1000000 in
theorem more_any (l : List UInt8) (bk off cap a lo hi : Nat) (w : World) (hc : BytesAt w bk off l) :
    Calls Tryd.prog 41 #[.slice (some ⟨bk, off, none⟩) l.length cap, .int .i64 a, .int .u8 lo, .int .u8 hi] w fun e w' => e = .returned (.bool (moreB l a lo hi)) ∧ w = w' := by
  by_cases h1 : a < l.length
  · have hcell := hc a h1
    obtain ⟨b, hb⟩ : ∃ b, byteAt l a = b := ⟨_, rfl⟩
    rw [hb] at hcell
    have HM : Hid (moreB l a lo hi = decide (lo ≤ b ∧ b ≤ hi)) := by
      show moreB l a lo hi = _
      unfold moreB; rw [hb]; simp [h1]
    have HC := Lib.hid hc
    clear hc hb
    go_enter Tryd.func41, Tryd.ntmps41
    go_wp2
    all_goals
      go_ret
      exact ⟨ret_bool (by rw [HM.out, Bool.eq_iff_iff]; simp; try omega), rfl⟩
  · have HM : Hid (moreB l a lo hi = false) := by
      show moreB l a lo hi = _
      unfold moreB; simp [h1]
    have HC := Lib.hid hc
    clear hc
    go_enter Tryd.func41, Tryd.ntmps41
    go_wp2
    all_goals
      go_ret
      exact ⟨ret_bool (by rw [HM.out]), rfl⟩

theorem byteAt_drop (l : List UInt8) (k j : Nat) : byteAt (l.drop k) j = byteAt l (k + j) := by unfold byteAt; rw [List.getElem?_drop]
theorem seqK2 (l : List UInt8) (k lo hi : Nat) (hk : k < l.length) : seqK (l.length - k) (byteAt l (k + 1)) (byteAt l (k + 2)) (byteAt l (k + 3)) 2 lo hi = if moreB l (k + 1) lo hi then 2 else 0 := by
  unfold seqK moreB
  simp only [decide_eq_true_eq]
  (repeat' split) <;> omega
theorem seqK3 (l : List UInt8) (k lo hi : Nat) (hk : k < l.length) : seqK (l.length - k) (byteAt l (k + 1)) (byteAt l (k + 2)) (byteAt l (k + 3)) 3 lo hi = if moreB l (k + 1) lo hi then (if moreB l (k + 2) 128 191 then 3 else 0) else 0 := by
  unfold seqK moreB
  simp only [decide_eq_true_eq]
  (repeat' split) <;> omega
theorem seqK4 (l : List UInt8) (k lo hi : Nat) (hk : k < l.length) : seqK (l.length - k) (byteAt l (k + 1)) (byteAt l (k + 2)) (byteAt l (k + 3)) 4 lo hi = if moreB l (k + 1) lo hi then (if moreB l (k + 2) 128 191 then (if moreB l (k + 3) 128 191 then 4 else 0) else 0) else 0 := by
  unfold seqK moreB
  simp only [decide_eq_true_eq]
  (repeat' split) <;> omega
theorem seqL_drop (l : List UInt8) (k : Nat) : seqL (l.drop k) = seqN (l.length - k) (byteAt l k) (byteAt l (k + 1)) (byteAt l (k + 2)) (byteAt l (k + 3)) := by
  unfold seqL
  rw [byteAt_drop, byteAt_drop, byteAt_drop, byteAt_drop, List.length_drop, Nat.add_zero]

set_option maxRecDepth 100000 in
set_option maxHeartbeats 1000000 in
theorem seq_a (l : List UInt8) (k bk off cap : Nat) (w : World) (hk : k < l.length) (hl : Hid (l.length ≤ 4194304)) (hc : BytesAt w bk off l) (c : Nat) (hcc : byteAt l k = c) (h1 : 0 ≤ c) (h2 : c ≤ 127) :
    Calls Tryd.prog 32 #[.slice (some ⟨bk, off, none⟩) l.length cap, .int .i64 k] w fun e w' => e = .returned (.int .i64 (seqL (l.drop k))) ∧ w = w' := by
  have hcell := hc k hk
  rw [hcc] at hcell
  have hs : seqL (l.drop k) = 1 := by
    rw [seqL_drop, hcc]
    unfold seqN
    rw [if_pos (by omega)]
  have HS := Lib.hid hs
  have HC := Lib.hid hc
  have hlo := hl.out
  clear hs hc hcc
  have g224 : ((c : Int) == 224) = false := by rw [beq_eq_false_iff_ne]; omega
  have g237 : ((c : Int) == 237) = false := by rw [beq_eq_false_iff_ne]; omega
  have g240 : ((c : Int) == 240) = false := by rw [beq_eq_false_iff_ne]; omega
  have g244 : ((c : Int) == 244) = false := by rw [beq_eq_false_iff_ne]; omega
  go_enter Tryd.func32, Tryd.ntmps32
  go_wp2
  go_ret
  exact ⟨ret_i64 (by rw [HS.out]; rfl), rfl⟩

set_option maxRecDepth 100000 in
set_option maxHeartbeats 1000000 in
theorem seq_b (l : List UInt8) (k bk off cap : Nat) (w : World) (hk : k < l.length) (hl : Hid (l.length ≤ 4194304)) (hc : BytesAt w bk off l) (c : Nat) (hcc : byteAt l k = c) (h1 : 128 ≤ c) (h2 : c ≤ 193) :
    Calls Tryd.prog 32 #[.slice (some ⟨bk, off, none⟩) l.length cap, .int .i64 k] w fun e w' => e = .returned (.int .i64 (seqL (l.drop k))) ∧ w = w' := by
  have hcell := hc k hk
  rw [hcc] at hcell
  have hs : seqL (l.drop k) = 0 := by
    rw [seqL_drop, hcc]
    unfold seqN
    rw [if_neg (by omega), if_neg (by omega), if_neg (by omega), if_neg (by omega), if_neg (by omega), if_neg (by omega), if_neg (by omega), if_neg (by omega)]
  have HS := Lib.hid hs
  have HC := Lib.hid hc
  have hlo := hl.out
  clear hs hc hcc
  have g224 : ((c : Int) == 224) = false := by rw [beq_eq_false_iff_ne]; omega
  have g237 : ((c : Int) == 237) = false := by rw [beq_eq_false_iff_ne]; omega
  have g240 : ((c : Int) == 240) = false := by rw [beq_eq_false_iff_ne]; omega
  have g244 : ((c : Int) == 244) = false := by rw [beq_eq_false_iff_ne]; omega
  go_enter Tryd.func32, Tryd.ntmps32
  go_wp2
  go_ret
  exact ⟨ret_i64 (by rw [HS.out]; rfl), rfl⟩

set_option maxRecDepth 100000 in
set_option maxHeartbeats 1000000 in
theorem seq_c (l : List UInt8) (k bk off cap : Nat) (w : World) (hk : k < l.length) (hl : Hid (l.length ≤ 4194304)) (hc : BytesAt w bk off l) (c : Nat) (hcc : byteAt l k = c) (h1 : 194 ≤ c) (h2 : c ≤ 223) :
    Calls Tryd.prog 32 #[.slice (some ⟨bk, off, none⟩) l.length cap, .int .i64 k] w fun e w' => e = .returned (.int .i64 (seqL (l.drop k))) ∧ w = w' := by
  have hcell := hc k hk
  rw [hcc] at hcell
  have hm1 := more_any l bk off cap (k + 1) 128 191 w hc
  rw [show (((k + 1 : Nat) : Int)) = (k : Int) + 1 from by omega, show ((128 : Nat) : Int) = 128 from rfl, show ((191 : Nat) : Int) = 191 from rfl] at hm1
  have hs : seqL (l.drop k) = if moreB l (k + 1) 128 191 then 2 else 0 := by
    rw [seqL_drop, hcc]
    unfold seqN
    rw [if_neg (by omega), if_pos (by omega)]
    exact seqK2 l k 128 191 hk
  obtain ⟨m1, hmm1⟩ : ∃ m, moreB l (k + 1) 128 191 = m := ⟨_, rfl⟩
  rw [hmm1] at hm1 hs
  have HM1 := Lib.hid hm1
  have HS := Lib.hid hs
  have HC := Lib.hid hc
  have hlo := hl.out
  clear hs hc hcc hm1 hmm1
  have g224 : ((c : Int) == 224) = false := by rw [beq_eq_false_iff_ne]; omega
  have g237 : ((c : Int) == 237) = false := by rw [beq_eq_false_iff_ne]; omega
  have g240 : ((c : Int) == 240) = false := by rw [beq_eq_false_iff_ne]; omega
  have g244 : ((c : Int) == 244) = false := by rw [beq_eq_false_iff_ne]; omega
  cases m1
  all_goals
    go_enter Tryd.func32, Tryd.ntmps32
    go_wp2_with (first | (go_at_call 41; ((with_reducible refine (HM1.out).mono ?_); rintro e w' ⟨rfl, rfl⟩)))
    go_ret
    exact ⟨ret_i64 (by rw [HS.out]; rfl), rfl⟩

set_option maxRecDepth 100000 in
set_option maxHeartbeats 1000000 in
theorem seq_d (l : List UInt8) (k bk off cap : Nat) (w : World) (hk : k < l.length) (hl : Hid (l.length ≤ 4194304)) (hc : BytesAt w bk off l) (hcc : byteAt l k = 224) :
    Calls Tryd.prog 32 #[.slice (some ⟨bk, off, none⟩) l.length cap, .int .i64 k] w fun e w' => e = .returned (.int .i64 (seqL (l.drop k))) ∧ w = w' := by
  have hcell := hc k hk
  rw [hcc] at hcell
  have hm1 := more_any l bk off cap (k + 1) 160 191 w hc
  rw [show (((k + 1 : Nat) : Int)) = (k : Int) + 1 from by omega, show ((160 : Nat) : Int) = 160 from rfl, show ((191 : Nat) : Int) = 191 from rfl] at hm1
  have hm2 := more_any l bk off cap (k + 2) 128 191 w hc
  rw [show (((k + 2 : Nat) : Int)) = (k : Int) + 2 from by omega, show ((128 : Nat) : Int) = 128 from rfl, show ((191 : Nat) : Int) = 191 from rfl] at hm2
  have hs : seqL (l.drop k) = if moreB l (k + 1) 160 191 then (if moreB l (k + 2) 128 191 then 3 else 0) else 0 := by
    rw [seqL_drop, hcc]
    unfold seqN
    rw [if_neg (by omega), if_neg (by omega), if_pos (by omega)]
    exact seqK3 l k 160 191 hk
  obtain ⟨m1, hmm1⟩ : ∃ m, moreB l (k + 1) 160 191 = m := ⟨_, rfl⟩
  rw [hmm1] at hm1 hs
  have HM1 := Lib.hid hm1
  obtain ⟨m2, hmm2⟩ : ∃ m, moreB l (k + 2) 128 191 = m := ⟨_, rfl⟩
  rw [hmm2] at hm2 hs
  have HM2 := Lib.hid hm2
  have HS := Lib.hid hs
  have HC := Lib.hid hc
  have hlo := hl.out
  clear hs hc hcc hm1 hmm1 hm2 hmm2
  cases m1 <;> cases m2
  all_goals
    go_enter Tryd.func32, Tryd.ntmps32
    go_wp2_with (first | (go_at_call 41; ((with_reducible refine (HM1.out).mono ?_); rintro e w' ⟨rfl, rfl⟩)) | (go_at_call 41; ((with_reducible refine (HM2.out).mono ?_); rintro e w' ⟨rfl, rfl⟩)))
    go_ret
    exact ⟨ret_i64 (by rw [HS.out]; rfl), rfl⟩

set_option maxRecDepth 100000 in
set_option maxHeartbeats 1000000 in
theorem seq_e (l : List UInt8) (k bk off cap : Nat) (w : World) (hk : k < l.length) (hl : Hid (l.length ≤ 4194304)) (hc : BytesAt w bk off l) (c : Nat) (hcc : byteAt l k = c) (h1 : 225 ≤ c) (h2 : c ≤ 236) :
    Calls Tryd.prog 32 #[.slice (some ⟨bk, off, none⟩) l.length cap, .int .i64 k] w fun e w' => e = .returned (.int .i64 (seqL (l.drop k))) ∧ w = w' := by
  have hcell := hc k hk
  rw [hcc] at hcell
  have hm1 := more_any l bk off cap (k + 1) 128 191 w hc
  rw [show (((k + 1 : Nat) : Int)) = (k : Int) + 1 from by omega, show ((128 : Nat) : Int) = 128 from rfl, show ((191 : Nat) : Int) = 191 from rfl] at hm1
  have hm2 := more_any l bk off cap (k + 2) 128 191 w hc
  rw [show (((k + 2 : Nat) : Int)) = (k : Int) + 2 from by omega, show ((128 : Nat) : Int) = 128 from rfl, show ((191 : Nat) : Int) = 191 from rfl] at hm2
  have hs : seqL (l.drop k) = if moreB l (k + 1) 128 191 then (if moreB l (k + 2) 128 191 then 3 else 0) else 0 := by
    rw [seqL_drop, hcc]
    unfold seqN
    rw [if_neg (by omega), if_neg (by omega), if_neg (by omega), if_neg (by omega), if_pos (by omega)]
    exact seqK3 l k 128 191 hk
  obtain ⟨m1, hmm1⟩ : ∃ m, moreB l (k + 1) 128 191 = m := ⟨_, rfl⟩
  rw [hmm1] at hm1 hs
  have HM1 := Lib.hid hm1
  obtain ⟨m2, hmm2⟩ : ∃ m, moreB l (k + 2) 128 191 = m := ⟨_, rfl⟩
  rw [hmm2] at hm2 hs
  have HM2 := Lib.hid hm2
  have HS := Lib.hid hs
  have HC := Lib.hid hc
  have hlo := hl.out
  clear hs hc hcc hm1 hmm1 hm2 hmm2
  have g224 : ((c : Int) == 224) = false := by rw [beq_eq_false_iff_ne]; omega
  have g237 : ((c : Int) == 237) = false := by rw [beq_eq_false_iff_ne]; omega
  have g240 : ((c : Int) == 240) = false := by rw [beq_eq_false_iff_ne]; omega
  have g244 : ((c : Int) == 244) = false := by rw [beq_eq_false_iff_ne]; omega
  cases m1 <;> cases m2
  all_goals
    go_enter Tryd.func32, Tryd.ntmps32
    go_wp2_with (first | (go_at_call 41; ((with_reducible refine (HM1.out).mono ?_); rintro e w' ⟨rfl, rfl⟩)) | (go_at_call 41; ((with_reducible refine (HM2.out).mono ?_); rintro e w' ⟨rfl, rfl⟩)))
    go_ret
    exact ⟨ret_i64 (by rw [HS.out]; rfl), rfl⟩

set_option maxRecDepth 100000 in
set_option maxHeartbeats 1000000 in
theorem seq_f (l : List UInt8) (k bk off cap : Nat) (w : World) (hk : k < l.length) (hl : Hid (l.length ≤ 4194304)) (hc : BytesAt w bk off l) (hcc : byteAt l k = 237) :
    Calls Tryd.prog 32 #[.slice (some ⟨bk, off, none⟩) l.length cap, .int .i64 k] w fun e w' => e = .returned (.int .i64 (seqL (l.drop k))) ∧ w = w' := by
  have hcell := hc k hk
  rw [hcc] at hcell
  have hm1 := more_any l bk off cap (k + 1) 128 159 w hc
  rw [show (((k + 1 : Nat) : Int)) = (k : Int) + 1 from by omega, show ((128 : Nat) : Int) = 128 from rfl, show ((159 : Nat) : Int) = 159 from rfl] at hm1
  have hm2 := more_any l bk off cap (k + 2) 128 191 w hc
  rw [show (((k + 2 : Nat) : Int)) = (k : Int) + 2 from by omega, show ((128 : Nat) : Int) = 128 from rfl, show ((191 : Nat) : Int) = 191 from rfl] at hm2
  have hs : seqL (l.drop k) = if moreB l (k + 1) 128 159 then (if moreB l (k + 2) 128 191 then 3 else 0) else 0 := by
    rw [seqL_drop, hcc]
    unfold seqN
    rw [if_neg (by omega), if_neg (by omega), if_neg (by omega), if_pos (by omega)]
    exact seqK3 l k 128 159 hk
  obtain ⟨m1, hmm1⟩ : ∃ m, moreB l (k + 1) 128 159 = m := ⟨_, rfl⟩
  rw [hmm1] at hm1 hs
  have HM1 := Lib.hid hm1
  obtain ⟨m2, hmm2⟩ : ∃ m, moreB l (k + 2) 128 191 = m := ⟨_, rfl⟩
  rw [hmm2] at hm2 hs
  have HM2 := Lib.hid hm2
  have HS := Lib.hid hs
  have HC := Lib.hid hc
  have hlo := hl.out
  clear hs hc hcc hm1 hmm1 hm2 hmm2
  cases m1 <;> cases m2
  all_goals
    go_enter Tryd.func32, Tryd.ntmps32
    go_wp2_with (first | (go_at_call 41; ((with_reducible refine (HM1.out).mono ?_); rintro e w' ⟨rfl, rfl⟩)) | (go_at_call 41; ((with_reducible refine (HM2.out).mono ?_); rintro e w' ⟨rfl, rfl⟩)))
    go_ret
    exact ⟨ret_i64 (by rw [HS.out]; rfl), rfl⟩

set_option maxRecDepth 100000 in
set_option maxHeartbeats 1000000 in
theorem seq_g (l : List UInt8) (k bk off cap : Nat) (w : World) (hk : k < l.length) (hl : Hid (l.length ≤ 4194304)) (hc : BytesAt w bk off l) (c : Nat) (hcc : byteAt l k = c) (h1 : 238 ≤ c) (h2 : c ≤ 239) :
    Calls Tryd.prog 32 #[.slice (some ⟨bk, off, none⟩) l.length cap, .int .i64 k] w fun e w' => e = .returned (.int .i64 (seqL (l.drop k))) ∧ w = w' := by
  have hcell := hc k hk
  rw [hcc] at hcell
  have hm1 := more_any l bk off cap (k + 1) 128 191 w hc
  rw [show (((k + 1 : Nat) : Int)) = (k : Int) + 1 from by omega, show ((128 : Nat) : Int) = 128 from rfl, show ((191 : Nat) : Int) = 191 from rfl] at hm1
  have hm2 := more_any l bk off cap (k + 2) 128 191 w hc
  rw [show (((k + 2 : Nat) : Int)) = (k : Int) + 2 from by omega, show ((128 : Nat) : Int) = 128 from rfl, show ((191 : Nat) : Int) = 191 from rfl] at hm2
  have hs : seqL (l.drop k) = if moreB l (k + 1) 128 191 then (if moreB l (k + 2) 128 191 then 3 else 0) else 0 := by
    rw [seqL_drop, hcc]
    unfold seqN
    rw [if_neg (by omega), if_neg (by omega), if_neg (by omega), if_neg (by omega), if_pos (by omega)]
    exact seqK3 l k 128 191 hk
  obtain ⟨m1, hmm1⟩ : ∃ m, moreB l (k + 1) 128 191 = m := ⟨_, rfl⟩
  rw [hmm1] at hm1 hs
  have HM1 := Lib.hid hm1
  obtain ⟨m2, hmm2⟩ : ∃ m, moreB l (k + 2) 128 191 = m := ⟨_, rfl⟩
  rw [hmm2] at hm2 hs
  have HM2 := Lib.hid hm2
  have HS := Lib.hid hs
  have HC := Lib.hid hc
  have hlo := hl.out
  clear hs hc hcc hm1 hmm1 hm2 hmm2
  have g224 : ((c : Int) == 224) = false := by rw [beq_eq_false_iff_ne]; omega
  have g237 : ((c : Int) == 237) = false := by rw [beq_eq_false_iff_ne]; omega
  have g240 : ((c : Int) == 240) = false := by rw [beq_eq_false_iff_ne]; omega
  have g244 : ((c : Int) == 244) = false := by rw [beq_eq_false_iff_ne]; omega
  cases m1 <;> cases m2
  all_goals
    go_enter Tryd.func32, Tryd.ntmps32
    go_wp2_with (first | (go_at_call 41; ((with_reducible refine (HM1.out).mono ?_); rintro e w' ⟨rfl, rfl⟩)) | (go_at_call 41; ((with_reducible refine (HM2.out).mono ?_); rintro e w' ⟨rfl, rfl⟩)))
    go_ret
    exact ⟨ret_i64 (by rw [HS.out]; rfl), rfl⟩

set_option maxRecDepth 100000 in
set_option maxHeartbeats 1000000 in
theorem seq_h (l : List UInt8) (k bk off cap : Nat) (w : World) (hk : k < l.length) (hl : Hid (l.length ≤ 4194304)) (hc : BytesAt w bk off l) (hcc : byteAt l k = 240) :
    Calls Tryd.prog 32 #[.slice (some ⟨bk, off, none⟩) l.length cap, .int .i64 k] w fun e w' => e = .returned (.int .i64 (seqL (l.drop k))) ∧ w = w' := by
  have hcell := hc k hk
  rw [hcc] at hcell
  have hm1 := more_any l bk off cap (k + 1) 144 191 w hc
  rw [show (((k + 1 : Nat) : Int)) = (k : Int) + 1 from by omega, show ((144 : Nat) : Int) = 144 from rfl, show ((191 : Nat) : Int) = 191 from rfl] at hm1
  have hm2 := more_any l bk off cap (k + 2) 128 191 w hc
  rw [show (((k + 2 : Nat) : Int)) = (k : Int) + 2 from by omega, show ((128 : Nat) : Int) = 128 from rfl, show ((191 : Nat) : Int) = 191 from rfl] at hm2
  have hm3 := more_any l bk off cap (k + 3) 128 191 w hc
  rw [show (((k + 3 : Nat) : Int)) = (k : Int) + 3 from by omega, show ((128 : Nat) : Int) = 128 from rfl, show ((191 : Nat) : Int) = 191 from rfl] at hm3
  have hs : seqL (l.drop k) = if moreB l (k + 1) 144 191 then (if moreB l (k + 2) 128 191 then (if moreB l (k + 3) 128 191 then 4 else 0) else 0) else 0 := by
    rw [seqL_drop, hcc]
    unfold seqN
    rw [if_neg (by omega), if_neg (by omega), if_neg (by omega), if_neg (by omega), if_neg (by omega), if_pos (by omega)]
    exact seqK4 l k 144 191 hk
  obtain ⟨m1, hmm1⟩ : ∃ m, moreB l (k + 1) 144 191 = m := ⟨_, rfl⟩
  rw [hmm1] at hm1 hs
  have HM1 := Lib.hid hm1
  obtain ⟨m2, hmm2⟩ : ∃ m, moreB l (k + 2) 128 191 = m := ⟨_, rfl⟩
  rw [hmm2] at hm2 hs
  have HM2 := Lib.hid hm2
  obtain ⟨m3, hmm3⟩ : ∃ m, moreB l (k + 3) 128 191 = m := ⟨_, rfl⟩
  rw [hmm3] at hm3 hs
  have HM3 := Lib.hid hm3
  have HS := Lib.hid hs
  have HC := Lib.hid hc
  have hlo := hl.out
  clear hs hc hcc hm1 hmm1 hm2 hmm2 hm3 hmm3
  cases m1 <;> cases m2 <;> cases m3
  all_goals
    go_enter Tryd.func32, Tryd.ntmps32
    go_wp2_with (first | (go_at_call 41; ((with_reducible refine (HM1.out).mono ?_); rintro e w' ⟨rfl, rfl⟩)) | (go_at_call 41; ((with_reducible refine (HM2.out).mono ?_); rintro e w' ⟨rfl, rfl⟩)) | (go_at_call 41; ((with_reducible refine (HM3.out).mono ?_); rintro e w' ⟨rfl, rfl⟩)))
    go_ret
    exact ⟨ret_i64 (by rw [HS.out]; rfl), rfl⟩

set_option maxRecDepth 100000 in
set_option maxHeartbeats 1000000 in
theorem seq_i (l : List UInt8) (k bk off cap : Nat) (w : World) (hk : k < l.length) (hl : Hid (l.length ≤ 4194304)) (hc : BytesAt w bk off l) (c : Nat) (hcc : byteAt l k = c) (h1 : 241 ≤ c) (h2 : c ≤ 243) :
    Calls Tryd.prog 32 #[.slice (some ⟨bk, off, none⟩) l.length cap, .int .i64 k] w fun e w' => e = .returned (.int .i64 (seqL (l.drop k))) ∧ w = w' := by
  have hcell := hc k hk
  rw [hcc] at hcell
  have hm1 := more_any l bk off cap (k + 1) 128 191 w hc
  rw [show (((k + 1 : Nat) : Int)) = (k : Int) + 1 from by omega, show ((128 : Nat) : Int) = 128 from rfl, show ((191 : Nat) : Int) = 191 from rfl] at hm1
  have hm2 := more_any l bk off cap (k + 2) 128 191 w hc
  rw [show (((k + 2 : Nat) : Int)) = (k : Int) + 2 from by omega, show ((128 : Nat) : Int) = 128 from rfl, show ((191 : Nat) : Int) = 191 from rfl] at hm2
  have hm3 := more_any l bk off cap (k + 3) 128 191 w hc
  rw [show (((k + 3 : Nat) : Int)) = (k : Int) + 3 from by omega, show ((128 : Nat) : Int) = 128 from rfl, show ((191 : Nat) : Int) = 191 from rfl] at hm3
  have hs : seqL (l.drop k) = if moreB l (k + 1) 128 191 then (if moreB l (k + 2) 128 191 then (if moreB l (k + 3) 128 191 then 4 else 0) else 0) else 0 := by
    rw [seqL_drop, hcc]
    unfold seqN
    rw [if_neg (by omega), if_neg (by omega), if_neg (by omega), if_neg (by omega), if_neg (by omega), if_neg (by omega), if_neg (by omega), if_pos (by omega)]
    exact seqK4 l k 128 191 hk
  obtain ⟨m1, hmm1⟩ : ∃ m, moreB l (k + 1) 128 191 = m := ⟨_, rfl⟩
  rw [hmm1] at hm1 hs
  have HM1 := Lib.hid hm1
  obtain ⟨m2, hmm2⟩ : ∃ m, moreB l (k + 2) 128 191 = m := ⟨_, rfl⟩
  rw [hmm2] at hm2 hs
  have HM2 := Lib.hid hm2
  obtain ⟨m3, hmm3⟩ : ∃ m, moreB l (k + 3) 128 191 = m := ⟨_, rfl⟩
  rw [hmm3] at hm3 hs
  have HM3 := Lib.hid hm3
  have HS := Lib.hid hs
  have HC := Lib.hid hc
  have hlo := hl.out
  clear hs hc hcc hm1 hmm1 hm2 hmm2 hm3 hmm3
  have g224 : ((c : Int) == 224) = false := by rw [beq_eq_false_iff_ne]; omega
  have g237 : ((c : Int) == 237) = false := by rw [beq_eq_false_iff_ne]; omega
  have g240 : ((c : Int) == 240) = false := by rw [beq_eq_false_iff_ne]; omega
  have g244 : ((c : Int) == 244) = false := by rw [beq_eq_false_iff_ne]; omega
  cases m1 <;> cases m2 <;> cases m3
  all_goals
    go_enter Tryd.func32, Tryd.ntmps32
    go_wp2_with (first | (go_at_call 41; ((with_reducible refine (HM1.out).mono ?_); rintro e w' ⟨rfl, rfl⟩)) | (go_at_call 41; ((with_reducible refine (HM2.out).mono ?_); rintro e w' ⟨rfl, rfl⟩)) | (go_at_call 41; ((with_reducible refine (HM3.out).mono ?_); rintro e w' ⟨rfl, rfl⟩)))
    go_ret
    exact ⟨ret_i64 (by rw [HS.out]; rfl), rfl⟩

set_option maxRecDepth 100000 in
set_option maxHeartbeats 1000000 in
theorem seq_j (l : List UInt8) (k bk off cap : Nat) (w : World) (hk : k < l.length) (hl : Hid (l.length ≤ 4194304)) (hc : BytesAt w bk off l) (hcc : byteAt l k = 244) :
    Calls Tryd.prog 32 #[.slice (some ⟨bk, off, none⟩) l.length cap, .int .i64 k] w fun e w' => e = .returned (.int .i64 (seqL (l.drop k))) ∧ w = w' := by
  have hcell := hc k hk
  rw [hcc] at hcell
  have hm1 := more_any l bk off cap (k + 1) 128 143 w hc
  rw [show (((k + 1 : Nat) : Int)) = (k : Int) + 1 from by omega, show ((128 : Nat) : Int) = 128 from rfl, show ((143 : Nat) : Int) = 143 from rfl] at hm1
  have hm2 := more_any l bk off cap (k + 2) 128 191 w hc
  rw [show (((k + 2 : Nat) : Int)) = (k : Int) + 2 from by omega, show ((128 : Nat) : Int) = 128 from rfl, show ((191 : Nat) : Int) = 191 from rfl] at hm2
  have hm3 := more_any l bk off cap (k + 3) 128 191 w hc
  rw [show (((k + 3 : Nat) : Int)) = (k : Int) + 3 from by omega, show ((128 : Nat) : Int) = 128 from rfl, show ((191 : Nat) : Int) = 191 from rfl] at hm3
  have hs : seqL (l.drop k) = if moreB l (k + 1) 128 143 then (if moreB l (k + 2) 128 191 then (if moreB l (k + 3) 128 191 then 4 else 0) else 0) else 0 := by
    rw [seqL_drop, hcc]
    unfold seqN
    rw [if_neg (by omega), if_neg (by omega), if_neg (by omega), if_neg (by omega), if_neg (by omega), if_neg (by omega), if_pos (by omega)]
    exact seqK4 l k 128 143 hk
  obtain ⟨m1, hmm1⟩ : ∃ m, moreB l (k + 1) 128 143 = m := ⟨_, rfl⟩
  rw [hmm1] at hm1 hs
  have HM1 := Lib.hid hm1
  obtain ⟨m2, hmm2⟩ : ∃ m, moreB l (k + 2) 128 191 = m := ⟨_, rfl⟩
  rw [hmm2] at hm2 hs
  have HM2 := Lib.hid hm2
  obtain ⟨m3, hmm3⟩ : ∃ m, moreB l (k + 3) 128 191 = m := ⟨_, rfl⟩
  rw [hmm3] at hm3 hs
  have HM3 := Lib.hid hm3
  have HS := Lib.hid hs
  have HC := Lib.hid hc
  have hlo := hl.out
  clear hs hc hcc hm1 hmm1 hm2 hmm2 hm3 hmm3
  cases m1 <;> cases m2 <;> cases m3
  all_goals
    go_enter Tryd.func32, Tryd.ntmps32
    go_wp2_with (first | (go_at_call 41; ((with_reducible refine (HM1.out).mono ?_); rintro e w' ⟨rfl, rfl⟩)) | (go_at_call 41; ((with_reducible refine (HM2.out).mono ?_); rintro e w' ⟨rfl, rfl⟩)) | (go_at_call 41; ((with_reducible refine (HM3.out).mono ?_); rintro e w' ⟨rfl, rfl⟩)))
    go_ret
    exact ⟨ret_i64 (by rw [HS.out]; rfl), rfl⟩

set_option maxRecDepth 100000 in
set_option maxHeartbeats 1000000 in
theorem seq_k (l : List UInt8) (k bk off cap : Nat) (w : World) (hk : k < l.length) (hl : Hid (l.length ≤ 4194304)) (hc : BytesAt w bk off l) (c : Nat) (hcc : byteAt l k = c) (h1 : 245 ≤ c) (h2 : c ≤ 255) :
    Calls Tryd.prog 32 #[.slice (some ⟨bk, off, none⟩) l.length cap, .int .i64 k] w fun e w' => e = .returned (.int .i64 (seqL (l.drop k))) ∧ w = w' := by
  have hcell := hc k hk
  rw [hcc] at hcell
  have hs : seqL (l.drop k) = 0 := by
    rw [seqL_drop, hcc]
    unfold seqN
    rw [if_neg (by omega), if_neg (by omega), if_neg (by omega), if_neg (by omega), if_neg (by omega), if_neg (by omega), if_neg (by omega), if_neg (by omega)]
  have HS := Lib.hid hs
  have HC := Lib.hid hc
  have hlo := hl.out
  clear hs hc hcc
  have g224 : ((c : Int) == 224) = false := by rw [beq_eq_false_iff_ne]; omega
  have g237 : ((c : Int) == 237) = false := by rw [beq_eq_false_iff_ne]; omega
  have g240 : ((c : Int) == 240) = false := by rw [beq_eq_false_iff_ne]; omega
  have g244 : ((c : Int) == 244) = false := by rw [beq_eq_false_iff_ne]; omega
  go_enter Tryd.func32, Tryd.ntmps32
  go_wp2
  go_ret
  exact ⟨ret_i64 (by rw [HS.out]; rfl), rfl⟩

theorem sequence_any (l : List UInt8) (k bk off cap : Nat) (w : World) (hk : k < l.length) (hl : l.length ≤ 4194304) (hc : BytesAt w bk off l) :
    Calls Tryd.prog 32 #[.slice (some ⟨bk, off, none⟩) l.length cap, .int .i64 k] w fun e w' => e = .returned (.int .i64 (seqL (l.drop k))) ∧ w = w' := by
  have hlt := byteAt_lt l k
  obtain ⟨c, hcc⟩ : ∃ c, byteAt l k = c := ⟨_, rfl⟩
  rw [hcc] at hlt
  have hw : (0 ≤ c ∧ c ≤ 127) ∨ (128 ≤ c ∧ c ≤ 193) ∨ (194 ≤ c ∧ c ≤ 223) ∨ (c = 224) ∨ (225 ≤ c ∧ c ≤ 236) ∨ (c = 237) ∨ (238 ≤ c ∧ c ≤ 239) ∨ (c = 240) ∨ (241 ≤ c ∧ c ≤ 243) ∨ (c = 244) ∨ (245 ≤ c ∧ c ≤ 255) := by omega
  rcases hw with ⟨h1, h2⟩ | ⟨h1, h2⟩ | ⟨h1, h2⟩ | h | ⟨h1, h2⟩ | h | ⟨h1, h2⟩ | h | ⟨h1, h2⟩ | h | ⟨h1, h2⟩
  · exact seq_a l k bk off cap w hk (Lib.hid hl) hc c hcc h1 h2
  · exact seq_b l k bk off cap w hk (Lib.hid hl) hc c hcc h1 h2
  · exact seq_c l k bk off cap w hk (Lib.hid hl) hc c hcc h1 h2
  · exact seq_d l k bk off cap w hk (Lib.hid hl) hc (by omega)
  · exact seq_e l k bk off cap w hk (Lib.hid hl) hc c hcc h1 h2
  · exact seq_f l k bk off cap w hk (Lib.hid hl) hc (by omega)
  · exact seq_g l k bk off cap w hk (Lib.hid hl) hc c hcc h1 h2
  · exact seq_h l k bk off cap w hk (Lib.hid hl) hc (by omega)
  · exact seq_i l k bk off cap w hk (Lib.hid hl) hc c hcc h1 h2
  · exact seq_j l k bk off cap w hk (Lib.hid hl) hc (by omega)
  · exact seq_k l k bk off cap w hk (Lib.hid hl) hc c hcc h1 h2
end Go.Proofs.YtbpboghjgbgjfaaDoor
