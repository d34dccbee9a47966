/- Both Consistents at any size and any list of contents. -/
import Derived.Test.YtfihnmfbgdjkpaaFpG
namespace Go.Proofs.Ytfihnmfbgdjkpaa
open Go.RowKit Go.Maps Go.ChangeMaps

def OutR (z : Int) : Prop := z < 1 ∨ 64 < z
set_option maxRecDepth 100000 in
set_option linter.unusedSimpArgs false in
set_option maxHeartbeats 8000000 in
theorem cons_out (g N C : Nat) (z : Int) (ls : List (List UInt8)) (w : World) (hN : ls.length = N) (hNl : N ≤ 100000) (hf : FilesAt w g ls) (hz : OutR z) :
    Calls Try.prog 23 #[.slice (some ⟨g, 0, none⟩) N C, .int .i64 z] w fun e w' => e = .returned (.bool true) ∧ Below w.heap.size w w' := by
  have hmm := @run_makeMap Try.prog
  have H := Lib.hid (And.intro (hf.below (below_new w (.map #[] 0))) (And.intro hN hz))
  clear hf hN hz
  go_enter Try.func23, Try.ntmps23
  go_wp2_with fail
  clear hmm
  go_loopw [15] (fun iv wr => ∃ (i : Nat), i ≤ N ∧ iv = .int .i64 i ∧ wr = w.alloc (.map #[] 0)) (fun iv _ => N - (intOf iv).toNat)
  case atStart => exact ⟨0, Nat.zero_le _, rfl, rfl⟩
  case round =>
    obtain ⟨i, hi, rfl, rfl⟩ := hrel
    by_cases hlt : i < N
    · have e4 : decide ((i : Int) < (N : Int)) = true := by rw [decide_eq_true_iff]; omega
      have e5 : decide (i < N) = true := decide_eq_true hlt
      have hil : i < ls.length := by have := H.out.2.1; omega
      obtain ⟨a, c, cv, hv⟩ := files_cell H.out.1 hil
      clear hv
      obtain ⟨n, hn⟩ : ∃ n, ls[i].length = n := ⟨_, rfl⟩
      rw [hn] at cv
      clear hn
      go_wp2_with fail
      refine (number_no a n c z _ (H.out.2.2.imp id .inl)).mono ?_
      rintro e w' ⟨rfl, rfl⟩
      go_wp2
      go_roundw
      case rel => exact ⟨i + 1, by omega, by go_num, by trivial⟩
      case measure => simp [intOf]; omega
    · obtain rfl : i = N := by omega
      have e4 : decide ((i : Int) < (i : Int)) = false := by simp
      have e5 : decide (i < i) = false := by simp
      clear hlt
      go_wp2
      go_ret
      exact ⟨rfl, below_new _ _⟩
set_option maxRecDepth 100000 in
set_option linter.unusedSimpArgs false in
set_option maxHeartbeats 8000000 in
theorem rcons_out (g N C : Nat) (z : Int) (ls : List (List UInt8)) (w : World) (hN : ls.length = N) (hNl : N ≤ 100000) (hf : FilesAt w g ls) (hz : OutR z) :
    Calls Try.prog 24 #[.slice (some ⟨g, 0, none⟩) N C, .int .i64 z] w fun e w' => e = .returned (.bool true) ∧ Below w.heap.size w w' := by
  have H := Lib.hid (And.intro hf (And.intro hN hz))
  clear hf hN hz
  go_enter Try.func24, Try.ntmps24
  go_wp2_with fail
  go_loopw [5] (fun iv wr => ∃ (i q : Nat), i ≤ N ∧ iv = .int .i64 i ∧ wr = w.drewN q) (fun iv _ => N - (intOf iv).toNat)
  case atStart => exact ⟨0, 0, Nat.zero_le _, rfl, rfl⟩
  case round =>
    obtain ⟨i, q, hi, rfl, rfl⟩ := hrel
    by_cases hlt : i < N
    · have e4 : decide ((i : Int) < (N : Int)) = true := by rw [decide_eq_true_iff]; omega
      have e5 : decide (i < N) = true := decide_eq_true hlt
      have hil : i < ls.length := by have := H.out.2.1; omega
      obtain ⟨a, c, cv, hv⟩ := files_cell H.out.1 hil
      clear hv
      obtain ⟨n, hn⟩ : ∃ n, ls[i].length = n := ⟨_, rfl⟩
      rw [hn] at cv
      clear hn
      go_wp2_with fail
      refine (rnumber_no a n c z _ (H.out.2.2.imp id .inl)).mono ?_
      rintro e w' ⟨rfl, rfl⟩
      go_wp2_with fail
      go_loopw [8] (fun jv wr => ∃ (j q : Nat), j ≤ i ∧ jv = .int .i64 j ∧ wr = w.drewN q) (fun jv _ => i - (intOf jv).toNat)
      case atStart => exact ⟨0, q, Nat.zero_le _, rfl, rfl⟩
      case round =>
        obtain ⟨j, q2, hj, rfl, rfl⟩ := hrel
        by_cases hji : j < i
        · have f4 : decide ((j : Int) < (i : Int)) = true := by rw [decide_eq_true_iff]; omega
          have f5 : decide (j < i) = true := decide_eq_true hji
          have g1 : (j : Int) < (N : Int) := by omega
          have g3 : j < N := by omega
          have hjl : j < ls.length := by omega
          obtain ⟨a2, c2, cv2, hv2⟩ := files_cell H.out.1 hjl
          clear hv2
          obtain ⟨n2, hn2⟩ : ∃ n, ls[j].length = n := ⟨_, rfl⟩
          rw [hn2] at cv2
          clear hn2
          go_wp2_with fail
          refine (rnumber_no a2 n2 c2 z _ (H.out.2.2.imp id .inl)).mono ?_
          rintro e w' ⟨rfl, rfl⟩
          go_wp2_with fail
          go_quiet (fail)
          go_wp2
          go_roundw
          case rel => exact ⟨j + 1, _, by omega, by go_num, rfl⟩
          case measure => simp [intOf]; omega
        · obtain rfl : j = i := by omega
          have f4 : decide ((j : Int) < (j : Int)) = false := by simp
          have f5 : decide (j < j) = false := by simp
          clear hji
          go_wp2
          go_roundw
          case rel => exact ⟨j + 1, q2, by omega, by go_num, rfl⟩
          case measure => simp [intOf]; omega
    · obtain rfl : i = N := by omega
      have e4 : decide ((i : Int) < (i : Int)) = false := by simp
      have e5 : decide (i < i) = false := by simp
      clear hlt
      go_wp2
      go_ret
      exact ⟨rfl, ⟨rfl, rfl, rfl, Nat.le_refl _, fun _ _ => rfl⟩⟩
set_option maxRecDepth 100000 in
theorem cons_nil (z : Int) (w : World) : Calls Try.prog 23 #[.slice none 0 0, .int .i64 z] w fun e w' => e = .returned (.bool true) ∧ Below w.heap.size w w' := by
  have hmm := @run_makeMap Try.prog
  go_enter Try.func23, Try.ntmps23
  go_wp2_with fail
  clear hmm
  go_loopw [15] (fun iv wr => iv = .int .i64 0 ∧ wr = w.alloc (.map #[] 0)) (fun _ _ => 0)
  case atStart => exact ⟨rfl, rfl⟩
  case round =>
    obtain ⟨rfl, rfl⟩ := hrel
    go_wp2
    go_ret
    exact ⟨rfl, below_new _ _⟩
set_option maxRecDepth 100000 in
theorem rcons_nil (z : Int) (w : World) : Calls Try.prog 24 #[.slice none 0 0, .int .i64 z] w fun e w' => e = .returned (.bool true) ∧ Below w.heap.size w w' := by
  go_enter Try.func24, Try.ntmps24
  go_wp2_with fail
  go_loopw [5] (fun iv wr => iv = .int .i64 0 ∧ wr = w) (fun _ _ => 0)
  case atStart => exact ⟨rfl, rfl⟩
  case round =>
    obtain ⟨rfl, rfl⟩ := hrel
    go_wp2
    go_ret
    exact ⟨rfl, Below.refl _ _⟩
/-- A list of contents. -/
def FilesS (w : World) (v : Value) (ls : List (List UInt8)) : Prop := (v = .slice none 0 0 ∧ ls = []) ∨ ∃ g c, v = .slice (some ⟨g, 0, none⟩) ls.length c ∧ FilesAt w g ls
theorem FilesS.below {w w' : World} {v : Value} {ls : List (List UInt8)} (h : FilesS w v ls) (k : Below w.heap.size w w') : FilesS w' v ls := by
  rcases h with h | ⟨g, c, h1, h2⟩
  · exact .inl h
  · exact .inr ⟨g, c, h1, h2.below k⟩
def consZ (z : Int) (ls : List (List UInt8)) : Bool := if 1 ≤ z ∧ z ≤ 64 then consM z.toNat ls (fun _ => []) else true
theorem consP_any {w : World} {v : Value} {ls : List (List UInt8)} (h : FilesS w v ls) (hl : ls.length ≤ 100000) (z : Int) : Calls Try.prog 23 #[v, .int .i64 z] w fun e w' => e = .returned (.bool (consZ z ls)) ∧ Below w.heap.size w w' := by
  rcases h with ⟨rfl, rfl⟩ | ⟨g, c, rfl, h2⟩
  · have : consZ z [] = true := by unfold consZ; split <;> rfl
    rw [this]; exact cons_nil z w
  · unfold consZ
    by_cases hz : 1 ≤ z ∧ z ≤ 64
    · rw [if_pos hz]
      obtain ⟨k, rfl⟩ : ∃ k : Nat, z = (k : Int) := ⟨z.toNat, by omega⟩
      rw [Int.toNat_natCast]
      exact cons_any g _ c k ls w rfl hl h2 (by omega) (by omega)
    · rw [if_neg hz]
      exact cons_out g _ c z ls w rfl hl h2 (by unfold OutR; omega)
theorem consR_any {w : World} {v : Value} {ls : List (List UInt8)} (h : FilesS w v ls) (hl : ls.length ≤ 100000) (z : Int) : Calls Try.prog 24 #[v, .int .i64 z] w fun e w' => e = .returned (.bool (consZ z ls)) ∧ Below w.heap.size w w' := by
  rcases h with ⟨rfl, rfl⟩ | ⟨g, c, rfl, h2⟩
  · have : consZ z [] = true := by unfold consZ; split <;> rfl
    rw [this]; exact rcons_nil z w
  · unfold consZ
    by_cases hz : 1 ≤ z ∧ z ≤ 64
    · rw [if_pos hz]
      obtain ⟨k, rfl⟩ : ∃ k : Nat, z = (k : Int) := ⟨z.toNat, by omega⟩
      rw [Int.toNat_natCast]
      exact (rcons_any g _ c k ls w rfl hl h2 (by omega) (by omega)).mono fun _ _ h => ref_answer h
    · rw [if_neg hz]
      exact rcons_out g _ c z ls w rfl hl h2 (by unfold OutR; omega)
/-- Number at any size. -/
def numZ (z : Int) (l : List UInt8) : Int × Bool := if 1 ≤ z ∧ z ≤ 64 ∧ z ≤ l.length then (numK l z.toNat, true) else (0, false)
theorem numP_any {w : World} {v : Value} {l : List UInt8} (h : BySl w v l) (z : Int) : Calls Try.prog 21 #[v, .int .i64 z] w fun e w' => e = .returned (.tuple #[.int .i64 (numZ z l).1, .bool (numZ z l).2]) ∧ w = w' := by
  unfold numZ
  by_cases hz : 1 ≤ z ∧ z ≤ 64 ∧ z ≤ l.length
  · rw [if_pos hz]
    obtain ⟨k, rfl⟩ : ∃ k : Nat, z = (k : Int) := ⟨z.toNat, by omega⟩
    rw [Int.toNat_natCast]
    exact number_yes _ l k w h (by omega) (by omega) (by omega)
  · rw [if_neg hz]
    obtain ⟨a, c, rfl, -⟩ := h.slice
    exact number_no a _ c z w (by omega)
theorem numR_any {w : World} {v : Value} {l : List UInt8} (h : BySl w v l) (z : Int) : Calls Try.prog 22 #[v, .int .i64 z] w fun e w' => e = .returned (.tuple #[.int .i64 (numZ z l).1, .bool (numZ z l).2]) ∧ w = w' := by
  unfold numZ
  by_cases hz : 1 ≤ z ∧ z ≤ 64 ∧ z ≤ l.length
  · rw [if_pos hz]
    obtain ⟨k, rfl⟩ : ∃ k : Nat, z = (k : Int) := ⟨z.toNat, by omega⟩
    rw [Int.toNat_natCast]
    exact rnumber_yes _ l k w h (by omega) (by omega) (by omega)
  · rw [if_neg hz]
    obtain ⟨a, c, rfl, -⟩ := h.slice
    exact rnumber_no a _ c z w (by omega)
end Go.Proofs.Ytfihnmfbgdjkpaa
