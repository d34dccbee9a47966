/- The contract of slices.Contains at slices of int, and those of package pattern's isWritable and areWritable. -/
import Derived.Test.YtbadhhfnbgaamaaDoorPatFmt
import Derived.Test.YtbadhhfnbgaamaaDoorPatLit
import Derived.WalkKit
import Derived.ProofKit
namespace Go.Proofs.YtbadhhfnbgaamaaDoor
open Go.RowKit

theorem take_nin (l : List Int) (o : Int) (k : Nat) (h : k < l.length) (h1 : o ∉ l.take k) (h2 : l[k] ≠ o) : o ∉ l.take (k + 1) := by
  rw [List.take_succ_eq_append_getElem h]
  intro hm
  rcases List.mem_append.1 hm with hm | hm
  · exact h1 hm
  · have hm : o = l[k] := by simpa using hm
    exact h2 hm.symm

set_option maxRecDepth 100000 in
set_option maxHeartbeats 2000000 in
theorem index_int (l : List Int) (o : Int) (g c : Nat) (w : World) (hl : l.length ≤ 100) (hc : ∀ i (h : i < l.length), w.cell? ⟨g, i, none⟩ = some (.int .i64 l[i])) :
    Calls Tryd.prog 48 #[.slice (some ⟨g, 0, none⟩) l.length c, .int .i64 o] w fun e w' => (∃ z : Int, e = .returned (.int .i64 z) ∧ -1 ≤ z ∧ z ≤ 100 ∧ (0 ≤ z ↔ o ∈ l)) ∧ w' = w := by
  have HC := Lib.hid hc
  clear hc
  go_enter Tryd.func48, Tryd.ntmps48
  go_wp2
  go_loopw [8] (fun i wr => ∃ k : Nat, k ≤ l.length ∧ i = .int .i64 k ∧ o ∉ l.take k ∧ wr = w) (fun i _ => l.length - (intOf i).toNat)
  case atStart => exact ⟨0, by omega, rfl, by simp, rfl⟩
  case round =>
    obtain ⟨k, hk, rfl, hnot, rfl⟩ := hrel
    by_cases hlt : k < l.length
    · have hcell := HC.out k hlt
      have hin : l[k] ∈ l := List.getElem_mem hlt
      have hstep := take_nin l o k hlt hnot
      obtain ⟨x, hx⟩ : ∃ x, l[k] = x := ⟨_, rfl⟩
      rw [hx] at hcell hin hstep
      have H := Lib.hid (And.intro hin (And.intro hstep hnot))
      clear hin hstep hnot hx
      by_cases he : o = x
      · obtain rfl := he
        go_wp2
        go_ret
        exact ⟨⟨k, rfl, by omega, by omega, ⟨fun _ => H.out.1, fun _ => by omega⟩⟩, rfl⟩
      · have e1 : (o == x) = false := by rw [beq_eq_false_iff_ne]; exact he
        go_wp2
        go_roundw
        case rel => exact ⟨k + 1, by omega, by simp, H.out.2.1 fun h => he h.symm, by trivial⟩
        case measure => simp [intOf]; omega
    · obtain rfl : k = l.length := by omega
      rw [List.take_length] at hnot
      have H := Lib.hid hnot
      clear hnot
      go_wp2
      go_ret
      exact ⟨⟨-1, rfl, by omega, by omega, ⟨fun h => by omega, fun h => absurd h H.out⟩⟩, rfl⟩

set_option maxRecDepth 100000 in
theorem contains_int (l : List Int) (o : Int) (g c : Nat) (w : World) (hl : l.length ≤ 100) (hc : ∀ i (h : i < l.length), w.cell? ⟨g, i, none⟩ = some (.int .i64 l[i])) :
    Calls Tryd.prog 36 #[.slice (some ⟨g, 0, none⟩) l.length c, .int .i64 o] w fun e w' => e = .returned (.bool (isLoose l o)) ∧ w' = w := by
  have H := Lib.hid (index_int l o g c w hl hc)
  clear hc
  obtain ⟨n, hn⟩ : ∃ n, l.length = n := ⟨_, rfl⟩
  rw [hn] at H ⊢
  have HN := Lib.hid hn
  clear hn
  go_enter Tryd.func36, Tryd.ntmps36
  go_wp2_with fail
  refine (H.out).mono ?_
  rintro e w1 ⟨⟨z, rfl, hz1, hz2, hz⟩, rfl⟩
  have HZ := Lib.hid hz
  clear hz
  go_wp2
  go_ret
  refine ⟨ret_bool ?_, rfl⟩
  have := HZ.out
  unfold isLoose
  rw [Bool.eq_iff_iff]
  simp
  exact this

set_option maxRecDepth 100000 in
theorem isWritable_any (c : Nat) (w : World) :
    Calls Tryd.prog 44 #[.int .u8 (c : Int)] w fun e w' => e = .returned (.bool (wrB c)) ∧ w' = w := by
  have HP := Lib.hid (isPrintable_any c w)
  unfold wrB
  by_cases hp : printN c = true
  · rw [hp] at HP ⊢
    go_enter Tryd.func44, Tryd.ntmps44
    go_wp2_with fail
    refine (HP.out).mono ?_
    rintro e w1 ⟨rfl, rfl⟩
    go_wp2
    go_ret
    exact ⟨rfl, rfl⟩
  · have hp : printN c = false := by simpa using hp
    rw [hp] at HP ⊢
    by_cases h1 : c = 10
    · subst h1
      go_enter Tryd.func44, Tryd.ntmps44
      go_wp2_with fail
      refine (HP.out).mono ?_
      rintro e w1 ⟨rfl, rfl⟩
      go_wp2
      go_ret
      exact ⟨rfl, rfl⟩
    · have e1 : ((c : Int) == 10) = false := by rw [beq_eq_false_iff_ne]; omega
      by_cases h2 : c = 9
      · subst h2
        go_enter Tryd.func44, Tryd.ntmps44
        go_wp2_with fail
        refine (HP.out).mono ?_
        rintro e w1 ⟨rfl, rfl⟩
        go_wp2
        go_ret
        exact ⟨rfl, rfl⟩
      · have e2 : ((c : Int) == 9) = false := by rw [beq_eq_false_iff_ne]; omega
        go_enter Tryd.func44, Tryd.ntmps44
        go_wp2_with fail
        refine (HP.out).mono ?_
        rintro e w1 ⟨rfl, rfl⟩
        go_wp2
        go_ret
        exact ⟨by simp [h1, h2], rfl⟩

theorem wrR_take (rs : List (Nat × Nat)) (k : Nat) (h : k < rs.length) (h1 : wrR (rs.take k) = true) (h2 : wrB rs[k].1 = true) (h3 : wrB rs[k].2 = true) : wrR (rs.take (k + 1)) = true := by
  unfold wrR at *
  rw [List.take_succ_eq_append_getElem h, List.all_append, h1]
  simp [h2, h3]
theorem wrR_at (rs : List (Nat × Nat)) (k : Nat) (h : k < rs.length) (h1 : wrB rs[k].1 = false ∨ wrB rs[k].2 = false) : wrR rs = false := by
  unfold wrR
  rw [List.all_eq_false]
  refine ⟨rs[k], List.getElem_mem h, ?_⟩
  rcases h1 with h1 | h1 <;> simp [h1]

set_option maxRecDepth 100000 in
set_option maxHeartbeats 2000000 in
theorem areWritable_any (lo : Nat) (rs : List (Nat × Nat)) (v : Value) (w : World) (h : RangesIn lo w v rs) :
    Calls Tryd.prog 31 #[v] w fun e w' => e = .returned (.bool (wrR rs)) ∧ Below w.heap.size w w' := by
  obtain ⟨a, c, rfl, hl, hb, hc⟩ := h
  have HC := Lib.hid hc
  clear hc hb
  unfold maxLen at hl
  go_enter Tryd.func31, Tryd.ntmps31
  go_wp2
  go_loopw [7] (fun i wr => ∃ k : Nat, k ≤ rs.length ∧ i = .int .i64 k ∧ wrR (rs.take k) = true ∧ Below w.heap.size w wr) (fun i _ => rs.length - (intOf i).toNat)
  case atStart => exact ⟨0, by omega, rfl, by simp [wrR], Below.refl _ _⟩
  case round =>
    obtain ⟨k, hk, rfl, hall, hbl⟩ := hrel
    obtain ⟨W1, rfl⟩ : ∃ W1, W1 = wr := ⟨_, rfl⟩
    by_cases hlt : k < rs.length
    · obtain ⟨b, o, rfl, -, hc1, hc2⟩ := HC.out k hlt
      have g1 : W1.cell? ⟨b, o + k * 2, none⟩ = some (.int .u8 (rs[k].1 : Nat)) := keeps_below hbl (lo := 0) b _ _ (Nat.zero_le _) hc1
      have g2 : W1.cell? ⟨b, o + k * 2 + 1, none⟩ = some (.int .u8 (rs[k].2 : Nat)) := keeps_below hbl (lo := 0) b _ _ (Nat.zero_le _) hc2
      have hst := wrR_take rs k hlt hall
      have hat := wrR_at rs k hlt
      obtain ⟨x, hx⟩ : ∃ x, rs[k].1 = x := ⟨_, rfl⟩
      obtain ⟨y, hy⟩ : ∃ y, rs[k].2 = y := ⟨_, rfl⟩
      rw [hx] at g1 hst hat
      rw [hy] at g2 hst hat
      have h1 := fun W => isWritable_any x W
      have h2 := fun W => isWritable_any y W
      obtain ⟨p, hp⟩ : ∃ p, wrB x = p := ⟨_, rfl⟩
      obtain ⟨q, hq⟩ : ∃ q, wrB y = q := ⟨_, rfl⟩
      rw [hp] at h1 hst hat
      rw [hq] at h2 hst hat
      have hba := hbl.alloc hbl.size (.cells #[.int .u8 (x : Int), .int .u8 (y : Int)] 57)
      have K := Lib.hid (And.intro hst (And.intro hat (And.intro hba (And.intro h1 h2))))
      clear hst hat hba h1 h2 hbl hall hx hy hp hq hc1 hc2
      cases p with
      | false =>
        go_wp2_with fail
        refine (K.out.2.2.2.1 _).mono ?_
        rintro e w2 ⟨rfl, rfl⟩
        go_wp2
        go_ret
        exact ⟨ret_bool (K.out.2.1 (.inl (by trivial))).symm, K.out.2.2.1⟩
      | true =>
        cases q with
        | false =>
          go_wp2_with fail
          refine (K.out.2.2.2.1 _).mono ?_
          rintro e w2 ⟨rfl, rfl⟩
          go_wp2_with fail
          refine (K.out.2.2.2.2 _).mono ?_
          rintro e w2 ⟨rfl, rfl⟩
          go_wp2
          go_ret
          exact ⟨ret_bool (K.out.2.1 (.inr (by trivial))).symm, K.out.2.2.1⟩
        | true =>
          go_wp2_with fail
          refine (K.out.2.2.2.1 _).mono ?_
          rintro e w2 ⟨rfl, rfl⟩
          go_wp2_with fail
          refine (K.out.2.2.2.2 _).mono ?_
          rintro e w2 ⟨rfl, rfl⟩
          go_wp2
          go_roundw
          case rel => exact ⟨k + 1, by omega, by simp, K.out.1 (by trivial) (by trivial), K.out.2.2.1⟩
          case measure => simp [intOf]; omega
    · obtain rfl : k = rs.length := by omega
      rw [List.take_length] at hall
      have K := Lib.hid (And.intro hall hbl)
      clear hall hbl
      go_wp2
      go_ret
      exact ⟨ret_bool K.out.1.symm, K.out.2⟩
end Go.Proofs.YtbadhhfnbgaamaaDoor
