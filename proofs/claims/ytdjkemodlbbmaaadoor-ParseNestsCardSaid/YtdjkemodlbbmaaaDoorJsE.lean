/- strings.Join of some names with dots between. -/
import Derived.Test.YtdjkemodlbbmaaaDoorKvK
import Derived.Test.YtdjkemodlbbmaaaDoorKvL
namespace Go.Proofs.YtdjkemodlbbmaaaDoor
open Go.RowKit

/-- Strings with dots between. -/
def jnB : List ByteArray → List UInt8
  | [] => []
  | x :: r => x.data.toList ++ r.flatMap (fun y => 46 :: y.data.toList)
theorem jnB_snoc (L : List ByteArray) (x : ByteArray) (h : L ≠ []) : jnB (L ++ [x]) = jnB L ++ (46 :: x.data.toList) := by
  cases L with
  | nil => exact absurd rfl h
  | cons y r => simp [jnB]
theorem jnB_len (K : Nat) : ∀ L : List ByteArray, (∀ x ∈ L, x.size ≤ K) → (jnB L).length ≤ L.length * (K + 1)
  | [], _ => by simp [jnB]
  | x :: r, h => by
    have hx := h x (by simp)
    have : ∀ r : List ByteArray, (∀ y ∈ r, y.size ≤ K) → (r.flatMap (fun y => 46 :: y.data.toList)).length ≤ r.length * (K + 1) := by
      intro r
      induction r with
      | nil => simp
      | cons y r ih =>
        intro hr
        have h1 := hr y (by simp)
        have h2 := ih (fun z hz => hr z (by simp [hz]))
        rw [List.flatMap_cons, List.length_append, List.length_cons, List.length_cons, size_b, Nat.succ_mul]
        omega
    have h2 := this r (fun y hy => h y (by simp [hy]))
    unfold jnB
    rw [List.length_append, size_b, List.length_cons, Nat.succ_mul]
    omega
theorem run_from1 (g o n c : Nat) (h1 : 2 ≤ n) (h2 : n ≤ c) (W : World) :
    (Instr.slice 37 (.slice (some ⟨g, o, none⟩) n c) (some (.int .i64 1)) none none).run Tryd.prog W = .ok (.slice (some ⟨g, o + 1, none⟩) (n - 1) (c - 1)) W := by
  have u := run_underlying Tryd.underlying37
  simp [go_sem, Instr.slice, u]
  rw [if_pos (by omega), if_neg (by omega)]
set_option maxRecDepth 100000 in
set_option maxHeartbeats 4000000 in
theorem join_one (x : ByteArray) (v : Value) (w : World) (h : StI w v [x]) :
    Calls Tryd.prog 100 #[v, .string ⟨#[46]⟩] w fun e w' => e = .returned (.string x) ∧ Below w.heap.size w w' := by
  obtain ⟨a, c, rfl⟩ := h.slice
  obtain ⟨g, o, rfl, hc, hg⟩ := h.cell (i := 0) (by simp)
  have hc0 : w.cell? ⟨g, o, none⟩ = some (.string x) := hc
  clear hc h
  go_enter Tryd.func100, Tryd.ntmps100
  go_wp2
  go_ret
  exact ⟨rfl, Below.refl _ _⟩
set_option maxRecDepth 100000 in
set_option maxHeartbeats 8000000 in
theorem join_many (L : List ByteArray) (v : Value) (w : World) (h : StI w v L) (h2 : 2 ≤ L.length) (h20 : L.length ≤ 20) (hsz : ∀ x ∈ L, x.size ≤ 10000) (hcap : ∀ a c, v = .slice a L.length c → L.length ≤ c) :
    Calls Tryd.prog 100 #[v, .string ⟨#[46]⟩] w fun e w' => e = .returned (.string ⟨(jnB L).toArray⟩) ∧ Below w.heap.size w w' := by
  obtain ⟨a, c, rfl⟩ := h.slice
  obtain ⟨g, o, rfl, -, hg⟩ := h.cell (i := 0) (by omega)
  obtain ⟨n, hn⟩ : ∃ n, L.length = n := ⟨_, rfl⟩
  have HN := Lib.hid hn
  have HC := Lib.hid (fun (W : World) (q : Below w.heap.size w W) k (hk : k < L.length) => show W.cell? ⟨g, o + k, none⟩ = some (.string L[k]) by
    obtain ⟨g', o', he, hc, hg'⟩ := h.cell hk
    cases he
    exact (q.cell (p := ⟨g, o + k, none⟩) hg).trans hc)
  have HSZ := Lib.hid hsz
  have hgc : n ≤ c := by rw [← hn]; exact hcap _ _ rfl
  rw [hn] at h2 h20 ⊢
  obtain ⟨q, hq1⟩ : ∃ q : Int, (9223372036854775807 : Int) / ((n : Int) - 1) = q := ⟨_, rfl⟩
  have hq2 : Int.tdiv (9223372036854775807 : Int) ((n : Int) - 1) = q := by rw [Int.tdiv_eq_ediv_of_nonneg (by omega)]; exact hq1
  have hq : 2 ≤ q := by
    rw [← hq1]
    refine (Int.le_ediv_iff_mul_le (by omega)).2 ?_
    omega
  have hq4 : q ≤ 9223372036854775807 := by
    rw [← hq1]
    exact Int.ediv_le_self _ (by omega)
  have hq3 : ¬ ((n : Int) - 1 = 0) := by omega
  have hq5 : decide (q ≤ (1 : Int)) = false := by rw [decide_eq_false_iff_not]; omega
  have z1 : ((n : Int) == 0) = false := by rw [beq_eq_false_iff_ne]; omega
  have z2 : ((n : Int) == 1) = false := by rw [beq_eq_false_iff_ne]; omega
  clear h hn hsz hcap
  go_enter Tryd.func100, Tryd.ntmps100
  go_wp2
  clear hq1 hq2 hq hq3 hq4 hq5
  go_loop [5, 41] (fun a b => ∃ k m : Nat, b = .int .i64 k ∧ a = .int .i64 m ∧ k ≤ n ∧ m ≤ 20 + k * 10000) (fun _ b => n - (intOf b).toNat)
  case atStart => exact ⟨0, n - 1, rfl, by congr 1; omega, Nat.zero_le _, by omega⟩
  case round =>
    obtain ⟨k, m, rfl, rfl, hk, hm⟩ := hrel
    by_cases hkn : k < n
    · have hkL : k < L.length := by rw [HN.out]; exact hkn
      have hck := HC.out w (Below.refl _ _) k hkL
      have hsk := HSZ.out _ (List.getElem_mem hkL)
      obtain ⟨x, hx⟩ : ∃ x, L[k] = x := ⟨_, rfl⟩
      rw [hx] at hck hsk
      have hd1 : decide ((9223372036854775807 : Int) - (m : Int) < (x.size : Int)) = false := by rw [decide_eq_false_iff_not]; omega
      clear hx
      go_wp2
      go_round
      case rel => exact ⟨k + 1, m + x.size, by go_num, by go_num, by omega, by omega⟩
      case measure => simp [intOf]; omega
    · have hke : k = n := by omega
      subst hke
      have hnew := bd_new w
      have hG : ∀ m2 : Int, m2 = (m : Int) → Calls Tryd.prog 103 #[.pointer (some ⟨w.heap.size, 0, none⟩), .int .i64 m2] (w.alloc (.cells #[.pointer none, .slice none 0 0] 96)) fun e w' => e = .returned (.tuple #[]) ∧ Bd w.heap.size w.heap.size [] w' ∧ Below w.heap.size w w' := fun m2 hm2 => by
        subst hm2
        refine (Tryd.Builder_Grow_fresh w.heap.size w.heap.size m _ (Nat.le_refl _) (heap_alloc_new w _) (by simp) (by omega)).mono ?_
        rintro e w' ⟨he, hb, hbel⟩
        exact ⟨he, ⟨_, .inr rfl, hb⟩, ((Below.refl _ w).alloc (Nat.le_refl _) _).trans hbel⟩
      have HG := Lib.hid hG
      have h0L : 0 < L.length := by rw [HN.out]; omega
      have hsz0 := HSZ.out _ (List.getElem_mem h0L)
      obtain ⟨x0, hx0⟩ : ∃ x, L[0] = x := ⟨_, rfl⟩
      rw [hx0] at hsz0
      have HC0 := Lib.hid (fun (W : World) (q : Below w.heap.size w W) => show W.cell? ⟨g, o, none⟩ = some (.string x0) by rw [← hx0]; exact HC.out W q 0 h0L)
      have HX0 := Lib.hid hx0
      have hrf := run_from1 g o k c h2 hgc
      clear hnew hG hx0
      go_wp2_with fail
      refine (HG.out _ (by first | rfl | simp)).mono ?_
      rintro e w1 ⟨rfl, hbd1, hb1⟩
      have hc0 := HC0.out _ hb1
      have H1 := Lib.hid (And.intro hbd1 hb1)
      clear hbd1 hb1
      go_wp2_with fail
      refine (bldStr w.heap.size w.heap.size [] x0 w1 H1.out.1 (by simp) (by omega)).mono ?_
      rintro e w2 ⟨⟨r2, rfl⟩, hb2, hbb2, -, -⟩
      have H2 := Lib.hid (And.intro hb2 (H1.out.2.trans hbb2))
      clear hb2 hbb2 hc0
      go_wp2
      go_loopw [65] (fun a wr => ∃ j : Nat, a = .int .i64 j ∧ j ≤ k - 1 ∧ Bd w.heap.size w.heap.size (jnB (L.take (j + 1))) wr ∧ Below w.heap.size w wr) (fun a _ => k - (intOf a).toNat)
      case atStart =>
        refine ⟨0, rfl, Nat.zero_le _, ?_, H2.out.2⟩
        have e : jnB (L.take (0 + 1)) = [] ++ x0.data.toList := by
          rw [List.take_succ_eq_append_getElem (by rw [HN.out]; omega), HX0.out]
          simp [jnB]
        rw [e]
        exact H2.out.1
      case round =>
        obtain ⟨j, rfl, hj, hbd, hbl⟩ := hrel
        have hlenT : (jnB (L.take (j + 1))).length ≤ 20 * 10001 := by
          refine Nat.le_trans (jnB_len 10000 _ (fun x hx => HSZ.out x (List.mem_of_mem_take hx))) ?_
          refine Nat.mul_le_mul_right _ ?_
          rw [List.length_take]
          omega
        have H3 := Lib.hid (And.intro hbd hbl)
        clear hbd hbl
        by_cases hjk : j < k - 1
        · have hjL : j + 1 < L.length := by rw [HN.out]; omega
          have hcj : ∀ W, Below w.heap.size w W → W.cell? ⟨g, o + 1 + j, none⟩ = some (.string L[j + 1]) := fun W q => by
            have := HC.out W q (j + 1) hjL
            rw [show o + 1 + j = o + (j + 1) by omega]
            exact this
          have hsj := HSZ.out _ (List.getElem_mem hjL)
          obtain ⟨x, hx⟩ : ∃ x, L[j + 1] = x := ⟨_, rfl⟩
          rw [hx] at hcj hsj
          have HX := Lib.hid hx
          have hc1 := hcj _ H3.out.2
          have hjk2 : (j : Int) < ((k - 1 : Nat) : Int) := by omega
          clear hx hcj
          go_wp2_with fail
          refine (bldStr w.heap.size w.heap.size _ ⟨#[46]⟩ _ H3.out.1 (by omega) (by decide)).mono ?_
          rintro e w4 ⟨⟨r4, rfl⟩, hb4, hbb4, -, -⟩
          have H4 := Lib.hid (And.intro hb4 (H3.out.2.trans hbb4))
          clear hb4 hbb4 hc1
          go_wp2_with fail
          refine (bldStr w.heap.size w.heap.size _ x _ H4.out.1 (by rw [List.length_append]; show _ + 1 ≤ _; omega) (by omega)).mono ?_
          rintro e w5 ⟨⟨r5, rfl⟩, hb5, hbb5, -, -⟩
          have H5 := Lib.hid (And.intro hb5 (H4.out.2.trans hbb5))
          clear hb5 hbb5
          go_wp2
          go_roundw
          case rel =>
            refine ⟨j + 1, by go_num, by omega, ?_, H5.out.2⟩
            rw [List.take_succ_eq_append_getElem hjL, jnB_snoc _ _ (by
              intro e
              have := congrArg List.length e
              rw [List.length_take, List.length_nil] at this
              omega), HX.out]
            have := H5.out.1
            rw [List.append_assoc] at this
            exact this
          case measure => simp [intOf]; omega
        · have hje : j = k - 1 := by omega
          have hL : jnB (L.take (j + 1)) = jnB L := by rw [List.take_of_length_le (by rw [HN.out]; omega)]
          rw [hL] at H3
          have hjk2 : ¬ (j : Int) < ((k - 1 : Nat) : Int) := by omega
          clear hL hlenT
          have HSS := Lib.hid (fun (W : World) (q : Bd w.heap.size w.heap.size (jnB L) W) (q2 : w.heap.size ≤ W.heap.size) => bdString _ _ (jnB L) W q q2)
          go_wp2_with fail
          refine (HSS.out _ H3.out.1 H3.out.2.size).mono ?_
          rintro e w4 ⟨rfl, hb4⟩
          go_wp2
          go_ret
          exact ⟨rfl, H3.out.2.trans hb4⟩
end Go.Proofs.YtdjkemodlbbmaaaDoor
