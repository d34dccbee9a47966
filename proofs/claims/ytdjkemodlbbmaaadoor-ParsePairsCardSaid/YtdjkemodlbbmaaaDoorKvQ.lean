/- The statement that fields that are quoted and joined are split again. -/
import Derived.Test.YtdjkemodlbbmaaaDoorKvN
import Derived.Test.YtdjkemodlbbmaaaDoorKvJ
namespace Go.Proofs.YtdjkemodlbbmaaaDoor
open Go.RowKit

theorem sliceStr (s : ByteArray) (k m : Nat) (h1 : k ≤ m + 1) (h2 : m < s.size) (W : World) :
    (Instr.slice 9 (.string s) (some (.int .i64 (k : Int))) (some (.int .i64 ((m : Int) + 1))) none).run Tryd.prog W = .ok (.string (s.extract k (m + 1))) W := by
  have e2 : ((m : Int) + 1).toNat = m + 1 := by omega
  have u := run_underlying Tryd.underlying9
  simp [go_sem, Instr.slice, u, e2]
  rw [if_pos ⟨by omega, by omega⟩, if_pos h1]
theorem joinE_len (c : UInt8) (p : Bool) : ∀ L : List (List UInt8), L.length ≤ (joinE c p L).length + 1
  | [] => by simp
  | [x] => by simp
  | x :: y :: r => by
    have := joinE_len c p (y :: r)
    simp only [joinE, List.length_append, List.length_cons] at this ⊢
    omega
theorem fldE_len (c : UInt8) (p : Bool) (x : List UInt8) : (fldE c p x).length ≤ 2 * x.length + 2 := by
  unfold fldE
  have := dbl_len x
  split
  · simp only [List.length_cons, List.length_append, List.length_nil]; omega
  · omega
theorem take_b (s : ByteArray) (k : Nat) (h : k < s.size) : s.data.toList.take (k + 1) = s.data.toList.take k ++ [s[k]] := by
  rw [List.take_succ_eq_append_getElem (by rw [size_b]; exact h)]; rfl
/-- The string so far: the first k fields. -/
def joinK (c : UInt8) (p : Bool) (L : List ByteArray) (k : Nat) : List UInt8 := joinE c p ((L.take k).map (·.data.toList))
theorem joinK_zero (c : UInt8) (p : Bool) (L : List ByteArray) : joinK c p L 0 = [] := rfl
theorem joinK_succ (c : UInt8) (p : Bool) (L : List ByteArray) (k : Nat) (h : k < L.length) : joinK c p L (k + 1) = joinK c p L k ++ ((if 0 < k then [c] else []) ++ fldE c p L[k].data.toList) := by
  unfold joinK
  rw [List.take_succ_eq_append_getElem h, List.map_append]
  by_cases h0 : k = 0
  · subst h0
    simp [joinE]
  · rw [show ([L[k]].map (·.data.toList)) = [L[k].data.toList] from rfl, joinE_snoc c p _ _ (by
      intro e
      have := congrArg List.length e
      rw [List.length_map, List.length_take, List.length_nil] at this
      omega), if_pos (by omega)]
    rfl
set_option maxRecDepth 100000 in
set_option maxHeartbeats 4000000 in
theorem quotes_none (v : Value) (c p : UInt8) (L : List ByteArray) (w : World) (h : StI w v L) (hb : L.length = 0) :
    Calls Tryd.prog 4 #[v, .int .u8 c.toNat, .int .u8 p.toNat] w fun e w' => e = .returned (.bool true) ∧ Below w.heap.size w w' := by
  obtain ⟨av, cv, rfl⟩ := h.slice
  obtain ⟨n, hn⟩ : ∃ n, L.length = n := ⟨_, rfl⟩
  rw [hn] at hb ⊢
  clear h hn
  subst hb
  go_enter Tryd.func4, Tryd.ntmps4
  go_wp2_with fail
  refine (awake11_any _).mono ?_
  rintro e w1 ⟨rfl, hb1⟩
  go_wp2
  go_ret
  exact ⟨rfl, hb1⟩
set_option maxRecDepth 100000 in
set_option maxHeartbeats 4000000 in
theorem quotes_many (v : Value) (c p : UInt8) (L : List ByteArray) (w : World) (h : StI w v L) (hb : 20 < L.length) :
    Calls Tryd.prog 4 #[v, .int .u8 c.toNat, .int .u8 p.toNat] w fun e w' => e = .returned (.bool true) ∧ Below w.heap.size w w' := by
  obtain ⟨av, cv, rfl⟩ := h.slice
  obtain ⟨n, hn⟩ : ∃ n, L.length = n := ⟨_, rfl⟩
  rw [hn] at hb ⊢
  clear h hn
  have hb0 : ¬ n = 0 := by omega
  go_enter Tryd.func4, Tryd.ntmps4
  go_wp2_with fail
  refine (awake11_any _).mono ?_
  rintro e w1 ⟨rfl, hb1⟩
  go_wp2
  go_ret
  exact ⟨rfl, hb1⟩
set_option maxRecDepth 100000 in
set_option maxHeartbeats 4000000 in
theorem quotes_q (v : Value) (c p : UInt8) (L : List ByteArray) (w : World) (h : StI w v L) (hb : ¬ L.length = 0 ∧ ¬ 20 < L.length ∧ c = 34) :
    Calls Tryd.prog 4 #[v, .int .u8 c.toNat, .int .u8 p.toNat] w fun e w' => e = .returned (.bool true) ∧ Below w.heap.size w w' := by
  obtain ⟨av, cv, rfl⟩ := h.slice
  obtain ⟨n, hn⟩ : ∃ n, L.length = n := ⟨_, rfl⟩
  rw [hn] at hb ⊢
  clear h hn
  obtain ⟨hb0, hb20, rfl⟩ := hb
  go_enter Tryd.func4, Tryd.ntmps4
  go_wp2_with fail
  refine (awake11_any _).mono ?_
  rintro e w1 ⟨rfl, hb1⟩
  go_wp2
  go_ret
  exact ⟨rfl, hb1⟩
set_option maxRecDepth 100000 in
set_option maxHeartbeats 4000000 in
theorem quotes_n (v : Value) (c p : UInt8) (L : List ByteArray) (w : World) (h : StI w v L) (hb : ¬ L.length = 0 ∧ ¬ 20 < L.length ∧ c = 10) :
    Calls Tryd.prog 4 #[v, .int .u8 c.toNat, .int .u8 p.toNat] w fun e w' => e = .returned (.bool true) ∧ Below w.heap.size w w' := by
  obtain ⟨av, cv, rfl⟩ := h.slice
  obtain ⟨n, hn⟩ : ∃ n, L.length = n := ⟨_, rfl⟩
  rw [hn] at hb ⊢
  clear h hn
  obtain ⟨hb0, hb20, rfl⟩ := hb
  go_enter Tryd.func4, Tryd.ntmps4
  go_wp2_with fail
  refine (awake11_any _).mono ?_
  rintro e w1 ⟨rfl, hb1⟩
  go_wp2
  go_ret
  exact ⟨rfl, hb1⟩
set_option maxRecDepth 100000 in
set_option maxHeartbeats 4000000 in
theorem quotes_r (v : Value) (c p : UInt8) (L : List ByteArray) (w : World) (h : StI w v L) (hb : ¬ L.length = 0 ∧ ¬ 20 < L.length ∧ c = 13) :
    Calls Tryd.prog 4 #[v, .int .u8 c.toNat, .int .u8 p.toNat] w fun e w' => e = .returned (.bool true) ∧ Below w.heap.size w w' := by
  obtain ⟨av, cv, rfl⟩ := h.slice
  obtain ⟨n, hn⟩ : ∃ n, L.length = n := ⟨_, rfl⟩
  rw [hn] at hb ⊢
  clear h hn
  obtain ⟨hb0, hb20, rfl⟩ := hb
  go_enter Tryd.func4, Tryd.ntmps4
  go_wp2_with fail
  refine (awake11_any _).mono ?_
  rintro e w1 ⟨rfl, hb1⟩
  go_wp2
  go_ret
  exact ⟨rfl, hb1⟩
set_option maxRecDepth 100000 in
set_option maxHeartbeats 8000000 in
theorem quotes_main (v : Value) (c p : UInt8) (L : List ByteArray) (w : World) (h : StI w v L) (h0 : ¬ L.length = 0) (h20 : ¬ 20 < L.length) (hc : sepBad c = false) :
    Calls Tryd.prog 4 #[v, .int .u8 c.toNat, .int .u8 p.toNat] w fun e w' => e = .returned (.bool true) ∧ Below w.heap.size w w' := by
  obtain ⟨av, cv, rfl⟩ := h.slice
  obtain ⟨n, hn⟩ : ∃ n, L.length = n := ⟨_, rfl⟩
  rw [hn] at h0 h20 ⊢
  have HN := Lib.hid hn
  have HV := Lib.hid h
  have HC := Lib.hid hc
  unfold sepBad at hc
  rw [Bool.or_eq_false_iff, Bool.or_eq_false_iff] at hc
  have hc34 := Lib.hid (beq_eq_false_iff_ne.1 hc.1.1)
  have t1 : ((c.toNat : Int) == 34) = false := by
    rw [beq_eq_false_iff_ne]; intro q
    exact (beq_eq_false_iff_ne.1 hc.1.1) (UInt8.toNat_inj.1 (by simpa using (by omega : c.toNat = 34)))
  have t2 : ((c.toNat : Int) == 10) = false := by
    rw [beq_eq_false_iff_ne]; intro q
    exact (beq_eq_false_iff_ne.1 hc.1.2) (UInt8.toNat_inj.1 (by simpa using (by omega : c.toNat = 10)))
  have t3 : ((c.toNat : Int) == 13) = false := by
    rw [beq_eq_false_iff_ne]; intro q
    exact (beq_eq_false_iff_ne.1 hc.2) (UInt8.toNat_inj.1 (by simpa using (by omega : c.toNat = 13)))
  obtain ⟨pb, hpb⟩ : ∃ pb, decide (p.toNat % 2 = 0) = pb := ⟨_, rfl⟩
  have HPB := Lib.hid hpb
  have z1 : ((n : Int) == 0) = false := by rw [beq_eq_false_iff_ne]; omega
  have z2 : decide ((20 : Int) < (n : Int)) = false := by rw [decide_eq_false_iff_not]; omega
  clear hc h hn hpb
  go_enter Tryd.func4, Tryd.ntmps4
  go_wp2_with fail
  refine (awake11_any _).mono ?_
  rintro e w1 ⟨rfl, hb1⟩
  have HB1 := Lib.hid hb1
  clear hb1
  go_wp2
  go_loopw [7, 39] (fun a b wr => ∃ (k : Nat) (s : ByteArray), k ≤ n ∧ b = .int .i64 k ∧ a = .string s ∧ s.size ≤ k * 124 ∧ s.data.toList = joinK c pb L k ∧ Below w.heap.size w wr) (fun _ b _ => n - (intOf b).toNat)
  case atStart => exact ⟨0, ⟨#[]⟩, Nat.zero_le _, rfl, rfl, Nat.zero_le _, rfl, HB1.out⟩
  case round =>
    obtain ⟨k, s, hk, rfl, rfl, hss, hsd, hbl⟩ := hrel
    have HS := Lib.hid (And.intro hsd hbl)
    clear hsd hbl
    have hssz : s.size ≤ 2480 := by omega
    by_cases hkn : k < n
    · have hkL : k < L.length := by rw [HN.out]; exact hkn
      obtain ⟨g, o, rfl, hcell, hg⟩ := HV.out.cell hkL
      have hcw := (HS.out.2.cell (p := ⟨g, o + k, none⟩) hg).trans hcell
      obtain ⟨x, hx⟩ : ∃ x, L[k] = x := ⟨_, rfl⟩
      rw [hx] at hcw
      have hxl : L[k].data.toList = x.data.toList := by rw [hx]
      have HX := Lib.hid hxl
      clear hcell hx hxl
      by_cases h60 : 60 < x.size
      · go_wp2
        go_ret
        exact ⟨rfl, HS.out.2⟩
      · have hcv : ∀ W : World, (convert 23 9 (.slice (some ⟨W.heap.size, 0, none⟩) 1 1)).run Tryd.prog (W.alloc (.cells #[.int .u8 (c.toNat : Int)] 5)) = .ok (.string ⟨#[c]⟩) (W.alloc (.cells #[.int .u8 (c.toNat : Int)] 5)) := fun W =>
          run_convert_bytes_back _ 23 9 5 ⟨W.heap.size, 0, none⟩ 1 [c] Tryd.underlying23 Tryd.underlying5 Tryd.underlying9 (fun j hj => by
            obtain rfl : j = 0 := by simpa using hj
            simp [Addr.add])
        by_cases hk0 : 0 < k
        all_goals
          go_wp2
          go_loop [10, 11, 12] (fun a b d => ∃ (j : Nat) (q : ByteArray) (sp : Bool), j ≤ x.size ∧ d = .int .i64 j ∧ a = .string q ∧ b = .bool sp ∧ q.data.toList = dbl (x.data.toList.take j) ∧ q.size ≤ 2 * j ∧ sp = spcC c (x.data.toList.take j)) (fun _ _ d => x.size - (intOf d).toNat)
          case atStart => exact ⟨0, ⟨#[]⟩, false, Nat.zero_le _, rfl, rfl, rfl, rfl, Nat.zero_le _, rfl⟩
          case round =>
            obtain ⟨j, q, sp, hj, rfl, rfl, rfl, hqd, hqs, hsp⟩ := hrel
            have HQ := Lib.hid (And.intro hqd hsp)
            clear hqd hsp
            have hqs2 : q.size ≤ 120 := by omega
            by_cases hjx : j < x.size
            · have hsl := fun W => sliceStr x j j (by omega) hjx W
              have HT := Lib.hid (take_b x j hjx)
              have hxe : (x.extract j (j + 1)).data.toList = [x[j]] := by
                rw [extract_b, take_b x j hjx, List.drop_left' (by rw [List.length_take, size_b]; omega)]
              have hxs : (x.extract j (j + 1)).size = 1 := by rw [← size_b, hxe]; rfl
              obtain ⟨y, hy⟩ : ∃ y, x.extract j (j + 1) = y := ⟨_, rfl⟩
              rw [hy] at hsl hxe hxs
              have HY := Lib.hid (And.intro hxe hxs)
              have hys : y.size ≤ 1 := by omega
              clear hy hxe hxs
              by_cases h34 : x[j] = 34
              · have u1 : ((x[j].toNat : Int) == 34) = true := by rw [h34]; rfl
                have HXJ := Lib.hid h34
                clear h34
                cases sp
                all_goals
                  go_wp2
                  go_round
                  case rel =>
                    refine ⟨j + 1, _, true, by omega, by go_num, rfl, rfl, ?_, ?_, ?_⟩
                    · rw [HT.out, dbl_app, HXJ.out, ByteArray.data_append, ByteArray.data_append, Array.toList_append, Array.toList_append, HY.out.1, HQ.out.1, HXJ.out]
                      simp [dbl]
                    · rw [ByteArray.size_append, ByteArray.size_append, HY.out.2]
                      show q.size + 1 + 1 ≤ _
                      omega
                    · rw [HT.out, HXJ.out]
                      simp [spcC]
                  case measure => simp [intOf]; omega
              · have u1 : ((x[j].toNat : Int) == 34) = false := by
                  rw [beq_eq_false_iff_ne]; intro z
                  exact h34 (UInt8.toNat_inj.1 (by simpa using (by omega : x[j].toNat = 34)))
                have HXJ := Lib.hid h34
                clear h34
                cases hspx : sp with
                | true =>
                  subst hspx
                  go_wp2
                  go_round
                  case rel =>
                    refine ⟨j + 1, _, true, by omega, by go_num, rfl, rfl, ?_, ?_, ?_⟩
                    · rw [HT.out, dbl_app, ByteArray.data_append, Array.toList_append, HY.out.1, HQ.out.1]
                      simp [dbl, HXJ.out]
                    · rw [ByteArray.size_append, HY.out.2]
                      omega
                    · rw [HT.out]
                      have := HQ.out.2
                      unfold spcC at this ⊢
                      rw [List.any_append, ← this]
                      rfl
                  case measure => simp [intOf]; omega
                | false =>
                  subst hspx
                  cases hxc : (x[j] == c)
                  all_goals
                    first
                      | (have u2 : ((x[j].toNat : Int) == (c.toNat : Int)) = true := by rw [eq_of_beq hxc]; simp)
                      | (have u2 : ((x[j].toNat : Int) == (c.toNat : Int)) = false := by
                          rw [beq_eq_false_iff_ne]; intro z
                          have := UInt8.toNat_inj.1 (by omega : x[j].toNat = c.toNat)
                          rw [this] at hxc
                          simp at hxc)
                    have HXC := Lib.hid hxc
                    clear hxc
                    go_wp2
                    go_round
                    case rel =>
                      refine ⟨j + 1, _, _, by omega, by go_num, rfl, rfl, ?_, ?_, ?_⟩
                      · rw [HT.out, dbl_app, ByteArray.data_append, Array.toList_append, HY.out.1, HQ.out.1]
                        simp [dbl, HXJ.out]
                      · rw [ByteArray.size_append, HY.out.2]
                        omega
                      · rw [HT.out]
                        have := HQ.out.2
                        unfold spcC at this ⊢
                        rw [List.any_append, ← this]
                        simp only [List.any_cons, List.any_nil, HXC.out, beq_eq_false_iff_ne.2 HXJ.out]
                        rfl
                    case measure => simp [intOf]; omega
            · have hje : j = x.size := by omega
              have hQ1 : q.data.toList = dbl x.data.toList := by
                rw [HQ.out.1, hje, List.take_of_length_le (by rw [size_b]; exact Nat.le_refl _)]
              have hQ2 : sp = spcC c x.data.toList := by
                rw [HQ.out.2, hje, List.take_of_length_le (by rw [size_b]; exact Nat.le_refl _)]
              have hm1 : (Int.tmod (p.toNat : Int) 2 == 0) = pb := by
                rw [← HPB.out, Bool.eq_iff_iff, beq_iff_eq, decide_eq_true_iff, Int.tmod_eq_emod_of_nonneg (by omega)]
                omega
              have hm2 : ((p.toNat : Int) % 2 == 0) = pb := by
                rw [← HPB.out, Bool.eq_iff_iff, beq_iff_eq, decide_eq_true_iff]
                omega
              have hE : fldE c pb x.data.toList = if sp || pb then 34 :: (q.data.toList ++ [34]) else x.data.toList := by
                unfold fldE; rw [← hQ2, ← hQ1]
              have HE := Lib.hid hE
              have HJ := Lib.hid (show joinK c pb L (k + 1) = s.data.toList ++ ((if 0 < k then [c] else []) ++ fldE c pb x.data.toList) by rw [joinK_succ c pb L k hkL, HS.out.1, HX.out])
              clear hQ1 hQ2 hE hje
              cases sp
              all_goals
                cases pb
                all_goals
                  go_wp2
                  go_roundw
                  case rel =>
                    refine ⟨k + 1, _, by omega, by go_num, rfl, ?_, ?_, ?_⟩
                    · repeat rw [ByteArray.size_append]
                      try simp only [show (⟨#[c]⟩ : ByteArray).size = 1 from rfl, show (⟨#[34]⟩ : ByteArray).size = 1 from rfl]
                      omega
                    · rw [HJ.out, HE.out]
                      repeat rw [ByteArray.data_append, Array.toList_append]
                      first | rw [if_pos hk0] | rw [if_neg hk0]
                      simp
                    · first | exact HS.out.2.alloc HS.out.2.size _ | exact HS.out.2
                  case measure => simp [intOf]; omega
    · obtain rfl : k = n := by omega
      have hL0 : L ≠ [] := fun e => h0 (by rw [← HN.out, e]; rfl)
      have hDL : dlF c (s.size + 1) [] s.data.toList = some L := by
        rw [HS.out.1, ← size_b, HS.out.1]
        unfold joinK
        rw [List.take_of_length_le (by rw [HN.out]; exact Nat.le_refl _)]
        have hl := joinE_len c pb (L.map (·.data.toList))
        rw [List.length_map] at hl
        exact (dl_join c pb hc34.out L _ [] hL0 (by rw [HN.out]; simp; omega) (by omega)).trans (by simp)
      have hD := fun W => dl_any s c W (by omega) HC.out
      rw [hDL] at hD
      have hD2 : ∀ W, Calls Tryd.prog 17 #[.string s, .int .u8 c.toNat] W fun e w' => (∃ v, e = .returned (.tuple #[v, .int .i64 0]) ∧ StI w' v L) ∧ Below W.heap.size W w' := fun W => (hD W).mono fun e w' h => ⟨by
        have := h.1
        unfold DlOut at this
        simp only [] at this
        rw [if_neg (by rw [HN.out]; omega)] at this
        exact this, h.2⟩
      have HD := Lib.hid hD2
      clear hDL hD hD2 hL0
      go_wp2_with fail
      refine (HD.out _).mono ?_
      rintro e w2 ⟨⟨v2, rfl, hv2⟩, hb2⟩
      have hbw := bel_trans HS.out.2 hb2
      have hsame := sameS_any (.slice av L.length cv) v2 L (by rw [HN.out]; omega) w2 (HV.out.below hbw) hv2
      rw [HN.out] at hsame
      have HSM := Lib.hid hsame
      have HBW := Lib.hid hbw
      clear hv2 hb2 hbw hsame
      go_wp2_with fail
      refine (HSM.out).mono ?_
      rintro e w3 ⟨rfl, hb3⟩
      have HB3 := Lib.hid hb3
      clear hb3
      go_wp2
      go_ret
      exact ⟨rfl, bel_trans HBW.out HB3.out⟩
theorem law_quotes (v : Value) (c p : UInt8) (L : List ByteArray) (w : World) (h : StI w v L) :
    Calls Tryd.prog 4 #[v, .int .u8 c.toNat, .int .u8 p.toNat] w fun e w' => e = .returned (.bool true) ∧ Below w.heap.size w w' := by
  by_cases h0 : L.length = 0
  · exact quotes_none v c p L w h h0
  · by_cases h20 : 20 < L.length
    · exact quotes_many v c p L w h h20
    · by_cases h34 : c = 34
      · exact quotes_q v c p L w h ⟨h0, h20, h34⟩
      · by_cases h10 : c = 10
        · exact quotes_n v c p L w h ⟨h0, h20, h10⟩
        · by_cases h13 : c = 13
          · exact quotes_r v c p L w h ⟨h0, h20, h13⟩
          · refine quotes_main v c p L w h h0 h20 ?_
            unfold sepBad
            rw [beq_eq_false_iff_ne.2 h34, beq_eq_false_iff_ne.2 h10, beq_eq_false_iff_ne.2 h13]
            rfl
end Go.Proofs.YtdjkemodlbbmaaaDoor
