/- The statement that an object within an object has the fields of the inner one, the name before theirs. -/
import Derived.Test.YtdjkemodlbbmaaaDoorJsM
namespace Go.Proofs.YtdjkemodlbbmaaaDoor
open Go.RowKit

set_option maxRecDepth 100000 in
set_option maxHeartbeats 16000000 in
theorem law_nests (v : Value) (c : UInt8) (l : List UInt8) (w : World) (hA : ArgB w w.heap.size v l) :
    Calls Tryd.prog 6 #[v, .int .u8 c.toNat] w fun e w' => e = .returned (.bool true) ∧ Below w.heap.size w w' := by
  have HA := Lib.hid hA
  clear hA
  obtain ⟨n, hn⟩ : ∃ n, c.toNat = n := ⟨_, rfl⟩
  have hn2 : n < 256 := by rw [← hn]; exact c.toNat_lt
  rw [hn]
  clear hn
  obtain ⟨k, hk⟩ : ∃ k, 1 + n % 9 = k := ⟨_, rfl⟩
  have hk1 : 1 ≤ k := by omega
  have hk9 : k ≤ 9 := by omega
  have hki : 1 + (n : Int) % 9 = (k : Int) := by omega
  clear hk
  go_enter Tryd.func6, Tryd.ntmps6
  go_wp2_with fail
  refine (awake11_any _).mono ?_
  rintro e w1 ⟨rfl, hb1⟩
  have HB1 := Lib.hid hb1
  clear hb1
  go_wp2_with fail
  refine (new_any _ l 80 w1 (HA.out.below HB1.out) (by omega)).mono ?_
  rintro e w2 ⟨rfl, hm2, hb2⟩
  obtain ⟨C, hC⟩ : ∃ C, w1.heap.size = C := ⟨_, rfl⟩
  have hwC : w.heap.size ≤ C := by rw [← hC]; exact HB1.out.size
  rw [hC] at hm2
  rw [hC]
  have H2 := Lib.hid (And.intro hm2 (And.intro (bel_trans HB1.out hb2) hwC))
  clear hm2 hb2 hC hwC
  go_wp2_with fail
  refine (objmk_any C w2 H2.out.1).mono ?_
  rintro e w3 ⟨⟨s, rfl, m, d, hd, hf, hs, hsz⟩, hm3, hf3⟩
  have H3 := Lib.hid (And.intro hf (And.intro hs (H2.out.2.1.trans ((hf3.toBelow (Nat.le_of_lt H2.out.1.lt)).mono H2.out.2.2))))
  have hml : m.length + d ≤ 300 := by
    have h1 := congrArg List.length hs
    rw [size_b] at h1
    simp only [List.length_cons, List.length_append, brs, List.length_replicate] at h1
    omega
  clear hf hs hm3 hf3
  have HJ1 := Lib.hid (json_nst s w3 m d 0 H3.out.2.1 H3.out.1 (by simp only [List.length_append, brs, List.length_replicate]; omega) (by omega) (by rw [ntl_len]; omega))
  go_wp2_with fail
  refine (HJ1.out).mono ?_
  rintro e w4 ⟨hj1, hb4⟩
  obtain ⟨v1, c1, rfl⟩ := hj1.ret
  have H4 := Lib.hid (And.intro hj1 (bel_trans H3.out.2.2 hb4))
  clear hj1 hb4
  have HS0 := Lib.hid (show s.data.toList = 123 :: ntl m (d + 0) 0 from H3.out.2.1)
  go_wp2
  go_loop [9, 10, 11] (fun a b z => ∃ (i : Nat) (x y : ByteArray), i ≤ k ∧ z = .int .i64 i ∧ a = .string x ∧ b = .string y ∧ x.data.toList = 123 :: ntl m (d + i) i ∧ y.data.toList = pfB i ∧ x.size ≤ 300 + 6 * i ∧ y.size ≤ 2 * i) (fun _ _ z => k - (intOf z).toNat)
  case atStart => exact ⟨0, s, ⟨#[]⟩, Nat.zero_le _, rfl, rfl, rfl, HS0.out, rfl, hsz, Nat.zero_le _⟩
  case round =>
    obtain ⟨i, x, y, hik, rfl, rfl, rfl, hx, hy, hxs, hys⟩ := hrel
    have HX := Lib.hid (And.intro hx hy)
    clear hx hy
    by_cases hlt : i < k
    · have hxs2 : x.size ≤ 354 := by omega
      have hys2 : y.size ≤ 18 := by omega
      go_wp2
      go_round
      case rel =>
        refine ⟨i + 1, _, _, by omega, by go_num, rfl, rfl, ?_, ?_, ?_, ?_⟩
        · rw [ByteArray.data_append, ByteArray.data_append, Array.toList_append, Array.toList_append, HX.out.1, ← Nat.add_assoc, ← ntl_step]
          rfl
        · rw [ByteArray.data_append, Array.toList_append, HX.out.2, ← pfB_snoc]
        · rw [ByteArray.size_append, ByteArray.size_append]
          show 5 + x.size + 1 ≤ _
          omega
        · rw [ByteArray.size_append]
          show y.size + 2 ≤ _
          omega
      case measure => simp [intOf]; omega
    · obtain rfl : i = k := by omega
      obtain rfl : y = preB i := ext_b HX.out.2
      have HJ2 := Lib.hid (json_nst x w4 m (d + i) i HX.out.1 H3.out.1 (by simp only [List.length_append, brs, List.length_replicate]; omega) (by omega) (by rw [ntl_len]; omega))
      go_wp2_with fail
      refine (HJ2.out).mono ?_
      rintro e w5 ⟨hj2, hb5⟩
      obtain ⟨v2, c2, rfl⟩ := hj2.ret
      have hN := nest_comb m d i H3.out.1 hk9 v1 v2 c1 c2 w4 w5 H4.out.1 hj2 hb5
      have H5 := Lib.hid (bel_trans H4.out.2 hb5)
      clear hj2 hb5
      rcases hN with ⟨z1, z2⟩ | ⟨rfl, z2, rfl⟩ | ⟨rfl, z2, rfl⟩ | ⟨rfl, z2, rfl, S, hS, hS0, hS1, hS2⟩
      · have u1 : ((c1 : Int) != 0) = true := by simp; omega
        by_cases h6 : c1 = 6
        · subst h6
          go_wp2
          go_ret
          exact ⟨rfl, H5.out⟩
        · have u2 : ((c1 : Int) == 6) = false := by rw [beq_eq_false_iff_ne]; omega
          have u3 : ((c2 : Int) != 0) = true := by
            have : c2 ≠ 0 := z2.resolve_left h6
            simp; omega
          clear z2 z1
          go_wp2
          go_ret
          exact ⟨rfl, H5.out⟩
      · go_wp2
        go_ret
        exact ⟨rfl, H5.out⟩
      · go_wp2
        go_ret
        exact ⟨rfl, H5.out⟩
      · obtain ⟨a1, cc1, rfl⟩ := hS1.slice
        obtain ⟨a2, cc2, rfl⟩ := hS2.slice
        obtain ⟨N, hNl⟩ : ∃ N, S.length = N := ⟨_, rfl⟩
        have hNl2 : (S.map (gPre i)).length = N := by rw [List.length_map, hNl]
        rw [hNl] at hS
        have HF := Lib.hid (And.intro hS1 (And.intro hS2 (And.intro hNl (And.intro hNl2 hS0))))
        rw [hNl, hNl2]
        clear hS1 hS2 hNl hNl2 hS0
        go_wp2
        go_loopw [68] (fun z wr => ∃ j : Nat, j ≤ N ∧ z = .int .i64 j ∧ Below w5.heap.size w5 wr) (fun z _ => N - (intOf z).toNat)
        case atStart => exact ⟨0, by omega, rfl, Below.refl _ _⟩
        case round =>
          obtain ⟨j, hj, rfl, hbr⟩ := hrel
          by_cases hlt : j < N
          · have hkL : j < S.length := by rw [HF.out.2.2.1]; exact hlt
            have hkL2 : j < (S.map (gPre i)).length := by rw [HF.out.2.2.2.1]; exact hlt
            obtain ⟨g1, o1, rfl, e1, e1', hg1⟩ := HF.out.1.cell hkL
            obtain ⟨g2, o2, rfl, e2, e2', hg2⟩ := HF.out.2.1.cell hkL2
            have e1 := (hbr.cell (p := ⟨g1, o1 + j * 2, none⟩) hg1).trans e1
            have e2 := (hbr.cell (p := ⟨g2, o2 + j * 2, none⟩) hg2).trans e2
            have e1' := (hbr.cell (p := ⟨g1, o1 + j * 2 + 1, none⟩) hg1).trans e1'
            have e2' := (hbr.cell (p := ⟨g2, o2 + j * 2 + 1, none⟩) hg2).trans e2'
            rw [List.getElem_map] at e2 e2'
            simp only [gPre] at e2 e2'
            obtain ⟨p1, hp1⟩ : ∃ x : ByteArray, S[j].1 = x := ⟨_, rfl⟩
            have hps : p1.size ≤ 32 := by rw [← hp1]; exact HF.out.2.2.2.2 _ (List.getElem_mem _)
            have hpre : (preB i ++ p1).size ≤ 100 := by rw [ByteArray.size_append]; omega
            obtain ⟨p2, hp2⟩ : ∃ x : ByteArray, S[j].2 = x := ⟨_, rfl⟩
            rw [hp1] at e1 e2
            rw [hp2] at e1' e2'
            have HB := Lib.hid hbr
            clear hp1 hbr hp2
            go_wp2_with fail
            go_quiet (fail)
            go_wp2
            go_roundw
            case rel => exact ⟨j + 1, by omega, by go_num, below_drewN HB.out _⟩
            case measure => simp [intOf]; omega
          · obtain rfl : j = N := by omega
            go_wp2
            go_ret
            exact ⟨rfl, bel_trans H5.out hbr⟩
end Go.Proofs.YtdjkemodlbbmaaaDoor
