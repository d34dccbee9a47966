/- FingerprintPremise: the law. -/
import Derived.Test.YtfihnmfbgdjkpaaFpC
namespace Go.Proofs.Ytfihnmfbgdjkpaa
open Go.RowKit

set_option maxRecDepth 100000 in
set_option linter.unusedSimpArgs false in
set_option maxHeartbeats 8000000 in
theorem law_premise (cv : Value) (lc : List UInt8) (ct sz : Nat) (w : World) (hc : ArgB w w.heap.size cv lc) (hct : ct < 256) (hsz : sz < 256) :
    Calls Try.prog 8 #[cv, .int .u8 (ct : Int), .int .u8 (sz : Int)] w fun e w' => e = .returned (.bool true) ∧ Below w.heap.size w w' := by
  have haw := awake8_any w
  have H := Lib.hid (And.intro hc haw)
  obtain ⟨ca, cn, cc, rfl⟩ : ∃ a n c, cv = .slice a n c := by
    rcases hc with ⟨rfl, -⟩ | ⟨ad, cap, rfl, -⟩
    · exact ⟨_, _, _, rfl⟩
    · exact ⟨_, _, _, rfl⟩
  clear hc haw
  have z1 : (sz : Int) ≤ 255 := by omega
  have c1 : (ct : Int) ≤ 255 := by omega
  obtain ⟨k, hk, hk1, hk2⟩ : ∃ k : Nat, (1 : Int) + (sz : Int) % 12 = (k : Int) ∧ 1 ≤ k ∧ k ≤ 12 := ⟨1 + sz % 12, by omega, by omega, by omega⟩
  have HK := Lib.hid hk
  clear hk
  go_enter Try.func8, Try.ntmps8
  go_wp2_with fail
  refine (H.out.2).mono ?_
  rintro e w1 ⟨rfl, hb1⟩
  have HA := Lib.hid (And.intro ((byS_arg H.out.1).below hb1) (And.intro (H.out.1) hb1))
  clear hb1
  go_wp2_with fail
  rw [HK.out]
  refine (new_any _ lc 60 w1 (HA.out.2.1.below HA.out.2.2) (by omega)).mono ?_
  rintro e w2 ⟨rfl, hm, hb2⟩
  obtain ⟨C, hC⟩ : ∃ C, w1.heap.size = C := ⟨_, rfl⟩
  rw [hC] at hm
  have HC := Lib.hid (And.intro hm (And.intro hb2 hC))
  clear hm hb2
  simp only [hC]
  clear hC
  go_wp2_with fail
  refine (data_any C (sz : Int) 3 w2 HC.out.1 (by omega) (by omega) (by omega) (by omega)).mono ?_
  rintro e w4 ⟨⟨v, L, rfl, hbuf, ⟨l, rfl⟩, h15, hL⟩, hm4, hf4⟩
  rw [List.length_map] at h15 hL
  have hS := byS_buf hbuf
  have h2 : Below w1.heap.size w1 w4 := by
    have h4 := HC.out.2.2
    have h5 := HC.out.2.1
    exact h5.trans ((hf4.toBelow (by have := HC.out.1.lt; omega)).mono (by omega))
  have hbw : Below w.heap.size w w4 := bl_trans' HA.out.2.2 h2
  obtain ⟨va, vc, rfl, hvc⟩ := hS.slice
  obtain ⟨g, o, rfl⟩ : ∃ g o, va = some ⟨g, o, none⟩ := by
    obtain ⟨a, c, e, -, hx⟩ := hS
    cases e
    obtain ⟨g, o, h, -⟩ := hx 0 (by omega)
    exact ⟨g, o, h⟩
  obtain ⟨n, hn, hnL⟩ : ∃ n : Nat, (ct : Int) % ((l.length : Int) + 1) = (n : Int) ∧ n ≤ l.length := ⟨ct % (l.length + 1), by push_cast; rfl, by have := Nat.mod_lt ct (show 0 < l.length + 1 by omega); omega⟩
  obtain ⟨m, hm, hmL, hmk, hmn⟩ : ∃ m : Nat, max (n : Int) (k : Int) = (m : Int) ∧ m ≤ l.length ∧ k ≤ m ∧ n ≤ m := ⟨max n k, by omega, by omega, by omega, by omega⟩
  have HE := Lib.hid (And.intro hS (And.intro hbw (And.intro hn hm)))
  clear hS hbw h2 hm4 hf4 hbuf HC HA H hn hm
  obtain ⟨N, hN⟩ : ∃ N, l.length = N := ⟨_, rfl⟩
  rw [hN] at HE hvc h15 hL hnL hmL ⊢
  have HN := Lib.hid hN
  clear hN
  go_upto_region 6 with (fail)
  rw [HE.out.2.2.1]
  have hm := HE.out.2.2.2
  have m0 : (0 : Int) ≤ (m : Int) := by omega
  obtain ⟨p, hp, hpl⟩ : ∃ p, l.take m = p ∧ p.length = m := ⟨_, rfl, by rw [List.length_take, HN.out]; omega⟩
  have hT := fun W (hW : Below w4.heap.size w4 W) => ((HE.out.1.below hW).take m (by rw [HN.out]; omega) vc (by omega)).src
  rw [hp, hpl] at hT
  have HT := Lib.hid (And.intro hT (And.intro hp hpl))
  clear hT hp hpl
  go_wp2_with (at_builtin; refine wpList_append_nilS rfl (.const (.slice none 0 0)) (.tmp 33) rfl rfl _ rfl m _ (HT.out.1 _ (Below.refl _ _)) (by omega) (by omega) ?_)
  intro v5 w5 hbuf5 hbl5
  obtain ⟨g5, c5, rfl, hc5⟩ := hbuf5.slice
  rw [byV_len, HT.out.2.2] at hc5 hbuf5
  rw [byV_len, HT.out.2.2]
  have HB5 := Lib.hid (And.intro (hbuf5.below (below_new w5 (.cells #[.int .u8 0] 5))) (And.intro hbl5 (show w4.heap.size ≤ (w5.alloc (.cells #[.int .u8 0] 5)).heap.size by have := hbl5.size; simp; omega)))
  have HS5 := Lib.hid (byS_z w5).src
  clear hbuf5 hbl5
  go_wp2_with (at_builtin; refine wpList_append_bufS rfl (.tmp 34) (.tmp 35) rfl rfl HB5.out.1 HB5.out.2.2 _ rfl 1 _ HS5.out (by rw [byV_len, HT.out.2.2]; omega) ?_)
  intro v6 w6 hbuf6 q6 hq6 hg6
  rw [byV_app] at hbuf6
  have hb6 := bl_buf (bl_trans' HB5.out.2.1 (below_new w5 (.cells #[.int .u8 0] 5))) ⟨q6, hq6, hg6⟩
  obtain ⟨g6, c6, rfl, -⟩ := hbuf6.slice
  have hS6 := byS_bufV hbuf6
  have hl6 : (byV (p ++ [(0 : UInt8)])).length = m + 1 := by rw [byV_len, List.length_append, HT.out.2.2]; rfl
  rw [hl6] at hS6
  rw [hl6]
  have HS6 := Lib.hid (And.intro hS6 (And.intro hb6 (HT.out.1 w6 hb6)))
  clear hbuf6 hq6 hg6 hb6 hS6 hl6 HB5 HS5
  go_wp2_with (at_builtin; refine wpList_append_nilS rfl (.const (.slice none 0 0)) (.tmp 41) rfl rfl _ rfl m _ HS6.out.2.2 (by omega) (by omega) ?_)
  intro v7 w7 hbuf7 hbl7
  obtain ⟨g7, c7, rfl, hc7⟩ := hbuf7.slice
  rw [byV_len, HT.out.2.2] at hc7 hbuf7
  rw [byV_len, HT.out.2.2]
  have HB7 := Lib.hid (And.intro (hbuf7.below (below_new w7 (.cells #[.int .u8 1] 5))) (And.intro hbl7 (show w6.heap.size ≤ (w7.alloc (.cells #[.int .u8 1] 5)).heap.size by have := hbl7.size; simp; omega)))
  have HS7 := Lib.hid (byS_e w7).src
  clear hbuf7 hbl7
  go_wp2_with (at_builtin; refine wpList_append_bufS rfl (.tmp 42) (.tmp 43) rfl rfl HB7.out.1 HB7.out.2.2 _ rfl 1 _ HS7.out (by rw [byV_len, HT.out.2.2]; omega) ?_)
  intro v8 w8 hbuf8 q8 hq8 hg8
  rw [byV_app] at hbuf8
  have hb8 := bl_buf (bl_trans' HB7.out.2.1 (below_new w7 (.cells #[.int .u8 1] 5))) ⟨q8, hq8, hg8⟩
  obtain ⟨g8, c8, rfl, -⟩ := hbuf8.slice
  have hS8 := byS_bufV hbuf8
  have hl8 : (byV (p ++ [(1 : UInt8)])).length = m + 1 := by rw [byV_len, List.length_append, HT.out.2.2]; rfl
  rw [hl8] at hS8
  rw [hl8]
  have hd8 := HE.out.1.below (bl_trans' HS6.out.2.1 hb8)
  have hn8 := hd8.take n (by rw [HN.out]; omega) vc (by omega)
  have hx8 := HS6.out.1.below hb8
  have hw8 := bl_trans' HE.out.2.1 (bl_trans' HS6.out.2.1 hb8)
  have hf1 := files3 hd8 hn8 (byS_nil w8)
  have hcall1 := cons_any w8.heap.size 3 3 k [l, l.take n, []] _ rfl (by omega) hf1 hk1 (by omega)
  rw [cons_same l n k (by rw [HN.out]; omega) (by rw [HN.out]; omega) hk1] at hcall1
  have H8 := Lib.hid (And.intro hx8 (And.intro hS8 (And.intro hw8 hcall1)))
  clear hbuf8 hq8 hg8 hb8 hS8 hl8 HB7 HS7 HS6 hd8 hn8 hx8 hw8 hf1 hcall1 hm
  go_wp2_with fail
  refine H8.out.2.2.2.mono ?_
  rintro e w9 ⟨rfl, hb9⟩
  have hb89 := bl_trans' (below_new w8 (.cells #[.slice (some ⟨g, o, none⟩) N vc, .slice (some ⟨g, o, none⟩) n vc, .slice none 0 0] 22)) hb9
  have hf2 := files2 (H8.out.1.below hb89) (H8.out.2.1.below hb89)
  have hcall2 := cons_any w9.heap.size 2 2 k [p ++ [0], p ++ [1]] _ rfl (by omega) hf2 hk1 (by omega)
  rw [cons_part p k (by rw [HT.out.2.2]; omega)] at hcall2
  have H9 := Lib.hid (And.intro (bl_trans' H8.out.2.2.1 hb89) hcall2)
  clear hb9 hb89 hf2 hcall2
  go_wp2_with fail
  refine H9.out.2.mono ?_
  rintro e w10 ⟨rfl, hb10⟩
  have HZ := Lib.hid (bl_trans' H9.out.1 (bl_trans' (below_new _ _) hb10))
  clear hb10
  go_wp2
  go_ret
  exact ⟨rfl, HZ.out⟩
end Go.Proofs.Ytfihnmfbgdjkpaa
