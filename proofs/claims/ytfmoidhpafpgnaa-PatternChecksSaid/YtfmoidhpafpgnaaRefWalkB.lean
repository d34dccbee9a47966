/- The reference's walk at a capture. -/
import Derived.Test.YtfmoidhpafpgnaaRefWalk
namespace Go.Proofs.Ytfmoidhpafpgnaa
open Go.RowKit

set_option maxRecDepth 100000 in
set_option maxHeartbeats 8000000 in
theorem rwalk_cap (op : Int) (rs : List (Nat × Nat)) (nm : ByteArray) (kids : List Nd) (mn mx : Int) (ih : ∀ k ∈ kids, RwOk k) (W0 : World) (v nv : Value) (d : Nat) (w : World) (k : Nat) (L : List ByteArray) (hn : NodeIn 0 W0 (.mk op rs nm kids mn mx) v) (hbw : Below W0.heap.size W0 w) (hnm : NmAt W0.heap.size k L nv w) (hk : k ≤ 400) (hd : d ≤ 21) (h5 : op = 5) (hqk : k < 400) (hqd : d ≤ 20) (hqe : nodeErr op rs nm kids.length mn mx = 0) :
    Calls Try.prog 19 #[v, .int .i64 (d : Int), .int .i64 (k : Int), nv] w fun e w' => ∃ nv', e = .returned (.tuple #[.int .i64 (visN (.mk op rs nm kids mn mx) d (k, L)).2.1, nv', .int .i64 (visN (.mk op rs nm kids mn mx) d (k, L)).1]) ∧ NmAt W0.heap.size (visN (.mk op rs nm kids mn mx) d (k, L)).2.1 (visN (.mk op rs nm kids mn mx) d (k, L)).2.2 nv' w' ∧ NmTo nv nv' w w' := by
  unfold NodeIn at hn
  obtain ⟨rv, ka, kc, rfl, ho, h2, h3, h4, h5', hr, hks⟩ := hn
  have hrk := hr
  obtain ⟨ra, rc, rfl, -⟩ := hrk
  unfold ndVals
  unfold maxLen at h5'
  have hcn := fun W hW => shape_any op ra ka rs rc kids.length kc nm mn mx W hW
  unfold visN
  simp only
  rw [hqe] at hcn ⊢
  have HI := Lib.hid (fun W (hW : Below W0.heap.size W0 W) => hr.keeps (keeps_below (lo := 0) hW))
  have HC := Lib.hid hcn
  clear hcn hr hqe
  have hb1 : Below W0.heap.size W0 (w.alloc (.cells #[.int .i64 op, .slice ra rs.length rc, .string nm, .slice ka kids.length kc, .int .i64 mn, .int .i64 mx] 25)) := hbw.alloc hbw.size _
  have hS1 := NBox.new w (.int .i64 op) (.slice ra rs.length rc) (.string nm) (.slice ka kids.length kc) (.int .i64 mn) (.int .i64 mx)
  have hcall := HC.out _ (HI.out _ hb1)
  have hz0 := hbw.size
  obtain ⟨w1, hw1⟩ : ∃ w1, w1 = w.alloc (.cells #[.int .i64 op, .slice ra rs.length rc, .string nm, .slice ka kids.length kc, .int .i64 mn, .int .i64 mx] 25) := ⟨_, rfl⟩
  have ht1 : NmTo nv nv w w1 := by rw [hw1]; exact NmTo.alloc _ _ _
  have hn1 : NmAt W0.heap.size (k + 1) L nv w1 := by
    have := hnm.kept ((Below.refl w.heap.size w).alloc (Nat.le_refl _) (.cells #[.int .i64 op, .slice ra rs.length rc, .string nm, .slice ka kids.length kc, .int .i64 mn, .int .i64 mx] 25))
    rw [hw1]; exact ⟨this.1, this.2.1, Nat.le_succ_of_le this.2.2⟩
  have hnx : nv.ownBlock ≠ some w.heap.size := fun e => by have := (hnm.own_lt _ e).2; omega
  rw [← hw1] at hS1 hb1
  have hz1 : w1.heap.size = w.heap.size + 1 := by rw [hw1]; simp
  have HA := Lib.hid (And.intro ht1 (And.intro hn1 (And.intro hnx (And.intro hS1 (And.intro hb1 hz1)))))
  have HW1 := Lib.hid hw1
  have HCALL := Lib.hid hcall
  have HKS := Lib.hid hks
  have HIH := Lib.hid ih
  have HNM := Lib.hid hnm
  have HL := Lib.hid hnm.2.2
  obtain ⟨na, nc, rfl⟩ : ∃ na nc, nv = .slice na L.length nc := by
    rcases hnm.1.2 with ⟨hv, h0⟩ | ⟨g, cap, cur, hv, -⟩
    · exact ⟨none, 0, by rw [hv, h0]⟩
    · exact ⟨_, _, hv⟩
  clear hks ih ht1 hn1 hnx hS1 hb1 hw1 hcall HC HI hnm hz1
  rw [if_neg (by omega : ¬ 400 < k + 1)]
  have d1 : decide ((400 : Int) < (k : Int) + 1) = false := by rw [decide_eq_false_iff_not]; omega
  have d2 : decide (400 < k + 1) = false := by rw [decide_eq_false_iff_not]; omega
  rw [if_neg (by omega : ¬ 20 < d)]
  have d3 : decide ((20 : Int) < (d : Int)) = false := by rw [decide_eq_false_iff_not]; omega
  rw [if_neg (by simp)]
  subst h5
  rw [if_pos rfl]
  obtain ⟨goal, hgoal⟩ : ∃ g, visAll kids (d + 1) (k + 1, L ++ [nm]) = g := ⟨_, rfl⟩
  rw [hgoal]
  have HG := Lib.hid hgoal
  clear hgoal
  obtain ⟨i0, hi, hz0', hz1', hz2'⟩ := info_parts infoStr
  go_enter Try.func19, Try.ntmps19
  go_wp2_with fail
  refine (HCALL.out).mono ?_
  rw [← HW1.out]
  rintro e w2 ⟨rfl, hb2⟩
  have ht2 := HA.out.1.trans (NmTo.below hb2)
  have hS2 := HA.out.2.2.2.1.below hb2
  have hn2 := HA.out.2.1.kept hb2
  obtain ⟨c0, c1, c2, c3, c4, c5⟩ := hS2.cells
  have ho2 := hn2.1.alloc (.cells #[.string nm] 9)
  have hzw := hb2.size
  have hz1 := HA.out.2.2.2.2.2
  have hbW2 := HA.out.2.2.2.2.1.trans (hb2.mono HA.out.2.2.2.2.1.size)
  have hLl := HL.out
  have HO := Lib.hid ho2
  have H2 := Lib.hid (And.intro ht2 (And.intro hn2 (And.intro hS2 hbW2)))
  clear ht2 hn2 hS2 ho2 hb2 hbW2
  go_wp2_with (at_builtin; refine wpList_append_own_at _ rfl (.tmp 34) (.tmp 37) 47 rfl W0.heap.size 9 i0 (.string ⟨#[]⟩) 1 16 Try.underlying47 hi hz0' hz1' hz2' rfl (by decide) _ _ _ rfl HO.out ⟨w2.heap.size, 0, none⟩ 1 1 [.string nm] rfl rfl ?c1 ?c2 ?c3 ?c4 ?c5 ?_)
  case c1 => exact new_cells _ _ _
  case c2 => intro u hu; simp at hu; subst hu; rfl
  case c3 => unfold maxLen; omega
  case c4 => omega
  case c5 => rw [Go.Deep.nblk_alloc]; omega
  intro nv3 w3 hown3 hg3 _ hat3
  have ht23 : NmTo (.slice na L.length nc) nv3 w2 w3 := by
    refine (NmTo.alloc _ w2 (.cells #[.string nm] 9)).trans ⟨hg3, ?_⟩
    rcases hat3 with e | e
    · exact .inl e
    · exact .inr ⟨_, e, by rw [Go.Deep.nblk_alloc]; omega⟩
  have hn3 : NmAt W0.heap.size (k + 1) (L ++ [nm]) nv3 w3 := by
    refine ⟨by rw [List.length_append, List.length_singleton, List.map_append]; exact hown3, fun x hx => ?_, by simp; omega⟩
    rcases List.mem_append.1 hx with h | h
    · exact H2.out.2.1.2.1 x h
    · simp at h; rw [h]; exact h4
  have ht3 := H2.out.1.trans ht23
  have hS3 := ht23.nbox H2.out.2.2.1 HA.out.2.2.1
  have hb3 : Below W0.heap.size W0 w3 := ht23.base H2.out.2.1 H2.out.2.2.2 (Nat.le_refl _)
  -- LOOPS
  have hnx3 : nv3.ownBlock ≠ some w.heap.size := fun e => by
    rcases hat3 with e3 | e3
    · rw [e3] at e; exact HA.out.2.2.1 e
    · rw [e3] at e; have := Option.some.inj e; omega
  have KS := Lib.hid (And.intro ht3 (And.intro hn3 (And.intro hS3 (And.intro hb3 hnx3))))
  clear ht3 hn3 hS3 hb3 hnx3 ht23 hown3 hg3 hat3
  obtain ⟨z0, z1, z2, z3, z4, z5⟩ := KS.out.2.2.1.cells
  go_wp2
  go_loopw [2, 3, 12, 13] (fun c nx i _ wr => ∃ (nn : Value) (j kk : Nat) (LL : List ByteArray), nn = nx ∧ j ≤ kids.length ∧ i = .int .i64 j ∧ c = .int .i64 kk ∧ Hid (visAll (kids.drop j) (d + 1) (kk, LL) = goal) ∧ NmAt W0.heap.size kk LL nn wr ∧ kk ≤ 400 ∧ NmTo nv3 nn w3 wr) (fun _ _ i _ _ => kids.length - (intOf i).toNat)
  case atStart => exact ⟨_, 0, k + 1, _, rfl, by omega, rfl, by simp, by rw [List.drop_zero]; exact HG, KS.out.2.1, by omega, NmTo.below (Below.refl _ _)⟩
  case round =>
    obtain ⟨nn, j, kk, LL, rfl, hj, rfl, rfl, HV, hnr, hkk, htr⟩ := hrel
    have hSr := htr.nbox KS.out.2.2.1 KS.out.2.2.2.2
    have hbr : Below W0.heap.size W0 wr := htr.base KS.out.2.1 KS.out.2.2.2.1 (Nat.le_refl _)
    obtain ⟨y0, y1, y2, y3, y4, y5⟩ := hSr.cells
    by_cases hlt : j < kids.length
    · obtain ⟨b, o, rfl, hkid⟩ : ∃ b o, ka = some ⟨b, o, none⟩ ∧ KidsIn 0 W0 kids b o := by
        rcases HKS.out with h0 | ⟨b, o, ha, -, hk⟩
        · rw [h0] at hlt; simp at hlt
        · exact ⟨b, o, ha, hk⟩
      obtain ⟨xo, qra, xn, qrc, xm, qka, yn, qkc, x4, x5, hnk, b0, b1, b2, b3, b4, b5⟩ := kid_cells hkid hlt
      have kp := keeps_below (lo := 0) hbr
      have g0 := kp _ _ _ (Nat.zero_le _) b0
      have g1 := kp _ _ _ (Nat.zero_le _) b1
      have g2 := kp _ _ _ (Nat.zero_le _) b2
      have g3 := kp _ _ _ (Nat.zero_le _) b3
      have g4 := kp _ _ _ (Nat.zero_le _) b4
      have g5 := kp _ _ _ (Nat.zero_le _) b5
      have hst := visAll_drop kids j hlt (d + 1) (kk, LL)
      have hle := vis_le kids[j] (d + 1) (kk, LL)
      have hih := HIH.out kids[j] (List.getElem_mem hlt) W0 _ nn (d + 1) wr kk LL hnk hbr hnr hkk (by omega)
      obtain ⟨q, hq⟩ : ∃ q, kids[j] = q := ⟨_, rfl⟩
      rw [hq] at hst hle hih
      obtain ⟨er, hx⟩ : ∃ er, visN q (d + 1) (kk, LL) = er := ⟨_, rfl⟩
      rw [hx] at hst hle hih
      obtain ⟨er, k2, L2⟩ := er
      simp only at hst hle hih
      have HX := Lib.hid (And.intro hst (And.intro hle htr))
      have HH := Lib.hid hih
      clear hst hle hih hx hq b0 b1 b2 b3 b4 b5 hnk kp hkid hSr hnr hbr htr
      go_wp2_with fail
      refine (HH.out).mono ?_
      rintro e w5 ⟨nv5, rfl, hn5, ht5⟩
      have ht5 := HX.out.2.2.trans ht5
      by_cases h0 : er = 0
      · subst h0
        have hv : Hid (visAll (kids.drop (j + 1)) (d + 1) (k2, L2) = goal) := by
          have := HX.out.1
          rw [if_neg (by simp)] at this
          exact this.symm.trans HV.out
        have hk2 := HX.out.2.1 rfl
        have H5 := Lib.hid (And.intro hn5 ht5)
        clear hn5 ht5
        go_wp2
        go_roundw
        case rel => exact ⟨_, j + 1, k2, L2, rfl, by omega, by simp, rfl, hv, H5.out.1, hk2, H5.out.2⟩
        case measure => simp [intOf]; omega
      · have hv : (er, k2, L2) = goal := by
          have := HX.out.1
          rw [if_pos h0] at this
          exact this.symm.trans HV.out
        subst hv
        have e1 : (er == 0) = false := by rw [beq_eq_false_iff_ne]; exact h0
        have e2 : (er != 0) = true := by rw [bne_iff_ne]; exact h0
        have H5 := Lib.hid (And.intro hn5 ht5)
        clear h0 HG hn5 ht5
        go_wp2
        go_ret3
        exact ⟨_, rfl, H5.out.1, KS.out.1.trans H5.out.2⟩
    · obtain rfl : j = kids.length := by omega
      have hv : (0, kk, LL) = goal := by
        have := HV.out
        rw [List.drop_length, visAll] at this
        exact this
      subst hv
      have H5 := Lib.hid (And.intro hnr htr)
      clear HG HV hnr htr hSr hbr
      go_wp2
      go_ret3
      exact ⟨_, rfl, H5.out.1, KS.out.1.trans H5.out.2⟩
end Go.Proofs.Ytfmoidhpafpgnaa
