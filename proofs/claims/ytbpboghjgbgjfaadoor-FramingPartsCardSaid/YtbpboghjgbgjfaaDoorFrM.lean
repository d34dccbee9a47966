/- FramingParts: the law. -/
import Derived.Test.YtbpboghjgbgjfaaDoorFrK
import Derived.Test.YtbpboghjgbgjfaaDoorBufS
import Derived.Test.YtbpboghjgbgjfaaDoorArgs
import Derived.Laws.AppendOwnNone
namespace Go.Proofs.YtbpboghjgbgjfaaDoor
open Go.RowKit

theorem frL_row {base : Nat} {w : World} {v : Value} {l : List UInt8} {off lim : Int} {sp : List (Nat × Nat)} (h : w.ownsRow base 41 5 v sp.length (frL l off lim sp)) :
    v = .slice none 0 0 ∧ sp = [] ∨ ∃ g c, v = .slice (some ⟨g, 0, none⟩) sp.length c ∧ ∀ (j : Nat) (u : Value), (frL l off lim sp)[j]? = some u → w.cell? ((⟨g, 0, none⟩ : Addr).add j) = some u := by
  rcases row_form h with ⟨h1, h2⟩ | ⟨g, c, h1, -⟩
  · exact .inl ⟨h1, List.eq_nil_of_length_eq_zero h2⟩
  · exact .inr ⟨g, c, h1, fun j u hu => World.ownsRow.cells h (g := g) (by rw [h1]; rfl) j u hu⟩
theorem frL_one1 (l : List UInt8) (off lim : Int) (sp : List (Nat × Nat)) : ∀ u ∈ frL l off lim sp, u.oneCell' = true := by
  intro u hu
  unfold frL at hu
  obtain ⟨s, -, h⟩ := List.mem_flatMap.1 hu
  unfold frC at h
  simp only [List.mem_cons, List.not_mem_nil, or_false] at h
  rcases h with rfl | rfl | rfl | rfl | rfl <;> rfl

theorem seen_at (A x n : Nat) (hx : x < 256) (hn : n ≤ 4000) (hA : A ≤ n) : ∃ s : Nat, max (A : Int) (wrap64 ((wrap64 ((x : Int) * (n : Int))).tdiv 256)) = (s : Int) ∧ A ≤ s ∧ s ≤ n := by
  have hm : x * n ≤ 255 * n := Nat.mul_le_mul_right n (by omega)
  have hc : (x : Int) * (n : Int) = ((x * n : Nat) : Int) := by simp
  obtain ⟨p, hp⟩ : ∃ p, x * n = p := ⟨_, rfl⟩
  rw [hp] at hm hc
  have h1 : wrap64 ((x : Int) * (n : Int)) = (p : Int) := by rw [hc]; exact IntWalk.wrap64_in _ ⟨by omega, by omega⟩
  have h2 : Int.tdiv (p : Int) 256 = ((p / 256 : Nat) : Int) := rfl
  have h3 : wrap64 ((p / 256 : Nat) : Int) = ((p / 256 : Nat) : Int) := IntWalk.wrap64_in _ ⟨by omega, by omega⟩
  rw [h1, h2, h3]
  exact ⟨max A (p / 256), by omega, by omega, by omega⟩
set_option maxRecDepth 100000 in
set_option linter.unusedSimpArgs false in
set_option maxHeartbeats 16000000 in
theorem law_parts (bv cv uv : Value) (lb lc lu : List UInt8) (cl : UInt8) (w : World) (hT : Tabs w) (hb : ArgB w w.heap.size bv lb) (hc : ArgB w w.heap.size cv lc) (hu : ArgB w w.heap.size uv lu) :
    Calls Tryd.prog 4 #[bv, cv, uv, .int .u8 cl.toNat] w fun e w' => e = .returned (.bool true) ∧ Below w.heap.size w w' := by
  obtain ⟨i0, hi, hz0, hz1, hz2⟩ := info_parts infoFr
  have haw := awake9_any w hT
  have H := Lib.hid (And.intro hb (And.intro hc (And.intro haw (And.intro hT hu))))
  have hbs := byS_arg hb
  obtain ⟨ba, bc, rfl, -⟩ := hbs
  have hus := byS_arg hu
  obtain ⟨ua, uc, rfl, -⟩ := hus
  have hcl := UInt8.toNat_lt cl
  obtain ⟨lim, hlim⟩ : ∃ n, cl.toNat = n := ⟨_, rfl⟩
  rw [hlim] at hcl ⊢
  obtain ⟨nb, hnb⟩ : ∃ n, lb.length = n := ⟨_, rfl⟩
  obtain ⟨nu, hnu⟩ : ∃ n, lu.length = n := ⟨_, rfl⟩
  rw [hnb, hnu] at H
  rw [hnb, hnu]
  have hcl2 : (lim : Int) < 256 := by omega
  have HN := Lib.hid (And.intro hnb hnu)
  clear hb hc haw hT hu hlim hnb hnu
  by_cases h1 : 2000 < nb
  · have d1 : decide ((2000 : Int) < (nb : Int)) = true := by rw [decide_eq_true_iff]; omega
    have d2 : decide (2000 < nb) = true := by rw [decide_eq_true_iff]; omega
    go_enter Tryd.func4, Tryd.ntmps4
    go_wp2_with fail
    with_reducible refine (H.out.2.2.1).mono ?_
    rintro e w1 ⟨rfl, hb1⟩
    have HB := Lib.hid hb1
    clear hb1
    go_wp2
    go_ret
    exact ⟨rfl, HB.out⟩
  · have d1 : decide ((2000 : Int) < (nb : Int)) = false := by rw [decide_eq_false_iff_not]; omega
    have d2 : decide (2000 < nb) = false := by rw [decide_eq_false_iff_not]; omega
    by_cases h2 : 30 < nu
    · have d3 : decide ((30 : Int) < (nu : Int)) = true := by rw [decide_eq_true_iff]; omega
      have d4 : decide (30 < nu) = true := by rw [decide_eq_true_iff]; omega
      go_enter Tryd.func4, Tryd.ntmps4
      go_wp2_with fail
      with_reducible refine (H.out.2.2.1).mono ?_
      rintro e w1 ⟨rfl, hb1⟩
      have HB := Lib.hid hb1
      clear hb1
      go_wp2
      go_ret
      exact ⟨rfl, HB.out⟩
    · have d3 : decide ((30 : Int) < (nu : Int)) = false := by rw [decide_eq_false_iff_not]; omega
      have d4 : decide (30 < nu) = false := by rw [decide_eq_false_iff_not]; omega
      go_enter Tryd.func4, Tryd.ntmps4
      go_wp2_with fail
      with_reducible refine (H.out.2.2.1).mono ?_
      rintro e w1 ⟨rfl, hb1⟩
      have hB := (byS_arg H.out.1).below hb1
      have hC := H.out.2.1.below hb1
      have hU := (byS_arg H.out.2.2.2.2).below hb1
      have HA := Lib.hid (And.intro hB (And.intro hC (And.intro hb1 hU)))
      clear hB hC hb1 hU
      go_wp2_with fail
      refine (new_any _ lc 100 w1 HA.out.2.1 (by omega)).mono ?_
      rintro e w2 ⟨rfl, hm, hb2⟩
      obtain ⟨C, hC⟩ : ∃ C, w1.heap.size = C := ⟨_, rfl⟩
      rw [hC] at hm
      have HC := Lib.hid (And.intro hm (And.intro hb2 hC))
      clear hm hb2
      simp only [hC]
      clear hC
      go_wp2_with fail
      with_reducible refine (data_any C (lim : Int) 4 w2 HC.out.1 (by omega) (by omega) (by omega) (by omega)).mono ?_
      rintro e w4 ⟨⟨v, L, rfl, hbuf, ⟨ld, rfl⟩, -, hL⟩, hm4, hf4⟩
      rw [List.length_map] at hL
      have h2 : Below w1.heap.size w1 w4 := by
        have h4 := HC.out.2.2
        have h5 := HC.out.2.1
        exact h5.trans ((hf4.toBelow (by have := HC.out.1.lt; omega)).mono (by omega))
      have hbw : Below w.heap.size w w4 := bl_trans' HA.out.2.2.1 h2
      have hB4 := HA.out.1.below h2
      have hU4 := HA.out.2.2.2.below h2
      have HE := Lib.hid (And.intro hbuf (And.intro hB4 (And.intro hbw (And.intro (Utf8Tabs_below H.out.2.2.2.1 hbw) (And.intro hU4 hf4.size)))))
      clear hB4 hbw h2 hm4 hf4 hbuf hU4
      go_wp2_with (at_builtin; refine wpList_append_bufS rfl (.tmp 32) (.tmp 33) rfl rfl HE.out.1 ?c1 _ rfl _ _ (BySl.src HE.out.2.1) ?c2 ?_)
      case c1 => exact HE.out.2.2.2.2.2
      case c2 => rw [List.length_map, HN.out.1]; omega
      intro v1 w5 hbuf5 g5 hg5 hgr5
      have hbw5 : Below w.heap.size w w5 := HE.out.2.2.1.grown hgr5 HE.out.2.2.1.size (fun r e => by
        obtain rfl := Option.some.inj e
        have q1 := HA.out.2.2.1.size
        have q2 := HC.out.2.1.size
        omega)
      have hby : BySl w5 v1 (ld ++ lb) := byS_bufV (by rw [← byV_app]; exact hbuf5)
      have hDl : (ld ++ lb).length = ld.length + nb := by rw [List.length_append, HN.out.1]
      obtain ⟨D, hD⟩ : ∃ D, ld ++ lb = D := ⟨_, rfl⟩
      rw [hD] at hby hDl
      obtain ⟨da, dc, rfl, hdc⟩ := hby.slice
      obtain ⟨n, hn⟩ : ∃ n, D.length = n := ⟨_, rfl⟩
      have hn4 : n ≤ 4000 := by omega
      have hT5 := Utf8Tabs_below H.out.2.2.2.1 hbw5
      have hfr := frame_yes da dc 0 D D rfl (lim : Int) (by omega) (by omega) w5 hT5 hby
      obtain ⟨sp, hsp⟩ : ∃ sp, spK D D.length = sp := ⟨_, rfl⟩
      obtain ⟨K, hK⟩ : ∃ K, lastK D D.length = K := ⟨_, rfl⟩
      rw [hsp, hK, hn] at hfr
      have hk0 : ((0 : Nat) : Int) + (K : Int) = (K : Int) := by omega
      simp only [hk0] at hfr
      rw [hn] at hdc hby ⊢
      have HG := Lib.hid (And.intro hfr (And.intro hby (And.intro hbw5 (And.intro hT5 (And.intro hsp (And.intro hK hn))))))
      clear hfr hby hbw5 hT5 hsp hK hn hbuf5 hgr5 hg5 hD hDl hL HE HC HA hk0
      go_wp2_with fail
      refine HG.out.1.mono ?_
      rintro e w6 ⟨⟨av, rfl, har⟩, hb6⟩
      obtain ⟨aa, am, ac, rfl⟩ := row_slice har
      have hbyU := (byS_arg H.out.2.2.2.2).below (bl_trans' HG.out.2.2.1 hb6)
      have HB := Lib.hid (And.intro har (And.intro (bl_trans' HG.out.2.2.1 hb6) (And.intro (HG.out.2.1.below hb6) (And.intro (Utf8Tabs_below HG.out.2.2.2.1 hb6) hbyU))))
      clear har hb6 hbyU
      go_wp2_with fail
      go_loopw [12, 13, 15] (fun ov tv iv wr => ∃ i A : Nat, iv = .int .i64 i ∧ i ≤ nu + 1 ∧ tv = .int .i64 A ∧ A ≤ n ∧ lastK D A = A ∧ wr.ownsRow w6.heap.size 41 5 ov (spK D A).length (frL D 0 (lim : Int) (spK D A)) ∧ Below w6.heap.size w6 wr ∧ (i = nu + 1 → A = K)) (fun _ _ iv _ => nu + 1 - (intOf iv).toNat)
      case atStart => exact ⟨0, 0, rfl, by omega, rfl, by omega, rfl, World.ownsRow_nil _ _ _ _, Below.refl _ _, fun h => by omega⟩
      case round =>
        obtain ⟨i, A, rfl, hi1, rfl, hAn, hAA, hrw, hbr, hfin⟩ := hrel
        obtain ⟨va, vm, vc, rfl⟩ := row_slice hrw
        have HR := Lib.hid (And.intro hrw (And.intro hbr (And.intro hfin hAA)))
        clear hrw hbr hfin hAA
        by_cases hlt : i ≤ nu
        · have e1 : decide ((i : Int) ≤ (nu : Int)) = true := by rw [decide_eq_true_iff]; omega
          have e1b : decide (i ≤ nu) = true := by rw [decide_eq_true_iff]; omega
          by_cases hlu : i < nu
          · have e2 : decide ((i : Int) < (nu : Int)) = true := by rw [decide_eq_true_iff]; omega
            have e2b : decide (i < nu) = true := by rw [decide_eq_true_iff]; omega
            obtain ⟨g, o, x, rfl, cx, hx⟩ : ∃ (g o x : Nat), ua = some ⟨g, o, none⟩ ∧ wr.cell? ⟨g, o + i, none⟩ = some (.int .u8 (x : Int)) ∧ x < 256 := by
              obtain ⟨a2, c2, e, -, hq⟩ := HB.out.2.2.2.2.below HR.out.2.1
              injection e with e3 e4 e5
              subst e3
              obtain ⟨g, o, h3, -, h5⟩ := hq i (by rw [HN.out.2]; exact hlu)
              exact ⟨g, o, _, h3, h5, UInt8.toNat_lt _⟩
            have ix0 : (0 : Int) ≤ (i : Int) := by omega
            have ix1 : (i : Int) < (nu : Int) := by omega
            go_upto_region 15 with (fail)
            obtain ⟨s, hse, hAS, hSn⟩ := seen_at A x n hx hn4 hAn
            rw [hse]
            clear hse cx e2 e2b
            have hst := (HB.out.2.2.1.below HR.out.2.1).take s (by have := HG.out.2.2.2.2.2.2; omega) dc (by omega)
            have hsl := fun W => run_to da n dc s (by omega) W
            have htk : (D.take s).length = s := by rw [List.length_take]; have := HG.out.2.2.2.2.2.2; omega
            have hTr := Utf8Tabs_below HB.out.2.2.2.1 HR.out.2.1
            obtain ⟨hpa, hpb⟩ := frL_part D A s HR.out.2.2.2 hAS (by have := HG.out.2.2.2.2.2.2; omega) (lim : Int)
            obtain ⟨l', hl'⟩ : ∃ l', (D.take s).drop A = l' := ⟨_, rfl⟩
            have hll : l'.length = s - A := by rw [← hl', List.length_drop, htk]
            have hf := frame_yes da dc A (D.take s) l' hl' (lim : Int) (by omega) (by omega) wr hTr (by rw [htk]; exact hst)
            rw [htk] at hf
            rw [hl', ← hll] at hpa hpb
            obtain ⟨sp2, hsp2⟩ : ∃ y, spK l' l'.length = y := ⟨_, rfl⟩
            obtain ⟨K2, hK2⟩ : ∃ y, lastK l' l'.length = y := ⟨_, rfl⟩
            rw [hsp2] at hpa hf
            rw [hK2] at hpb hf
            have hself := last_self D s
            rw [hpb] at hself
            have hle : A + K2 ≤ n := by have := lastK_le D s; omega
            have hln := congrArg List.length hpa
            rw [List.length_append, frL_len, frL_len, frL_len] at hln
            have hfin2 : i + 1 = nu + 1 → A + K2 = K := by
              intro h
              omega
            have hbig : (spK D s).length ≤ 4000 := by have := spK_len D s; omega
            have hnum : ((A + K2 : Nat) : Int) = (A : Int) + (K2 : Int) := by omega
            have HP := Lib.hid (And.intro hpa (And.intro hself (And.intro hfin2 hnum)))
            clear hpa hself hfin2 hnum hl' hll hsp2 hK2 hst htk hTr hpb
            go_wp2_with fail
            with_reducible refine hf.mono ?_
            rintro e w7 ⟨⟨mv, rfl, hmr⟩, hb7⟩
            have HQ := Lib.hid (And.intro (row_below HR.out.1 hb7) (bl_trans' HR.out.2.1 hb7))
            rcases frL_row hmr with ⟨rfl, hs2⟩ | ⟨g7, c7, rfl, hcs⟩
            · clear hf hmr hb7
              have hrow : w7.ownsRow w6.heap.size 41 5 (.slice va vm vc) (spK D (A + K2)).length (frL D 0 (lim : Int) (spK D (A + K2))) := by
                rw [HP.out.2.1.2, HP.out.1, hs2, show (spK D s).length = (spK D A).length by rw [hs2] at hln; simp at hln; omega]
                simpa [frL] using HQ.out.1
              have HS := Lib.hid hrow
              clear hrow
              go_wp2_with (at_builtin; refine wpList_append_own_none rfl (.tmp 75) (.tmp 76) 34 rfl w6.heap.size 41 i0 5 Tryd.underlying34 hi _ _ _ rfl HQ.out.1 rfl ?_)
              go_wp2
              go_roundw
              case rel => exact ⟨i + 1, A + K2, by congr 1, by omega, by rw [HP.out.2.2.2], hle, HP.out.2.1.1, HS.out, HQ.out.2, HP.out.2.2.1⟩
              case measure => simp [intOf]; omega
            · have HS := Lib.hid hcs
              clear hf hmr hb7 hcs
              go_wp2_with (at_builtin; refine wpList_append_own_at _ rfl (.tmp 75) (.tmp 76) 34 rfl w6.heap.size 41 i0 (.agg #[.int .i64 0, .int .i64 0, .string ⟨#[]⟩, .int .i64 0, .bool false]) 5 48 Tryd.underlying34 hi hz0 hz1 hz2 rfl (by decide) _ (spK D A).length _ rfl HQ.out.1 ⟨g7, 0, none⟩ sp2.length c7 (frL l' (A : Int) (lim : Int) sp2) rfl ?c1 ?c2 ?c3 ?c4 ?c5 ?c6 ?_)
              case c1 => rw [frL_len]; omega
              case c2 => exact HS.out
              case c3 => exact frL_one1 _ _ _ _
              case c4 => unfold maxLen; omega
              case c5 => omega
              case c6 => exact HQ.out.2.size
              intro v' w8 hown hgrow _ _
              have hb8 : Below w6.heap.size w6 w8 := below_own' (w := w6) HQ.out.2 hgrow (fun gg hgg => (World.ownsRow.lt HQ.out.1 gg hgg).1)
              have hrow : w8.ownsRow w6.heap.size 41 5 v' (spK D (A + K2)).length (frL D 0 (lim : Int) (spK D (A + K2))) := by
                rw [HP.out.2.1.2, HP.out.1, show (spK D s).length = (spK D A).length + sp2.length by omega]
                exact hown
              have HS2 := Lib.hid (And.intro hrow hb8)
              clear hrow hb8 hown hgrow
              go_wp2
              go_roundw
              case rel => exact ⟨i + 1, A + K2, by congr 1, by omega, by rw [HP.out.2.2.2], hle, HP.out.2.1.1, HS2.out.1, HS2.out.2, HP.out.2.2.1⟩
              case measure => simp [intOf]; omega
          · have e2 : decide ((i : Int) < (nu : Int)) = false := by rw [decide_eq_false_iff_not]; omega
            have e2b : decide (i < nu) = false := by rw [decide_eq_false_iff_not]; omega
            have hAS : A ≤ n := hAn
            go_upto_region 15 with (fail)
            clear e2 e2b
            have hst := (HB.out.2.2.1.below HR.out.2.1).take n (by have := HG.out.2.2.2.2.2.2; omega) dc (by omega)
            have hsl := fun W => run_to da n dc n (by omega) W
            have htk : (D.take n).length = n := by rw [List.length_take]; have := HG.out.2.2.2.2.2.2; omega
            have hTr := Utf8Tabs_below HB.out.2.2.2.1 HR.out.2.1
            obtain ⟨hpa, hpb⟩ := frL_part D A n HR.out.2.2.2 hAS (by have := HG.out.2.2.2.2.2.2; omega) (lim : Int)
            obtain ⟨l', hl'⟩ : ∃ l', (D.take n).drop A = l' := ⟨_, rfl⟩
            have hll : l'.length = n - A := by rw [← hl', List.length_drop, htk]
            have hf := frame_yes da dc A (D.take n) l' hl' (lim : Int) (by omega) (by omega) wr hTr (by rw [htk]; exact hst)
            rw [htk] at hf
            rw [hl', ← hll] at hpa hpb
            obtain ⟨sp2, hsp2⟩ : ∃ y, spK l' l'.length = y := ⟨_, rfl⟩
            obtain ⟨K2, hK2⟩ : ∃ y, lastK l' l'.length = y := ⟨_, rfl⟩
            rw [hsp2] at hpa hf
            rw [hK2] at hpb hf
            have hself := last_self D n
            rw [hpb] at hself
            have hle : A + K2 ≤ n := by have := lastK_le D n; omega
            have hln := congrArg List.length hpa
            rw [List.length_append, frL_len, frL_len, frL_len] at hln
            have hfin2 : i + 1 = nu + 1 → A + K2 = K := by
              intro h
              have h1 := HG.out.2.2.2.2.2.1; rw [HG.out.2.2.2.2.2.2] at h1; rw [← hpb]; exact h1
            have hbig : (spK D n).length ≤ 4000 := by have := spK_len D n; omega
            have hnum : ((A + K2 : Nat) : Int) = (A : Int) + (K2 : Int) := by omega
            have HP := Lib.hid (And.intro hpa (And.intro hself (And.intro hfin2 hnum)))
            clear hpa hself hfin2 hnum hl' hll hsp2 hK2 hst htk hTr hpb
            go_wp2_with fail
            with_reducible refine hf.mono ?_
            rintro e w7 ⟨⟨mv, rfl, hmr⟩, hb7⟩
            have HQ := Lib.hid (And.intro (row_below HR.out.1 hb7) (bl_trans' HR.out.2.1 hb7))
            rcases frL_row hmr with ⟨rfl, hs2⟩ | ⟨g7, c7, rfl, hcs⟩
            · clear hf hmr hb7
              have hrow : w7.ownsRow w6.heap.size 41 5 (.slice va vm vc) (spK D (A + K2)).length (frL D 0 (lim : Int) (spK D (A + K2))) := by
                rw [HP.out.2.1.2, HP.out.1, hs2, show (spK D n).length = (spK D A).length by rw [hs2] at hln; simp at hln; omega]
                simpa [frL] using HQ.out.1
              have HS := Lib.hid hrow
              clear hrow
              go_wp2_with (at_builtin; refine wpList_append_own_none rfl (.tmp 75) (.tmp 76) 34 rfl w6.heap.size 41 i0 5 Tryd.underlying34 hi _ _ _ rfl HQ.out.1 rfl ?_)
              go_wp2
              go_roundw
              case rel => exact ⟨i + 1, A + K2, by congr 1, by omega, by rw [HP.out.2.2.2], hle, HP.out.2.1.1, HS.out, HQ.out.2, HP.out.2.2.1⟩
              case measure => simp [intOf]; omega
            · have HS := Lib.hid hcs
              clear hf hmr hb7 hcs
              go_wp2_with (at_builtin; refine wpList_append_own_at _ rfl (.tmp 75) (.tmp 76) 34 rfl w6.heap.size 41 i0 (.agg #[.int .i64 0, .int .i64 0, .string ⟨#[]⟩, .int .i64 0, .bool false]) 5 48 Tryd.underlying34 hi hz0 hz1 hz2 rfl (by decide) _ (spK D A).length _ rfl HQ.out.1 ⟨g7, 0, none⟩ sp2.length c7 (frL l' (A : Int) (lim : Int) sp2) rfl ?c1 ?c2 ?c3 ?c4 ?c5 ?c6 ?_)
              case c1 => rw [frL_len]; omega
              case c2 => exact HS.out
              case c3 => exact frL_one1 _ _ _ _
              case c4 => unfold maxLen; omega
              case c5 => omega
              case c6 => exact HQ.out.2.size
              intro v' w8 hown hgrow _ _
              have hb8 : Below w6.heap.size w6 w8 := below_own' (w := w6) HQ.out.2 hgrow (fun gg hgg => (World.ownsRow.lt HQ.out.1 gg hgg).1)
              have hrow : w8.ownsRow w6.heap.size 41 5 v' (spK D (A + K2)).length (frL D 0 (lim : Int) (spK D (A + K2))) := by
                rw [HP.out.2.1.2, HP.out.1, show (spK D n).length = (spK D A).length + sp2.length by omega]
                exact hown
              have HS2 := Lib.hid (And.intro hrow hb8)
              clear hrow hb8 hown hgrow
              go_wp2
              go_roundw
              case rel => exact ⟨i + 1, A + K2, by congr 1, by omega, by rw [HP.out.2.2.2], hle, HP.out.2.1.1, HS2.out.1, HS2.out.2, HP.out.2.2.1⟩
              case measure => simp [intOf]; omega
        · obtain rfl : i = nu + 1 := by omega
          have e1 : decide (((nu + 1 : Nat) : Int) ≤ (nu : Int)) = false := by rw [decide_eq_false_iff_not]; omega
          have e1b : decide ((nu : Int) + 1 ≤ (nu : Int)) = false := by rw [decide_eq_false_iff_not]; omega
          obtain rfl : A = K := HR.out.2.2.1 rfl
          have hsp : spK D A = sp := by
            have h1 := last_self D D.length
            rw [HG.out.2.2.2.2.2.1, HG.out.2.2.2.2.1] at h1
            exact h1.2
          have hrw := HR.out.1
          rw [hsp] at hrw
          have hsl : sp.length ≤ 4000000 := by rw [← hsp]; have := spK_len D A; omega
          have hsm := same_any hrw (row_below HB.out.1 HR.out.2.1) hsl
          have HS := Lib.hid hsm
          clear hrw hsm hsp hsl
          go_wp2_with fail
          with_reducible refine HS.out.mono ?_
          rintro e w7 ⟨rfl, hb7⟩
          have HQ := Lib.hid (bl_trans' HB.out.2.1 (bl_trans' HR.out.2.1 hb7))
          clear hb7
          go_wp2
          go_ret
          exact ⟨rfl, HQ.out⟩
end Go.Proofs.YtbpboghjgbgjfaaDoor
