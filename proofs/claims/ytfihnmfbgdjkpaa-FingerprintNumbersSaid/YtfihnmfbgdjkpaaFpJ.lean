/- FingerprintNumbers: the law. -/
import Derived.Test.YtfihnmfbgdjkpaaFpI
import Derived.Deep.RegionHeld3
import Derived.Test.YtfihnmfbgdjkpaaStepOwn
import Derived.Deep.DeepCutAuto
namespace Go.Proofs.Ytfihnmfbgdjkpaa
open Go.RowKit

theorem row_sl {base : Nat} {e : TypeId} {size : Nat} {v : Value} {n : Nat} {xs : List Value} {w : World} (h : w.ownsRow base e size v n xs) : ∃ a c, v = .slice a n c := by
  rcases row_form h with ⟨h1, h2⟩ | ⟨g, c, h1, -⟩
  · exact ⟨none, 0, by rw [h1, h2]⟩
  · exact ⟨_, c, h1⟩
theorem BuI.drew {D C : Nat} {w0 wr : World} {lv : Value} {vs : List Value} {ls : List (List UInt8)} (h : BuI D C w0 lv vs ls wr) : BuI D C w0 lv vs ls wr.drew := ⟨h.l.below (Below.refl _ _).drew, h.m, h.f.drew⟩
def CutL (D C : Nat) (w3 : World) (lv : Value) (wx : World) : Prop := ∃ vs ls, LsAt D C wx lv vs ls ∧ ls.length ≤ 5 ∧ GFr C w3 wx
theorem filesS2 {w : World} {v1 v2 : Value} {l1 l2 : List UInt8} (h1 : BySl w v1 l1) (h2 : BySl w v2 l2) : FilesS (w.alloc (.cells #[v1, v2] 22)) (.slice (some ⟨w.heap.size, 0, none⟩) 2 2) [l1, l2] := .inr ⟨_, _, rfl, files2 h1 h2⟩
set_option maxRecDepth 100000 in
set_option linter.unusedSimpArgs false in
set_option maxHeartbeats 16000000 in
theorem law_numbers (bv cv : Value) (lb lc : List UInt8) (z : Int) (w : World) (hb : ArgB w w.heap.size bv lb) (hc : ArgB w w.heap.size cv lc) (z0 : -9223372036854775808 ≤ z) (z1 : z ≤ 9223372036854775807) :
    Calls Try.prog 5 #[bv, .int .i64 z, cv] w fun e w' => e = .returned (.bool true) ∧ Below w.heap.size w w' := by
  have haw := awake8_any w
  have H := Lib.hid (And.intro (byS_arg hb) (And.intro hc haw))
  obtain ⟨ba, bc, rfl, -⟩ := (byS_arg hb).slice
  obtain ⟨ca, cc, rfl, -⟩ := (byS_arg hc).slice
  have HZ := Lib.hid (And.intro z0 z1)
  clear hb hc haw z0 z1
  go_enter Try.func5, Try.ntmps5
  go_wp2_with fail
  refine (H.out.2.2).mono ?_
  rintro e w1 ⟨rfl, hb1⟩
  have HA := Lib.hid hb1
  clear hb1
  go_wp2_with fail
  refine (new_any _ lc 200 w1 (H.out.2.1.below HA.out) (by omega)).mono ?_
  rintro e w2 ⟨rfl, hm, hb2⟩
  obtain ⟨C, hC⟩ : ∃ C, w1.heap.size = C := ⟨_, rfl⟩
  rw [hC] at hm
  have HC := Lib.hid (And.intro hm (And.intro hb2 hC))
  clear hm hb2
  simp only [hC]
  clear hC
  go_wp2_with fail
  refine (next_any C 5 w2 HC.out.1 (by omega) (by omega)).mono ?_
  rintro e w3 ⟨⟨n0, rfl, hn0, hn1⟩, hm3, hf3⟩
  obtain ⟨n, rfl⟩ : ∃ i : Nat, n0 = (i : Int) := ⟨n0.toNat, by omega⟩
  have hn4 : n ≤ 4 := by omega
  clear hn0 hn1
  obtain ⟨D, hD⟩ : ∃ D, w3.heap.size = D := ⟨_, rfl⟩
  have hCD : C < D := by have := hm3.lt; omega
  have HD := Lib.hid (And.intro hm3 (And.intro hf3 hD))
  have HI0 := Lib.hid (show BuI D C w3 (.slice none 0 0) [] [] w3 from ⟨⟨World.ownsRow_nil _ _ _ _, rfl, fun i hi => (by cases hi), fun i hi => (by cases hi)⟩, hm3, GFr.refl _ _⟩)
  clear hm3 hf3 hD
  obtain ⟨i0, hi, hz0, hz1, hz2⟩ := info_parts infoBs
  go_wp2_with fail
  go_loopw [8, 9] (fun lv nv wr => ∃ (k : Nat) (vs : List Value) (ls : List (List UInt8)), nv = .int .i64 k ∧ ls.length + k ≤ 4 ∧ BuI D C w3 lv vs ls wr) (fun _ nv _ => (intOf nv).toNat)
  case atStart => exact ⟨n, [], [], rfl, by simpa using hn4, HI0.out⟩
  case round =>
    obtain ⟨k, vs, ls, rfl, hlk, hI⟩ := hrel
    have hvl := hI.l.n
    obtain ⟨la, lcap, rfl⟩ := row_sl hI.l.r
    by_cases hk : 0 < k
    · have d1 : decide ((0 : Int) < (k : Int)) = true := by rw [decide_eq_true_iff]; omega
      have d2 : decide (0 < k) = true := decide_eq_true hk
      have HJ := Lib.hid (And.intro hI hvl)
      clear hI hvl
      go_wp2_with fail
      refine (next_any C 3 _ HJ.out.1.m (by omega) (by omega)).mono ?_
      rintro e x1 ⟨⟨z3, rfl, hz30, hz31⟩, hm, hf⟩
      have HK := Lib.hid (HJ.out.1.gfr hCD hm hf)
      clear hm hf
      go_wp2_with fail
      refine (data_any C z3 2 _ HK.out.m hz30 (by omega) (by omega) (by omega)).mono ?_
      rintro e x2 ⟨⟨v, L, rfl, hbuf, ⟨l, rfl⟩, h15, hL⟩, hm4, hf4⟩
      rw [List.length_map] at hL
      have hby : ByT C x2 v l := ByT.buf hbuf
      obtain ⟨xa, xc, rfl, -⟩ := hby.slice
      have HL := Lib.hid (And.intro (HK.out.gfr hCD hm4 hf4) (And.intro hby (And.intro hL (bl_trans' (Below.refl _ _) (below_new x2 (.cells #[.slice xa l.length xc] 22))))))
      have HV := Lib.hid HJ.out.2
      clear hbuf h15 hL hm4 hf4 hby hz30 hz31
      go_wp2_with (at_builtin; go_loud (refine wpList_append_own_at _ rfl (.tmp 26) (.tmp 31) 51 rfl D 22 i0 (.slice none 0 0) 1 24 Try.underlying51 hi hz0 hz1 hz2 rfl (by decide) _ vs.length _ rfl (row_below HL.out.1.l.r HL.out.2.2.2) ⟨x2.heap.size, 0, none⟩ 1 1 [.slice xa l.length xc] rfl rfl ?c1 ?c2 ?c3 ?c4 ?c5 ?_))
      case c1 => exact one_new x2 _ _
      case c2 => exact fun u hu => by simp only [List.mem_singleton] at hu; subst hu; rfl
      case c3 => have := HV.out; unfold maxLen; omega
      case c4 => have := HV.out; omega
      case c5 => have h3 := HL.out.1.f.size; have h4 := HD.out.2.2; have h5 := (below_new x2 (.cells #[.slice xa l.length xc] 22)).size; omega
      intro v' x3 hown hgrow _ _
      have HM := Lib.hid (HL.out.1.snoc hCD HD.out.2.2 HL.out.2.1 (by have := HL.out.2.2.1; omega) hown hgrow)
      clear hown hgrow
      go_wp2
      go_roundw
      case rel => exact ⟨k - 1, _, _, by congr 1; omega, by rw [List.length_append]; have : [l].length = 1 := rfl; omega, HM.out⟩
      case measure => simp [intOf]; omega
    · obtain rfl : k = 0 := by omega
      have HJ := Lib.hid (And.intro hI hvl)
      clear hI hvl
      go_upto_if 35 with (fail)
      go_cut [8] (fun lv wx => CutL D C w3 lv wx)
      case first =>
        by_cases h0 : 0 < vs.length
        · have d3 : decide ((0 : Int) < (vs.length : Int)) = true := by rw [decide_eq_true_iff]; omega
          have d4 : decide (0 < vs.length) = true := decide_eq_true h0
          have p0 : (0 : Int) < (vs.length : Int) := by omega
          have hl0 : 0 < ls.length := by have := HJ.out.2; omega
          have hcell : ∀ W, LsAt D C W (.slice la vs.length lcap) vs ls → ∃ gb, la = some ⟨gb, 0, none⟩ ∧ W.cell? ⟨gb, 0, none⟩ = some (vs[0]'h0) := fun W hW => by
            rcases row_form hW.r with ⟨h1, h2⟩ | ⟨gb, c, h1, -⟩
            · omega
            · cases h1
              refine ⟨gb, rfl, ?_⟩
              rw [World.ownsRow.cellAt hW.r 0 (by omega)]
              simp [h0]
          obtain ⟨gb, rfl, cg⟩ := hcell _ HJ.out.1.l
          have hby := HJ.out.1.l.b 0 hl0
          have hsz := HJ.out.1.l.s 0 hl0
          obtain ⟨l1, hl1⟩ : ∃ l, ls[0] = l := ⟨_, rfl⟩
          rw [hl1] at hby hsz
          obtain ⟨a0, c0, hv0, hc0⟩ := hby.slice
          rw [hv0] at cg hby
          have hcell2 : ∀ W, LsAt D C W (.slice (some ⟨gb, 0, none⟩) vs.length lcap) vs ls → W.cell? ⟨gb, 0, none⟩ = some (.slice a0 l1.length c0) := fun W hW => by
            obtain ⟨gb2, h1, h2⟩ := hcell W hW
            cases h1
            rw [h2, hv0]
          have HX := Lib.hid (And.intro hby hcell2)
          obtain ⟨n1, hn1⟩ : ∃ n, l1.length = n := ⟨_, rfl⟩
          rw [hn1] at HX cg hc0 hsz
          have HN1 := Lib.hid hn1
          have HSZ := Lib.hid hsz
          obtain ⟨N, hN⟩ : ∃ N, vs.length = N := ⟨_, rfl⟩
          have HNv := Lib.hid hN
          rw [hN] at p0 d3 d4 h0 HJ
          have HB12 := Lib.hid (show (1 : Int) ≤ (n1 : Int) + 1 ∧ (n1 : Int) + 1 ≤ 1000000 by omega)
          have HBD := Lib.hid (show N + 1 ≤ maxLen ∧ (N + 1) * 24 ≤ 140737488355328 from by have := HJ.out.2; have := HNv.out; unfold maxLen; omega)
          have HQ := Lib.hid (show ∀ q : Nat, (q : Int) ≤ (n1 : Int) → q ≤ n1 ∧ q ≤ c0 ∧ (q : Int) ≤ (c0 : Int) ∧ (0 : Int) ≤ (q : Int) from fun q h => by omega)
          have HW := Lib.hid HJ.out.1.drew
          have HDW := Lib.hid (show ∀ x q, BuI D C w3 (.slice (some ⟨gb, 0, none⟩) N lcap) vs ls x → D ≤ (x.alloc (.cells #[.slice a0 q c0] 22)).heap.size from fun x q hx => by have h3 := hx.f.size; have h4 := HD.out.2.2; have h5 := (below_new x (.cells #[.slice a0 q c0] 22)).size; omega)
          have hw1 : IntKind.i64.wrap ((n1 : Int) + 1) = (n1 : Int) + 1 := IntWalk.i64_in _ (by omega)
          have HR := Lib.hid (fun W (hW : LsAt D C W (.slice (some ⟨gb, 0, none⟩) vs.length lcap) vs ls) => hW.r)
          rw [hN] at HR HX
          clear hcell hby hcell2 hl1 hsz hn1 hv0 hl0
          simp only [hN]
          clear hN
          go_wp2_with fail
          go_region_law ((first
            | (refine step_append_own rfl (.tmp 36) (.tmp 48) 51 rfl D 22 i0 (.slice none 0 0) 1 24 Try.underlying51 hi hz0 hz1 hz2 rfl (by decide) (.slice (some ⟨gb, 0, none⟩) N lcap) N vs (by simp [Act.eval]) (row_below (HR.out _ HY.out.l) (below_new _ _)) ⟨x1.heap.size, 0, none⟩ 1 1 [.slice a0 q c0] (by simp [Act.eval]) rfl (one_new x1 _ _) (by simp [Value.oneCell']) HBD.out.1 HBD.out.2 (HDW.out x1 q HY.out) ?_; intro v' x3 hown hgrow _; have HM := Lib.hid (And.intro hown hgrow); clear hown hgrow)
            | (go_simp; go_wp2_with (go_at_call 19; go_loud (refine (next_any C ((n1 : Int) + 1) _ HW.out.m HB12.out.1 HB12.out.2).mono ?_; rintro e x1 ⟨⟨zq, rfl, hzq0, hzq1⟩, hmq, hfq⟩; obtain ⟨q, rfl⟩ : ∃ q : Nat, zq = (q : Int) := ⟨zq.toNat, (Int.toNat_of_nonneg hzq0).symm⟩; obtain ⟨hq0, hq1, hq2, hq3⟩ := HQ.out q (Int.le_of_lt_add_one hzq1); clear hzq0 hzq1; have HY := Lib.hid (HW.out.gfr hCD hmq hfq); have HB1 := Lib.hid ((HX.out.1.below (Below.refl _ _).drew).keep hfq (mk_row HW.out.m)); have cg2 := HX.out.2 x1 HY.out.l; clear hmq hfq)))))
          all_goals
            have hN2 := HNv.out
            subst hN2
            have hn2 := HN1.out
            subst hn2
            have hfin := HY.out.snoc (l := l1.take q) hCD HD.out.2.2 (HB1.out.take q hq0 c0 hq1) (Nat.le_trans (List.length_take_le' _ _) HSZ.out) HM.out.1 HM.out.2
            have HF := Lib.hid (show CutL D C w3 v' x3 from ⟨_, _, hfin.l, by rw [List.length_append]; have : [l1.take q].length = 1 := rfl; omega, hfin.f⟩)
            clear hfin
            go_wp2_with fail
            go_meet
            exact HF.out
        · have hv0 : vs.length = 0 := by omega
          have d3 : decide ((0 : Int) < (vs.length : Int)) = false := by rw [decide_eq_false_iff_not]; omega
          have d4 : decide (0 < vs.length) = false := decide_eq_false h0
          have HF := Lib.hid (show CutL D C w3 (.slice la vs.length lcap) wr from ⟨_, _, HJ.out.1.l, by omega, HJ.out.1.f⟩)
          clear hv0
          go_wp2_with fail
          go_meet
          exact HF.out
      case rest =>
        obtain ⟨vs2, ls2, hL2, hl5, hG2⟩ := hcut
        have h2 : Below w1.heap.size w1 wc := by
          have h4 := HC.out.2.2
          have h5 := HC.out.2.1
          exact h5.trans (((HD.out.2.1.trans hG2).toBelow (by have := HC.out.1.lt; omega)).mono (by omega))
        have hbw : Below w.heap.size w wc := bl_trans' HA.out h2
        have hB2 := H.out.1.below hbw
        have hF2 := hL2.files
        obtain ⟨la2, lc2, rfl⟩ := row_sl hL2.r
        have HE := Lib.hid (And.intro hB2 (And.intro hF2 (And.intro hbw hl5)))
        clear hL2 hl5 hG2 h2 hbw hB2 hF2 HJ hlk
        go_wp2_with fail
        refine (mod66_any z _ HZ.out.1 HZ.out.2).mono ?_
        rintro e w4 ⟨⟨m, rfl, hm0, hm1⟩, rfl⟩
        go_wp2_with fail
        have hbn := below_new w4 (.cells #[.int .i64 z, .int .i64 m] 3)
        have hnew := heap_alloc_new w4 (.cells #[.int .i64 z, .int .i64 m] 3)
        obtain ⟨xb, hxb⟩ : ∃ b, w4.heap.size = b := ⟨_, rfl⟩
        have hlt : xb < (w4.alloc (.cells #[.int .i64 z, .int .i64 m] 3)).heap.size := by rw [← hxb]; simp
        obtain ⟨w5, hw5⟩ : ∃ x, w4.alloc (.cells #[.int .i64 z, .int .i64 m] 3) = x := ⟨_, rfl⟩
        rw [hw5] at hbn hnew hlt ⊢
        rw [hxb] at hnew
        simp only [hxb]
        have HF := Lib.hid (And.intro (HE.out.1.below hbn) (And.intro (HE.out.2.1.below hbn) (And.intro (bl_trans' HE.out.2.2.1 hbn) (And.intro hnew hlt))))
        have HL5 := Lib.hid HE.out.2.2.2
        clear hbn hnew hlt hw5 hxb hm0 hm1 HE
        go_loopw [55] (fun tv wr => ∃ t : Nat, tv = .int .i64 t ∧ t ≤ 2 ∧ Below w5.heap.size w5 wr) (fun tv _ => 2 - (intOf tv).toNat)
        case atStart => exact ⟨0, rfl, by omega, Below.refl _ _⟩
        case round =>
          obtain ⟨t, rfl, ht, hbr⟩ := hrel
          by_cases hlt : t < 2
          · have d1 : decide ((t : Int) < 2) = true := by rw [decide_eq_true_iff]; omega
            obtain ⟨k, cx⟩ : ∃ k : Int, wr.cell? ⟨xb, t, none⟩ = some (.int .i64 k) := by
              have hk : wr.heap[xb]? = _ := (hbr.block xb HF.out.2.2.2.2).trans HF.out.2.2.2.1
              have ht2 : t = 0 ∨ t = 1 := by omega
              rcases ht2 with rfl | rfl
              · exact ⟨z, Lib.cell_of_heap hk 0⟩
              · exact ⟨m, Lib.cell_of_heap hk 1⟩
            have hby := HF.out.1.below hbr
            have hfs := HF.out.2.1.below hbr
            have hn1 := numP_any hby k
            have hn2 := numR_any hby k
            obtain ⟨⟨x, y⟩, hxy⟩ : ∃ x, numZ k lb = x := ⟨_, rfl⟩
            rw [hxy] at hn1 hn2
            simp only at hn1 hn2
            have hc1 := consP_any hfs (by have := HL5.out; omega) k
            obtain ⟨c, hcz⟩ : ∃ c, consZ k ls2 = c := ⟨_, rfl⟩
            rw [hcz] at hc1
            have HN := Lib.hid (And.intro hn1 (And.intro hn2 (And.intro hc1 (And.intro hby (And.intro hfs (And.intro hbr hcz))))))
            clear hn1 hn2 hc1 hby hfs hbr hxy hcz
            go_wp2_with fail
            refine HN.out.1.mono ?_
            rintro e w' ⟨rfl, rfl⟩
            go_wp2_with fail
            refine HN.out.2.1.mono ?_
            rintro e w' ⟨rfl, rfl⟩
            go_wp2_with fail
            refine HN.out.2.2.1.mono ?_
            rintro e w6 ⟨rfl, hb6⟩
            have hc2 := consR_any (HN.out.2.2.2.2.1.below hb6) (by have := HL5.out; omega) k
            rw [HN.out.2.2.2.2.2.2] at hc2
            have HO := Lib.hid (And.intro hc2 hb6)
            clear hc2 hb6 cx
            go_wp2_with fail
            refine HO.out.1.mono ?_
            rintro e w7 ⟨rfl, hb7⟩
            have HP := Lib.hid (bl_trans' HO.out.2 hb7)
            clear hb7
            go_wp2_with fail
            refine (l0_any (HN.out.2.2.2.2.1.below HP.out) (by have := HL5.out; omega)).mono ?_
            rintro e w' ⟨⟨x7, rfl, hx7⟩, rfl⟩
            obtain ⟨a7, c7, rfl, -⟩ := hx7.slice
            obtain ⟨l7, hl7⟩ : ∃ l, ls2.headD [] = l := ⟨_, rfl⟩
            rw [hl7] at hx7 ⊢
            have hf7 := filesS2 (HN.out.2.2.2.1.below HP.out) hx7
            have hc3 := consP_any hf7 (by show 2 ≤ 100000; omega) k
            obtain ⟨c3, hcz3⟩ : ∃ c, consZ k [lb, l7] = c := ⟨_, rfl⟩
            rw [hcz3] at hc3
            have HQ := Lib.hid (And.intro hc3 (And.intro hcz3 hl7))
            clear hf7 hc3 hcz3 hl7 hx7
            go_wp2_with fail
            refine HQ.out.1.mono ?_
            rintro e w8 ⟨rfl, hb8⟩
            have HR := Lib.hid (bl_trans' HP.out (bl_trans' (below_new _ _) hb8))
            clear hb8
            go_wp2_with fail
            refine (l0_any (HN.out.2.2.2.2.1.below HR.out) (by have := HL5.out; omega)).mono ?_
            rintro e w' ⟨⟨x9, rfl, hx9⟩, rfl⟩
            obtain ⟨a9, c9, rfl, -⟩ := hx9.slice
            rw [HQ.out.2.2] at hx9 ⊢
            have hc4 := consR_any (filesS2 (HN.out.2.2.2.1.below HR.out) hx9) (by show 2 ≤ 100000; omega) k
            rw [HQ.out.2.1] at hc4
            have HS := Lib.hid hc4
            clear hc4 hx9
            go_wp2_with fail
            refine HS.out.mono ?_
            rintro e w10 ⟨rfl, hb10⟩
            have HT := Lib.hid (bl_trans' HN.out.2.2.2.2.2.1 (bl_trans' HR.out (bl_trans' (below_new _ _) hb10)))
            clear hb10
            go_wp2
            go_roundw
            case rel => exact ⟨t + 1, by congr 1, by omega, HT.out⟩
            case measure => simp [intOf]; omega
          · obtain rfl : t = 2 := by omega
            have HT := Lib.hid hbr
            clear hbr
            go_wp2
            go_ret
            exact ⟨rfl, bl_trans' HF.out.2.2.1 HT.out⟩
end Go.Proofs.Ytfihnmfbgdjkpaa
