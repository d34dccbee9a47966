/- The statement that Sort and Get are the reference's, and that sorting again changes nothing. -/
import Derived.Test.YtdjkemodlbbmaaaDoorKvX
import Derived.Test.YtdjkemodlbbmaaaDoorKvJ
namespace Go.Proofs.YtdjkemodlbbmaaaDoor
open Go.RowKit

theorem sortE_perm {S L : List FldV} (h : S.Perm L) : sortE S = sortE L := by
  unfold sortE
  rw [h.length_eq, dup_perm h, h.all_eq]
theorem sortA_ok {L : List FldV} {e : Ending} {w : World} (h0 : sortE L = 0) (h : SortA L e w) : ∃ S v', e = .returned (.tuple #[v', .int .i64 0]) ∧ S.Perm L ∧ Asc S ∧ FsI w v' S := by
  rcases h with ⟨-, S, v', h1, h2, h3, he⟩ | ⟨h1, -⟩
  · exact ⟨S, v', he, h1, h2, h3⟩
  · exact absurd h0 h1
theorem sortA_err {L : List FldV} {e : Ending} {w : World} (h0 : sortE L ≠ 0) (h : SortA L e w) : e = .returned (.tuple #[.slice none 0 0, .int .i64 (sortE L)]) := by
  rcases h with ⟨h1, -⟩ | ⟨-, he⟩
  · exact absurd h1 h0
  · exact he
theorem smallS (L : List FldV) (h : ∀ x ∈ L, x.1.size ≤ 100) : ∀ x ∈ L, x.1.size ≤ maxLen := fun x hx => by
  have := h x hx
  unfold maxLen
  omega
/-- The state of the loop that makes the list. -/
structure SoI (w : World) (C : Nat) (v : Value) (S : List FldV) (wr : World) : Prop where
  mkt : MkAt C wr
  row : FsR (C + 1) wr v S
  sz : ∀ x ∈ S, x.1.size ≤ 100
  hb : Below w.heap.size w wr
  wc : w.heap.size ≤ C
/-- The lists that are tried. -/
structure TrI (W : World) (X : Nat) (k : Nat) (a : Option Addr) (m c : Nat) (L : List FldV) : Prop where
  cell : W.cell? ⟨X, k, none⟩ = some (.slice a m c)
  row : FsI W (.slice a m c) L
  len : L.length = m
  le : m ≤ 60
  sz : ∀ x ∈ L, x.1.size ≤ maxLen
  lt : X < W.heap.size
set_option maxRecDepth 100000 in
set_option maxHeartbeats 16000000 in
theorem law_sorts (v : Value) (sv : Value) (l : List UInt8) (name : ByteArray) (L : List FldV) (w : World) (hA : ArgB w w.heap.size sv l) (h : FsI w v L) (hsz : ∀ x ∈ L, x.1.size ≤ maxLen) :
    Calls Tryd.prog 3 #[v, sv, .string name] w fun e w' => e = .returned (.bool true) ∧ Below w.heap.size w w' := by
  obtain ⟨av, cv, rfl⟩ := h.slice
  obtain ⟨n, hn⟩ : ∃ n, L.length = n := ⟨_, rfl⟩
  rw [hn]
  have HN := Lib.hid hn
  have HV := Lib.hid (And.intro h hsz)
  have HA := Lib.hid hA
  clear h hn hA hsz
  obtain ⟨i0, hi0, hz0, hz1, hz2⟩ := info_parts infoFld
  go_enter Tryd.func3, Tryd.ntmps3
  go_wp2_with fail
  refine (awake11_any _).mono ?_
  rintro e w1 ⟨rfl, hb1⟩
  have HB1 := Lib.hid hb1
  clear hb1
  by_cases h60 : 60 < n
  · go_wp2
    go_ret
    exact ⟨rfl, HB1.out⟩
  · go_wp2_with fail
    refine (new_any _ l 120 w1 (HA.out.below HB1.out) (by omega)).mono ?_
    rintro e w2 ⟨rfl, hm2, hb2⟩
    obtain ⟨C, hC⟩ : ∃ C, w1.heap.size = C := ⟨_, rfl⟩
    have hwC : w.heap.size ≤ C := by rw [← hC]; exact HB1.out.size
    rw [hC] at hm2
    have HC := Lib.hid hC
    rw [hC]
    have H2 := Lib.hid (And.intro hm2 (And.intro (bel_trans HB1.out hb2) hwC))
    clear hm2 hb2 hC hwC
    go_wp2_with fail
    refine (next_any C 40 w2 H2.out.1 (by omega) (by omega)).mono ?_
    rintro e w3 ⟨⟨z, rfl, hz, hz40⟩, hm3, hf3⟩
    obtain ⟨k0, rfl⟩ : ∃ i : Nat, z = (i : Int) := ⟨z.toNat, by omega⟩
    have hk0 : k0 ≤ 39 := by omega
    have H3 := Lib.hid (show SoI w C (.slice none 0 0) [] w3 from ⟨hm3, FsR.nil _ _, (fun x hx => by cases hx), H2.out.2.1.trans ((hf3.toBelow (Nat.le_of_lt H2.out.1.lt)).mono H2.out.2.2), H2.out.2.2⟩)
    clear hz hz40 hm3 hf3
    go_wp2
    go_loopw [8, 9] (fun a b wr => ∃ (S : List FldV) (k : Nat), b = .int .i64 k ∧ S.length + k ≤ 39 ∧ SoI w C a S wr) (fun _ b _ => (intOf b).toNat)
    case atStart => exact ⟨[], k0, rfl, by simpa using hk0, H3.out⟩
    case round =>
      obtain ⟨S, k, rfl, hSk, hI⟩ := hrel
      obtain ⟨va, vc, rfl⟩ := rowf_slice hI.row
      obtain ⟨m, hm⟩ : ∃ m, S.length = m := ⟨_, rfl⟩
      rw [hm] at hSk ⊢
      have HM := Lib.hid hm
      have HI := Lib.hid hI
      clear hI hm
      by_cases hk : 0 < k
      · have d1 : decide ((0 : Int) < (k : Int)) = true := by rw [decide_eq_true_iff]; omega
        have d2 : decide (0 < k) = true := by rw [decide_eq_true_iff]; omega
        go_wp2_with fail
        refine (pickB C _ _ _ 6 3 HI.out.mkt rfl (by omega) (by omega) (by rfl)).mono ?_
        rintro e w4 ⟨⟨y1, rfl, hy1⟩, hm4, hf4⟩
        have H4 := Lib.hid (And.intro hm4 hf4)
        clear hm4 hf4
        go_wp2_with fail
        refine (pickB C _ _ _ 7 1 H4.out.1 rfl (by omega) (by omega) (by rfl)).mono ?_
        rintro e w5 ⟨⟨y2, rfl, hy2⟩, hm5, hf5⟩
        have H5 := Lib.hid (And.intro hm5 (H4.out.2.trans hf5))
        clear hm5 hf5
        go_wp2_with fail
        refine (gtext1_any C w5 H5.out.1).mono ?_
        rintro e w6 ⟨⟨y3, rfl⟩, hm6, hf6⟩
        have H6 := Lib.hid (And.intro hm6 (H5.out.2.trans hf6))
        clear hm6 hf6
        have hys : (y1 ++ y2).size ≤ 100 := by rw [ByteArray.size_append]; omega
        have HYS := Lib.hid hys
        have hrow : w6.ownsRow (C + 1) 31 2 (.slice va m vc) m (encL S) := by
          have := HI.out.row.gfr H6.out.2 (Nat.lt_succ_self C)
          unfold FsR at this
          rw [HM.out] at this
          exact this
        have hfrw := fun g hg => (World.ownsRow.lt hrow g hg).1
        have HR := Lib.hid (And.intro hrow hfrw)
        clear hrow hys hfrw
        go_wp2_with (at_builtin; refine wpList_append_own _ rfl _ _ 22 rfl (C + 1) 31 i0 (.agg #[.string ⟨#[]⟩, .string ⟨#[]⟩]) 2 32 Tryd.underlying22 hi0 hz0 hz1 hz2 rfl (by decide) _ _ _ rfl (HR.out.1.alloc _) ⟨w6.heap.size, 0, none⟩ 1 1 [.string (y1 ++ y2), .string y3] rfl rfl ?c1 ?c2 ?c3 ?c4 ?c5 ?_)
        case c1 =>
          intro j q hj
          obtain ⟨e0, e1, -, -⟩ := box2 (heap_alloc_new w6 (.cells #[.string (y1 ++ y2), .string y3] 31))
          rw [Addr.add_lit, Nat.zero_add]
          match j, hj with
          | 0, hj => rw [e0]; simpa using hj
          | 1, hj => rw [e1]; simpa using hj
        case c2 =>
          intro q hq
          simp only [List.mem_cons, List.not_mem_nil, or_false] at hq
          rcases hq with rfl | rfl <;> rfl
        case c3 => unfold maxLen; omega
        case c4 => omega
        case c5 =>
          have q1 := H6.out.1.lt
          simp
          omega
        intro v' w7 hown' hgrow _
        obtain ⟨va', vc', rfl⟩ := rowf_slice hown'
        have hstep : SoI w C (.slice va' (m + 1) vc') (S ++ [(y1 ++ y2, y3)]) w7 := by
          refine ⟨(H6.out.1.alloc _).grown hgrow (fun b hb => by have := HR.out.2 b hb; omega), ?_, ?_, ?_, HI.out.wc⟩
          · show World.ownsRow _ _ _ _ _ _ _
            rw [encL_app, List.length_append, HM.out]
            exact hown'
          · intro x hx
            rcases List.mem_append.1 hx with hx | hx
            · exact HI.out.sz x hx
            · simp only [List.mem_cons, List.not_mem_nil, or_false] at hx
              subst hx
              exact HYS.out
          · have h1 := HI.out.hb.trans ((H6.out.2.toBelow (Nat.le_of_lt HI.out.mkt.lt)).mono HI.out.wc)
            have h2 := h1.alloc h1.size (.cells #[.string (y1 ++ y2), .string y3] 31)
            exact h2.grown hgrow h2.size (fun g hv2 => by have := HR.out.2 g hv2; have := HI.out.wc; omega)
        have HST := Lib.hid hstep
        clear hown' hgrow hstep
        go_wp2
        go_roundw
        case rel =>
          refine ⟨_, k - 1, ?_, ?_, HST.out⟩
          · congr 1; omega
          · rw [List.length_append, HM.out]; simp only [List.length_cons, List.length_nil]; omega
        case measure => simp [intOf]; omega
      · obtain rfl : k = 0 := by omega
        have hm60 : m ≤ 39 := by omega
        obtain ⟨p, hp⟩ : ∃ p, p = min m 5 := ⟨_, rfl⟩
        have hpm : p ≤ m := by omega
        have hmin : min (m : Int) 5 = (p : Int) := by omega
        have hup := run_upto va m vc p hpm (by
          have := HI.out.row
          rcases rowf_form this with ⟨e, -⟩ | ⟨g, cap, e, -, -, h1, -⟩
          · simp only [Value.slice.injEq] at e
            have := HM.out
            omega
          · simp only [Value.slice.injEq] at e
            have := HM.out
            omega)
        clear hp
        go_wp2
        have hnew := heap_alloc_new wr (.cells #[.slice av n cv, .slice va m vc, .slice va p vc] 22)
        have hbn := bel_new wr (.cells #[.slice av n cv, .slice va m vc, .slice va p vc] 22)
        have hszn : wr.heap.size < (wr.alloc (.cells #[.slice av n cv, .slice va m vc, .slice va p vc] 22)).heap.size := by simp
        obtain ⟨X, hX⟩ : ∃ X, wr.heap.size = X := ⟨_, rfl⟩
        obtain ⟨W, hW⟩ : ∃ W, wr.alloc (.cells #[.slice av n cv, .slice va m vc, .slice va p vc] 22) = W := ⟨_, rfl⟩
        rw [hW] at hnew hbn hszn ⊢
        rw [hX] at hnew hszn ⊢
        have hwW : Below w.heap.size w W := bel_trans HI.out.hb hbn
        have htr : ∀ k, k < 3 → ∃ (a : Option Addr) (m' c : Nat) (Lk : List FldV), TrI W X k a m' c Lk := fun k hk => by
          have h3 : k = 0 ∨ k = 1 ∨ k = 2 := by omega
          rcases h3 with rfl | rfl | rfl
          · exact ⟨av, n, cv, L, by rw [Lib.cell_of_heap hnew]; rfl, by have := HV.out.1.below hwW; rw [HN.out] at this; exact this, HN.out, by omega, HV.out.2, hszn⟩
          · exact ⟨va, m, vc, S, by rw [Lib.cell_of_heap hnew]; rfl, by have := HI.out.row.shows.below hbn; rw [HM.out] at this; exact this, HM.out, by omega, smallS S HI.out.sz, hszn⟩
          · refine ⟨va, p, vc, S.take p, by rw [Lib.cell_of_heap hnew]; rfl, ?_, by rw [List.length_take, HM.out]; omega, by omega, fun x hx => smallS S HI.out.sz x (List.mem_of_mem_take hx), hszn⟩
            have := HI.out.row.shows.below hbn
            rw [HM.out] at this
            exact this.upto hpm
        have HT := Lib.hid htr
        have HW := Lib.hid hwW
        clear hnew hbn hszn hX hW hwW htr hup hmin
        go_loopw [59] (fun x wv => ∃ k : Nat, x = .int .i64 k ∧ k ≤ 3 ∧ Below W.heap.size W wv) (fun x _ => 3 - (intOf x).toNat)
        case atStart => exact ⟨0, rfl, by omega, Below.refl _ _⟩
        case round =>
          obtain ⟨k, rfl, hk3, hbl⟩ := hrel
          by_cases hlt : k < 3
          · obtain ⟨a, m', c, Lk, hT⟩ := HT.out k hlt
            have hcw := (hbl.cell (p := ⟨X, k, none⟩) hT.lt).trans hT.cell
            have HTK := Lib.hid hT
            have HB := Lib.hid hbl
            clear hT hbl
            obtain ⟨cd, hcd⟩ : ∃ cd, sortE Lk = cd := ⟨_, rfl⟩
            by_cases hz0 : cd = 0
            · rw [hz0] at hcd
              have HS1 := Lib.hid (sort_any Lk _ wr (HTK.out.row.below HB.out))
              have HCD := Lib.hid hcd
              clear hcd hz0
              go_wp2_with fail
              refine (HS1.out).mono ?_
              rintro e w3 ⟨hA, hb3⟩
              obtain ⟨S1, v1, rfl, hp1, ha1, hf1⟩ := sortA_ok HCD.out hA
              have H3 := Lib.hid (And.intro hp1 (And.intro ha1 (And.intro hf1 hb3)))
              have HB3 := Lib.hid (bel_trans HB.out hb3)
              clear hA hp1 ha1 hf1 hb3
              have HS2 := Lib.hid (rsort_any Lk _ w3 (HTK.out.row.below HB3.out) HTK.out.sz)
              go_wp2_with fail
              refine (HS2.out).mono ?_
              rintro e w4 ⟨hA, hb4⟩
              obtain ⟨S2, v2, rfl, hp2, ha2, hf2⟩ := sortA_ok HCD.out hA
              have hSS : S2 = S1 := asc_uniq ha2 H3.out.2.1 (hp2.trans H3.out.1.symm)
              subst hSS
              have hl60 : S2.length ≤ 2097153 := by rw [hp2.length_eq, HTK.out.len]; have := HTK.out.le; omega
              have hf14 := H3.out.2.2.1.below hb4
              have HSM := Lib.hid (sameF_any v1 v2 S2 hl60 w4 hf14 hf2)
              have H4 := Lib.hid (And.intro hf14 (And.intro hl60 (bel_trans HB3.out hb4)))
              clear hA hp2 ha2 hf2 hb4 hl60 hf14
              go_wp2_with fail
              refine (HSM.out).mono ?_
              rintro e w5 ⟨rfl, hb5⟩
              have hf15 := H4.out.1.below hb5
              have HS3 := Lib.hid (sort_any S2 v1 w5 hf15)
              have H5 := Lib.hid (And.intro hf15 (bel_trans H4.out.2.2 hb5))
              clear hb5 hf15
              go_wp2_with fail
              refine (HS3.out).mono ?_
              rintro e w6 ⟨hA, hb6⟩
              obtain ⟨S3, v3, rfl, hp3, ha3, hf3⟩ := sortA_ok (by rw [sortE_perm H3.out.1]; exact HCD.out) hA
              have hSS : S3 = S2 := asc_uniq ha3 H3.out.2.1 hp3
              subst hSS
              have HSM2 := Lib.hid (sameF_any v3 v1 S3 H4.out.2.1 w6 hf3 (H5.out.1.below hb6))
              have H6 := Lib.hid (bel_trans H5.out.2 hb6)
              clear hA hp3 ha3 hf3 hb6
              go_wp2_with fail
              refine (HSM2.out).mono ?_
              rintro e w7 ⟨rfl, hb7⟩
              have H7 := Lib.hid (bel_trans H6.out hb7)
              clear hb7
              go_wp2
              have hnew := heap_alloc_new w7 (.cells #[.string name, .string ⟨#[97]⟩, .string ⟨#[98, 49]⟩] 9)
              have hbn := bel_new w7 (.cells #[.string name, .string ⟨#[97]⟩, .string ⟨#[98, 49]⟩] 9)
              have hszn : w7.heap.size < (w7.alloc (.cells #[.string name, .string ⟨#[97]⟩, .string ⟨#[98, 49]⟩] 9)).heap.size := by simp
              obtain ⟨Y, hY⟩ : ∃ Y, w7.heap.size = Y := ⟨_, rfl⟩
              obtain ⟨Q, hQ⟩ : ∃ Q, w7.alloc (.cells #[.string name, .string ⟨#[97]⟩, .string ⟨#[98, 49]⟩] 9) = Q := ⟨_, rfl⟩
              rw [hQ] at hnew hbn hszn ⊢
              rw [hY] at hnew hszn ⊢
              have hWQ : Below W.heap.size W Q := (H7.out).trans (hbn.mono (H7.out).size)
              have hnc : ∀ j, j < 3 → ∃ nm : ByteArray, Q.cell? ⟨Y, j, none⟩ = some (.string nm) := fun j hj => by
                have h3 : j = 0 ∨ j = 1 ∨ j = 2 := by omega
                rcases h3 with rfl | rfl | rfl
                · exact ⟨name, by rw [Lib.cell_of_heap hnew]; rfl⟩
                · exact ⟨⟨#[97]⟩, by rw [Lib.cell_of_heap hnew]; rfl⟩
                · exact ⟨⟨#[98, 49]⟩, by rw [Lib.cell_of_heap hnew]; rfl⟩
              have HNC := Lib.hid (And.intro hnc (And.intro hszn hWQ))
              clear hnew hbn hszn hY hQ hWQ hnc
              go_loopw [100] (fun x wv => ∃ j : Nat, x = .int .i64 j ∧ j ≤ 3 ∧ Below Q.heap.size Q wv) (fun x _ => 3 - (intOf x).toNat)
              case atStart => exact ⟨0, rfl, by omega, Below.refl _ _⟩
              case round =>
                obtain ⟨j, rfl, hj3, hbj⟩ := hrel
                have HBJ := Lib.hid (HNC.out.2.2.trans (hbj.mono HNC.out.2.2.size))
                by_cases hjl : j < 3
                · obtain ⟨nm, hnm⟩ := HNC.out.1 j hjl
                  have hcj := (hbj.cell (p := ⟨Y, j, none⟩) HNC.out.2.1).trans hnm
                  obtain ⟨gv, hgv⟩ : ∃ gv, getL Lk nm = gv := ⟨_, rfl⟩
                  have hG := fun (V : World) (q : Below W.heap.size W V) => get_any Lk (.slice a m' c) nm V (HTK.out.row.below q) (by have := HTK.out.len; have := HTK.out.le; omega)
                  have hR := fun (V : World) (q : Below W.heap.size W V) => rget_any Lk (.slice a m' c) nm V (HTK.out.row.below q) (by have := HTK.out.len; have := HTK.out.le; omega)
                  rw [hgv] at hG hR
                  obtain ⟨g1, g2⟩ := gv
                  unfold getV at hG hR
                  have HG := Lib.hid (And.intro hG hR)
                  have HJ := Lib.hid hbj
                  clear hnm hbj hG hR hgv
                  go_wp2_with fail
                  refine (HG.out.1 _ HBJ.out).mono ?_
                  rintro e w8 ⟨rfl, hb8⟩
                  have H8 := Lib.hid hb8
                  clear hb8
                  go_wp2_with fail
                  refine (HG.out.2 _ (HBJ.out.trans (H8.out.mono HBJ.out.size))).mono ?_
                  rintro e w9 ⟨rfl, rfl⟩
                  go_wp2
                  go_roundw
                  case rel => exact ⟨j + 1, by go_num, by omega, bel_trans HJ.out H8.out⟩
                  case measure => simp [intOf]; omega
                · have hje : j = 3 := by omega
                  subst hje
                  clear hbj
                  go_wp2
                  go_roundw
                  case rel =>
                    (repeat apply Exists.intro)
                    exact ⟨⟨k + 1, by go_num, by omega, HBJ.out⟩, rfl⟩
                  case measure => simp [intOf]; omega
            · have hcz : ((cd : Int) == 0) = false := by rw [beq_eq_false_iff_ne]; omega
              have hc0 : sortE Lk ≠ 0 := by rw [hcd]; exact hz0
              have HS1 := Lib.hid (sort_any Lk _ wr (HTK.out.row.below HB.out))
              have HCD := Lib.hid (And.intro hcd hc0)
              clear hcd hz0 hc0
              go_wp2_with fail
              refine (HS1.out).mono ?_
              rintro e w3 ⟨hA, hb3⟩
              have hA2 := sortA_err HCD.out.2 hA
              rw [HCD.out.1] at hA2
              subst hA2
              have HB3 := Lib.hid (bel_trans HB.out hb3)
              clear hA hb3
              have HS2 := Lib.hid (rsort_any Lk _ w3 (HTK.out.row.below HB3.out) HTK.out.sz)
              go_wp2_with fail
              refine (HS2.out).mono ?_
              rintro e w4 ⟨hA, hb4⟩
              have hA2 := sortA_err HCD.out.2 hA
              rw [HCD.out.1] at hA2
              subst hA2
              have HB4 := Lib.hid (bel_trans HB3.out hb4)
              have HSM := Lib.hid (sameF_any (.slice none 0 0) (.slice none 0 0) [] (by simp) w4 (.inl ⟨rfl, _, _, rfl⟩) (.inl ⟨rfl, _, _, rfl⟩))
              clear hA hb4
              go_wp2_with fail
              refine (HSM.out).mono ?_
              rintro e w7 ⟨rfl, hb7⟩
              have H7 := Lib.hid (bel_trans HB4.out hb7)
              clear hb7
              go_wp2
              have hnew := heap_alloc_new w7 (.cells #[.string name, .string ⟨#[97]⟩, .string ⟨#[98, 49]⟩] 9)
              have hbn := bel_new w7 (.cells #[.string name, .string ⟨#[97]⟩, .string ⟨#[98, 49]⟩] 9)
              have hszn : w7.heap.size < (w7.alloc (.cells #[.string name, .string ⟨#[97]⟩, .string ⟨#[98, 49]⟩] 9)).heap.size := by simp
              obtain ⟨Y, hY⟩ : ∃ Y, w7.heap.size = Y := ⟨_, rfl⟩
              obtain ⟨Q, hQ⟩ : ∃ Q, w7.alloc (.cells #[.string name, .string ⟨#[97]⟩, .string ⟨#[98, 49]⟩] 9) = Q := ⟨_, rfl⟩
              rw [hQ] at hnew hbn hszn ⊢
              rw [hY] at hnew hszn ⊢
              have hWQ : Below W.heap.size W Q := (H7.out).trans (hbn.mono (H7.out).size)
              have hnc : ∀ j, j < 3 → ∃ nm : ByteArray, Q.cell? ⟨Y, j, none⟩ = some (.string nm) := fun j hj => by
                have h3 : j = 0 ∨ j = 1 ∨ j = 2 := by omega
                rcases h3 with rfl | rfl | rfl
                · exact ⟨name, by rw [Lib.cell_of_heap hnew]; rfl⟩
                · exact ⟨⟨#[97]⟩, by rw [Lib.cell_of_heap hnew]; rfl⟩
                · exact ⟨⟨#[98, 49]⟩, by rw [Lib.cell_of_heap hnew]; rfl⟩
              have HNC := Lib.hid (And.intro hnc (And.intro hszn hWQ))
              clear hnew hbn hszn hY hQ hWQ hnc
              go_loopw [100] (fun x wv => ∃ j : Nat, x = .int .i64 j ∧ j ≤ 3 ∧ Below Q.heap.size Q wv) (fun x _ => 3 - (intOf x).toNat)
              case atStart => exact ⟨0, rfl, by omega, Below.refl _ _⟩
              case round =>
                obtain ⟨j, rfl, hj3, hbj⟩ := hrel
                have HBJ := Lib.hid (HNC.out.2.2.trans (hbj.mono HNC.out.2.2.size))
                by_cases hjl : j < 3
                · obtain ⟨nm, hnm⟩ := HNC.out.1 j hjl
                  have hcj := (hbj.cell (p := ⟨Y, j, none⟩) HNC.out.2.1).trans hnm
                  obtain ⟨gv, hgv⟩ : ∃ gv, getL Lk nm = gv := ⟨_, rfl⟩
                  have hG := fun (V : World) (q : Below W.heap.size W V) => get_any Lk (.slice a m' c) nm V (HTK.out.row.below q) (by have := HTK.out.len; have := HTK.out.le; omega)
                  have hR := fun (V : World) (q : Below W.heap.size W V) => rget_any Lk (.slice a m' c) nm V (HTK.out.row.below q) (by have := HTK.out.len; have := HTK.out.le; omega)
                  rw [hgv] at hG hR
                  obtain ⟨g1, g2⟩ := gv
                  unfold getV at hG hR
                  have HG := Lib.hid (And.intro hG hR)
                  have HJ := Lib.hid hbj
                  clear hnm hbj hG hR hgv
                  go_wp2_with fail
                  refine (HG.out.1 _ HBJ.out).mono ?_
                  rintro e w8 ⟨rfl, hb8⟩
                  have H8 := Lib.hid hb8
                  clear hb8
                  go_wp2_with fail
                  refine (HG.out.2 _ (HBJ.out.trans (H8.out.mono HBJ.out.size))).mono ?_
                  rintro e w9 ⟨rfl, rfl⟩
                  go_wp2
                  go_roundw
                  case rel => exact ⟨j + 1, by go_num, by omega, bel_trans HJ.out H8.out⟩
                  case measure => simp [intOf]; omega
                · have hje : j = 3 := by omega
                  subst hje
                  clear hbj
                  go_wp2
                  go_roundw
                  case rel =>
                    (repeat apply Exists.intro)
                    exact ⟨⟨k + 1, by go_num, by omega, HBJ.out⟩, rfl⟩
                  case measure => simp [intOf]; omega
          · have hke : k = 3 := by omega
            subst hke
            go_wp2
            go_ret
            exact ⟨rfl, HW.out.trans (hbl.mono HW.out.size)⟩
end Go.Proofs.YtdjkemodlbbmaaaDoor
