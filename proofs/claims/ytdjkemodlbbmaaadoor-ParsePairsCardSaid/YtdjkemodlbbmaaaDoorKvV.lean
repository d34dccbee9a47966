/- The statement that pairs with quoted values come back in the order of their names. -/
import Derived.Test.YtdjkemodlbbmaaaDoorKvU
import Derived.Test.YtdjkemodlbbmaaaDoorKvQ
import Derived.Deep.RegionHeld3
namespace Go.Proofs.YtdjkemodlbbmaaaDoor
open Go.RowKit

theorem PrI.start {w w2 : World} {C : Nat} (h : MkAt C w2) (hb : Below w.heap.size w w2) (hw : w.heap.size ≤ C) :
    PrI w C w2.heap.size ⟨#[]⟩ (.slice none 0 0) 0 (w2.alloc (.cells (namesP.map Value.string).toArray 9)) where
  mkt := h.alloc _
  cn := h.lt
  nn := by simp
  nm := fun i hi => by
    have := heap_alloc_new w2 (.cells (namesP.map Value.string).toArray 9)
    rw [Lib.cell_of_heap this]
    simp [hi]
  hb := hb.alloc hb.size _
  wc := hw
  txt := ⟨[], rfl, (fun p hp => by cases hp), rfl, rfl, FsR.nil _ _⟩
theorem blank_of {bl : ByteArray} (h : Value.string bl ∈ (#[.string ⟨#[32]⟩, .string ⟨#[32, 32]⟩] : Array Value).toList) : bl.size ≤ 2 ∧ (bl.data.toList = [32] ∨ bl.data.toList = [32, 32]) := by
  simp only [List.mem_cons, List.not_mem_nil, or_false, Value.string.injEq] at h
  rcases h with rfl | rfl
  · exact ⟨by decide, .inl rfl⟩
  · exact ⟨by decide, .inr rfl⟩
set_option maxRecDepth 100000 in
set_option maxHeartbeats 16000000 in
theorem law_pairs (v : Value) (sv : Value) (l : List UInt8) (L : List ByteArray) (w : World) (hA : ArgB w w.heap.size sv l) (h : StI w v L) :
    Calls Tryd.prog 5 #[sv, v] w fun e w' => e = .returned (.bool true) ∧ Below w.heap.size w w' := by
  obtain ⟨av, cv, rfl⟩ := h.slice
  obtain ⟨n, hn⟩ : ∃ n, L.length = n := ⟨_, rfl⟩
  rw [hn]
  have HN := Lib.hid hn
  have HV := Lib.hid h
  have HA := Lib.hid hA
  clear h hn hA
  obtain ⟨i0, hi0, hz0, hz1, hz2⟩ := info_parts infoFld
  go_enter Tryd.func5, Tryd.ntmps5
  go_wp2_with fail
  refine (awake11_any _).mono ?_
  rintro e w1 ⟨rfl, hb1⟩
  have HB1 := Lib.hid hb1
  clear hb1
  go_wp2_with fail
  refine (new_any _ l 60 w1 (HA.out.below HB1.out) (by omega)).mono ?_
  rintro e w2 ⟨rfl, hm2, hb2⟩
  have HP0 := Lib.hid (PrI.start hm2 (bel_trans HB1.out hb2) HB1.out.size)
  obtain ⟨C, hC⟩ : ∃ C, w1.heap.size = C := ⟨_, rfl⟩
  rw [hC] at HP0 ⊢
  clear hm2 hb2 hC
  go_wp2
  go_loopw [7, 8, 24] (fun a b d wr => ∃ (k : Nat) (s : ByteArray), d = .int .i64 k ∧ a = .string s ∧ k ≤ n ∧ k ≤ 5 ∧ s.size ≤ k * 129 ∧ PrI w C w2.heap.size s b k wr) (fun _ _ d _ => n - (intOf d).toNat)
  case atStart =>
    refine ⟨0, ⟨#[]⟩, rfl, rfl, Nat.zero_le _, Nat.zero_le _, Nat.zero_le _, ?_⟩
    exact HP0.out
  case round =>
    obtain ⟨k, s, rfl, rfl, hkn, hk5, hss, hI⟩ := hrel
    have HI := Lib.hid hI
    obtain ⟨F, hFl, ⟨va, vc, rfl⟩, hFI, hS1, hS2⟩ := hI.sorts hk5 (by omega)
    have HF := Lib.hid (And.intro hFl (And.intro hFI (And.intro hS1 hS2)))
    clear hI hFI hS1 hS2 hFl
    by_cases hgo : k < n ∧ k < 5 ∧ (∀ h : k < L.length, L[k].size ≤ 60)
    · obtain ⟨h1, h2, h3⟩ := hgo
      have hkL : k < L.length := by rw [HN.out]; exact h1
      obtain ⟨g, o, rfl, hcell, hg⟩ := HV.out.cell hkL
      have hcw := (HI.out.hb.cell (p := ⟨g, o + k, none⟩) hg).trans hcell
      have h60 := h3 hkL
      obtain ⟨x, hx⟩ : ∃ x, L[k] = x := ⟨_, rfl⟩
      rw [hx] at hcw h60
      have h60' : ¬ 60 < x.size := by omega
      have h5 : ¬ 5 ≤ k := by omega
      have hssz : s.size ≤ 645 := by omega
      clear hcell hx h3
      go_wp2
      go_loop [11, 12] (fun a d => ∃ (j : Nat) (q : ByteArray), j ≤ x.size ∧ d = .int .i64 j ∧ a = .string q ∧ q.data.toList = escd (x.data.toList.take j) ∧ q.size ≤ 2 * j) (fun _ d => x.size - (intOf d).toNat)
      case atStart => exact ⟨0, ⟨#[]⟩, Nat.zero_le _, rfl, rfl, rfl, Nat.zero_le _⟩
      case round =>
        obtain ⟨j, q, hj, rfl, rfl, hqd, hqs⟩ := hrel
        have HQ := Lib.hid hqd
        clear hqd
        have hqs2 : q.size ≤ 120 := by omega
        by_cases hjx : j < x.size
        · have hsl := fun W => sliceStr x j j (by omega) hjx W
          have HT := Lib.hid (take_b x j hjx)
          have hxe : (x.extract j (j + 1)).data.toList = [x[j]] := by
            rw [extract_b, take_b x j hjx, List.drop_left' (by rw [List.length_take, size_b]; omega)]
          have hxs : (x.extract j (j + 1)).size = 1 := by rw [← size_b, hxe]; rfl
          obtain ⟨y, hy⟩ : ∃ y, x.extract j (j + 1) = y := ⟨_, rfl⟩
          rw [hy] at hsl hxe hxs
          have HY := Lib.hid (And.intro hxe hxs)
          have hys : y.size ≤ 1 := by omega
          clear hy hxe hxs
          by_cases hsp : x[j] = 34 ∨ x[j] = 92
          · have HSP := Lib.hid hsp
            have hor : ((x[j].toNat : Int) == 34) = true ∨ (((x[j].toNat : Int) == 34) = false ∧ ((x[j].toNat : Int) == 92) = true) := by
              rcases hsp with e | e
              · left; rw [e]; rfl
              · right; rw [e]; exact ⟨rfl, rfl⟩
            clear hsp
            rcases hor with u1 | ⟨u1, u2⟩
            all_goals
              go_wp2
              go_round
              case rel =>
                refine ⟨j + 1, _, by omega, by go_num, rfl, ?_, ?_⟩
                · rw [HT.out, escd_app, ByteArray.data_append, ByteArray.data_append, Array.toList_append, Array.toList_append, HY.out.1, HQ.out]
                  simp [escd, HSP.out]
                · rw [ByteArray.size_append, ByteArray.size_append, HY.out.2]
                  show q.size + 1 + 1 ≤ _
                  omega
              case measure => simp [intOf]; omega
          · have u1 : ((x[j].toNat : Int) == 34) = false := by
              rw [beq_eq_false_iff_ne]; intro z
              exact hsp (.inl (UInt8.toNat_inj.1 (by simpa using (by omega : x[j].toNat = 34))))
            have u2 : ((x[j].toNat : Int) == 92) = false := by
              rw [beq_eq_false_iff_ne]; intro z
              exact hsp (.inr (UInt8.toNat_inj.1 (by simpa using (by omega : x[j].toNat = 92))))
            have HSP := Lib.hid hsp
            clear hsp
            go_wp2
            go_round
            case rel =>
              refine ⟨j + 1, _, by omega, by go_num, rfl, ?_, ?_⟩
              · rw [HT.out, escd_app, ByteArray.data_append, Array.toList_append, HY.out.1, HQ.out]
                simp [escd, HSP.out]
              · rw [ByteArray.size_append, HY.out.2]
                omega
            case measure => simp [intOf]; omega
        · have hQ1 : q.data.toList = escd x.data.toList := by
            rw [HQ.out, List.take_of_length_le (by rw [size_b]; omega)]
          have HQ1 := Lib.hid hQ1
          clear hQ1
          have hkP : k < namesP.length := by rw [namesP_len]; exact h2
          obtain ⟨nm, hnm⟩ : ∃ nm, namesP[k] = nm := ⟨_, rfl⟩
          have hns : nm.size ≤ 4 := by rw [← hnm]; exact (namesP_ok _ (List.getElem_mem _)).2.2.1
          have HNM := Lib.hid hnm
          have HS := Lib.hid (fun (W : World) (hW : GFr C wr W) => show W.cell? ⟨w2.heap.size, k, none⟩ = some (.string nm) from World.grownBy.cell hW (a := ⟨w2.heap.size, k, none⟩) (by rw [HI.out.nm k hkP, HNM.out]) (by have := HI.out.cn; simp; omega))
          have HPK := Lib.hid (fun (W : World) (hW : MkAt C W) => pickM C #[.string ⟨#[32]⟩, .string ⟨#[32, 32]⟩] 9 W 2 hW rfl (by omega) (by omega) (by
            intro z hz
            simp only [List.mem_cons, List.not_mem_nil, or_false] at hz
            rcases hz with rfl | rfl
            · exact ⟨_, rfl⟩
            · exact ⟨_, rfl⟩))
          have HF0 := Lib.hid (show GFr C wr wr.drew from (GFr.refl _ _).drew)
          have HM0 := Lib.hid (show MkAt C wr.drew from HI.out.mkt)
          clear hnm
          go_wp2_with fail
          have hcel0 := HS.out _ (GFr.refl _ _)
          have hnnM := HI.out.nn
          go_region_with ((go_at_call 10; refine (HPK.out _ HM0.out).mono ?_; rintro e wP ⟨⟨bl, rfl, hbl⟩, hmP, hfP⟩; have HFP := Lib.hid (HF0.out.trans hfP); have HMP := Lib.hid (And.intro hmP hbl); have hcP := HS.out _ HFP.out; have hbs : bl.size ≤ 2 := (blank_of hbl).1; clear hmP hfP hbl))
          all_goals
            obtain ⟨T, hT, hokT, hsT, hnT, hrT⟩ := HI.out.txt
            have hlT : (T.map (·.2)).length = k := by rw [List.length_map, hT]
            have hrow : wP.ownsRow (w2.heap.size + 1) 31 2 (.slice va k vc) k (encL (T.map (·.2))) := by
              have := hrT.gfr HFP.out (by have := HI.out.cn; omega)
              unfold FsR at this
              rw [hlT] at this
              exact this
            have hfrw := fun g hg => (World.ownsRow.lt hrow g hg).1
            have HR := Lib.hid hrow
            have HTT := Lib.hid (And.intro hT (And.intro hokT (And.intro hsT (And.intro hnT (And.intro hlT hfrw)))))
            clear hrow hT hokT hsT hnT hrT hlT hfrw
            go_wp2_with (at_builtin; refine wpList_append_own _ rfl _ _ 22 rfl (w2.heap.size + 1) 31 i0 (.agg #[.string ⟨#[]⟩, .string ⟨#[]⟩]) 2 32 Tryd.underlying22 hi0 hz0 hz1 hz2 rfl (by decide) _ _ _ rfl (HR.out.alloc _) ⟨wP.heap.size, 0, none⟩ 1 1 [.string nm, .string x] rfl rfl ?c1 ?c2 ?c3 ?c4 ?c5 ?_)
            case c1 =>
              intro j q hj
              obtain ⟨e0, e1, -, -⟩ := box2 (heap_alloc_new wP (.cells #[.string nm, .string x] 31))
              rw [Addr.add_lit, Nat.zero_add]
              match j, hj with
              | 0, hj => rw [e0]; simpa using hj
              | 1, hj => rw [e1]; simpa using hj
            case c2 =>
              intro q hq
              simp only [List.mem_cons, List.not_mem_nil, or_false] at hq
              rcases hq with rfl | rfl <;> rfl
            case c3 => unfold maxLen; omega
            case c4 => omega
            case c5 =>
              have q1 := HFP.out.size
              simp
              omega
            intro v' w3 hown' hgrow _
            obtain ⟨va', vc', rfl⟩ := rowf_slice hown'
            have hrow3 : FsR (w2.heap.size + 1) w3 (.slice va' (k + 1) vc') (T.map (·.2) ++ [(nm, x)]) := by
              show World.ownsRow _ _ _ _ _ _ _
              rw [encL_app, List.length_append, HTT.out.2.2.2.2.1]
              exact hown'
            have hstep : ∀ s' : ByteArray, s'.data.toList = s.data.toList ++ pieceB (bl.data.toList, (nm, x)) → PrI w C w2.heap.size s' (.slice va' (k + 1) vc') (k + 1) w3 := fun s' hs' =>
              PrI.step HI.out T HTT.out.1 HTT.out.2.1 HTT.out.2.2.1 HTT.out.2.2.2.1 (by rw [namesP_len]; exact h2) HFP.out HMP.out.1 _ hgrow HTT.out.2.2.2.2.2 (bl.data.toList, (nm, x))
                ⟨(blank_of HMP.out.2).2, by rw [← HNM.out]; exact (namesP_ok _ (List.getElem_mem _)).1, by rw [← HNM.out]; exact (namesP_ok _ (List.getElem_mem _)).2.1⟩ HNM.out.symm hs' hrow3
            have HST := Lib.hid hstep
            clear hown' hgrow hrow3 hstep
            go_wp2
            go_roundw
            case rel =>
              refine ⟨k + 1, _, by go_num, rfl, by omega, by omega, ?_, HST.out _ ?_⟩
              · repeat rw [ByteArray.size_append]
                simp only [show (⟨#[34]⟩ : ByteArray).size = 1 from rfl, show (⟨#[61, 34]⟩ : ByteArray).size = 2 from rfl]
                omega
              · repeat rw [ByteArray.data_append, Array.toList_append]
                rw [HQ1.out]
                unfold pieceB
                simp
            case measure => simp [intOf]; omega
    · have hend : k = n ∨ (k < n ∧ k = 5) ∨ (k < n ∧ k < 5 ∧ ∀ h : k < L.length, 60 < L[k].size) := by
        by_cases h1 : k < n
        · by_cases h2 : k < 5
          · right; right
            refine ⟨h1, h2, fun h => ?_⟩
            rcases Nat.lt_or_ge 60 L[k].size with q | q
            · exact q
            · exact absurd ⟨h1, h2, fun _ => q⟩ hgo
          · right; left; omega
        · left; omega
      rcases hend with hk | ⟨h1, h2⟩ | ⟨h1, h2, h3⟩
      · subst hk
        clear hgo
        go_wp2_with fail
        refine (HF.out.2.2.1 _ (Below.refl _ _)).mono ?_
        rintro e w3 ⟨⟨S1, v1, rfl, hp1, ha1, hf1⟩, hb3⟩
        have H3 := Lib.hid (And.intro hp1 (And.intro ha1 (And.intro hf1 hb3)))
        clear hp1 ha1 hf1 hb3
        go_wp2_with fail
        refine (HF.out.2.2.2 _).mono ?_
        rintro e w4 ⟨⟨S2, v2, rfl, hp2, ha2, hf2⟩, hb4⟩
        have hSS : S2 = S1 := asc_uniq ha2 H3.out.2.1 (hp2.trans H3.out.1.symm)
        subst hSS
        have hsm := sameF_any v2 v1 S2 (by rw [hp2.length_eq, HF.out.1]; omega) w4 hf2 (H3.out.2.2.1.below hb4)
        have HSM := Lib.hid hsm
        have H4 := Lib.hid hb4
        clear hp2 ha2 hf2 hb4 hsm
        go_wp2_with fail
        refine (HSM.out).mono ?_
        rintro e w5 ⟨rfl, hb5⟩
        have H5 := Lib.hid hb5
        clear hb5
        go_wp2
        go_ret
        exact ⟨rfl, bel_trans (bel_trans (bel_trans HI.out.hb H3.out.2.2.2) H4.out) H5.out⟩
      · have hkL : k < L.length := by rw [HN.out]; exact h1
        obtain ⟨g, o, rfl, hcell, hg⟩ := HV.out.cell hkL
        have hcw := (HI.out.hb.cell (p := ⟨g, o + k, none⟩) hg).trans hcell
        obtain ⟨x, hx⟩ : ∃ x, L[k] = x := ⟨_, rfl⟩
        rw [hx] at hcw
        subst h2
        clear hcell hx hgo
        go_wp2_with fail
        refine (HF.out.2.2.1 _ (Below.refl _ _)).mono ?_
        rintro e w3 ⟨⟨S1, v1, rfl, hp1, ha1, hf1⟩, hb3⟩
        have H3 := Lib.hid (And.intro hp1 (And.intro ha1 (And.intro hf1 hb3)))
        clear hp1 ha1 hf1 hb3
        go_wp2_with fail
        refine (HF.out.2.2.2 _).mono ?_
        rintro e w4 ⟨⟨S2, v2, rfl, hp2, ha2, hf2⟩, hb4⟩
        have hSS : S2 = S1 := asc_uniq ha2 H3.out.2.1 (hp2.trans H3.out.1.symm)
        subst hSS
        have hsm := sameF_any v2 v1 S2 (by rw [hp2.length_eq, HF.out.1]; omega) w4 hf2 (H3.out.2.2.1.below hb4)
        have HSM := Lib.hid hsm
        have H4 := Lib.hid hb4
        clear hp2 ha2 hf2 hb4 hsm
        go_wp2_with fail
        refine (HSM.out).mono ?_
        rintro e w5 ⟨rfl, hb5⟩
        have H5 := Lib.hid hb5
        clear hb5
        go_wp2
        go_ret
        exact ⟨rfl, bel_trans (bel_trans (bel_trans HI.out.hb H3.out.2.2.2) H4.out) H5.out⟩
      · have hkL : k < L.length := by rw [HN.out]; exact h1
        obtain ⟨g, o, rfl, hcell, hg⟩ := HV.out.cell hkL
        have hcw := (HI.out.hb.cell (p := ⟨g, o + k, none⟩) hg).trans hcell
        have h60 := h3 hkL
        obtain ⟨x, hx⟩ : ∃ x, L[k] = x := ⟨_, rfl⟩
        rw [hx] at hcw h60
        have h5 : ¬ 5 ≤ k := by omega
        clear hcell hx hgo h3
        go_wp2_with fail
        refine (HF.out.2.2.1 _ (Below.refl _ _)).mono ?_
        rintro e w3 ⟨⟨S1, v1, rfl, hp1, ha1, hf1⟩, hb3⟩
        have H3 := Lib.hid (And.intro hp1 (And.intro ha1 (And.intro hf1 hb3)))
        clear hp1 ha1 hf1 hb3
        go_wp2_with fail
        refine (HF.out.2.2.2 _).mono ?_
        rintro e w4 ⟨⟨S2, v2, rfl, hp2, ha2, hf2⟩, hb4⟩
        have hSS : S2 = S1 := asc_uniq ha2 H3.out.2.1 (hp2.trans H3.out.1.symm)
        subst hSS
        have hsm := sameF_any v2 v1 S2 (by rw [hp2.length_eq, HF.out.1]; omega) w4 hf2 (H3.out.2.2.1.below hb4)
        have HSM := Lib.hid hsm
        have H4 := Lib.hid hb4
        clear hp2 ha2 hf2 hb4 hsm
        go_wp2_with fail
        refine (HSM.out).mono ?_
        rintro e w5 ⟨rfl, hb5⟩
        have H5 := Lib.hid hb5
        clear hb5
        go_wp2
        go_ret
        exact ⟨rfl, bel_trans (bel_trans (bel_trans HI.out.hb H3.out.2.2.2) H4.out) H5.out⟩
end Go.Proofs.YtdjkemodlbbmaaaDoor
