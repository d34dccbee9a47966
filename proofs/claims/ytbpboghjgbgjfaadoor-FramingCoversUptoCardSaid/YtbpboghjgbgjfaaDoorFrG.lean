/- FramingCovers: the law. -/
import Derived.Test.YtbpboghjgbgjfaaDoorFrF
import Derived.Test.YtbpboghjgbgjfaaDoorArgs
import Derived.IntWalk
namespace Go.Proofs.YtbpboghjgbgjfaaDoor
open Go.RowKit

theorem frS_lt {p : List UInt8} {lim : Int} (h : p[p.length - 1]? = some 10) : (frS p lim).size < p.length := by
  have h1 := stripN_lt h
  unfold frS
  split
  · show 0 < p.length
    omega
  · have h2 := textB_len p
    show (textB p).toArray.size < p.length
    rw [List.size_toArray, h2]
    exact h1
theorem pcL_last (l : List UInt8) (A B : Nat) (h1 : A < B) (h2 : B ≤ l.length) (h3 : l[B - 1]? = some 10) : (pcL l (A, B))[(pcL l (A, B)).length - 1]? = some 10 := by
  rw [pcL_len l (A, B) h2]
  unfold pcL
  rw [List.getElem?_take, if_pos (by show B - A - 1 < B - A; omega), List.getElem?_drop]
  show l[A + (B - A - 1)]? = some 10
  rw [show A + (B - A - 1) = B - 1 by omega, h3]

set_option maxRecDepth 100000 in
set_option linter.unusedSimpArgs false in
set_option maxHeartbeats 8000000 in
theorem law_covers (bv : Value) (lb : List UInt8) (lim : Int) (w : World) (hT : Tabs w) (hb : ArgB w w.heap.size bv lb) (hl : lb.length ≤ 1048576) :
    Calls Tryd.prog 5 #[bv, .int .i64 lim] w fun e w' => e = .returned (.bool true) ∧ Below w.heap.size w w' := by
  have hbs := byS_arg hb
  obtain ⟨ba, bc, rfl, hbc, -⟩ := id hbs
  have haw := awake9_any w hT
  have hfr := fun w1 (h1 : Below w.heap.size w w1) => frame_yes ba bc 0 lb lb rfl lim (by omega) (by omega) w1 (Utf8Tabs_below hT h1) (hbs.below h1)
  obtain ⟨sp, hsp⟩ : ∃ sp, spK lb lb.length = sp := ⟨_, rfl⟩
  obtain ⟨K, hK⟩ : ∃ K, lastK lb lb.length = K := ⟨_, rfl⟩
  obtain ⟨n, hn⟩ : ∃ n, lb.length = n := ⟨_, rfl⟩
  rw [hsp, hK] at hfr
  simp only [hn] at hfr hbs hbc hl ⊢
  have H := Lib.hid (And.intro haw (And.intro hfr (And.intro hbs (And.intro hsp (And.intro hK hn)))))
  clear haw hfr hbs hsp hK hn hb hT
  go_enter Tryd.func5, Tryd.ntmps5
  go_wp2_with fail
  refine H.out.1.mono ?_
  rintro e w1 ⟨rfl, hb1⟩
  have HB1 := Lib.hid hb1
  clear hb1
  go_wp2_with fail
  refine (H.out.2.1 w1 HB1.out).mono ?_
  rintro e w2 ⟨⟨v, rfl, hr⟩, hb2⟩
  obtain ⟨a, c, rfl, hc, hx⟩ := fr_form hr
  obtain ⟨N, hN⟩ : ∃ N, sp.length = N := ⟨_, rfl⟩
  rw [hN] at hc ⊢
  have hNn : N ≤ n := by rw [← hN, ← H.out.2.2.2.1, ← H.out.2.2.2.2.2]; exact spK_len _ _
  have HA := Lib.hid (And.intro hx (And.intro hN (bl_trans' HB1.out hb2)))
  clear hx hN hb2 hr
  have hk0 : ((0 : Nat) : Int) + (K : Int) = (K : Int) := by omega
  simp only [hk0]
  go_wp2_with fail
  go_loopw [7, 21] (fun tv iv wr => ∃ i : Nat, i ≤ N ∧ iv = .int .i64 i ∧ tv = .int .i64 (endOf sp i : Int) ∧ Below w2.heap.size w2 wr) (fun _ iv _ => N - (intOf iv).toNat)
  case atStart => exact ⟨0, Nat.zero_le _, rfl, rfl, Below.refl _ _⟩
  case round =>
    obtain ⟨i, hi, rfl, rfl, hbr⟩ := hrel
    have HR := Lib.hid hbr
    clear hbr
    by_cases hlt : i < N
    · have d1 : decide ((i : Int) < (N : Int)) = true := by rw [decide_eq_true_iff]; omega
      have i1 : (i : Int) < (N : Int) := by omega
      have i0 : (0 : Int) ≤ (i : Int) := by omega
      obtain ⟨g, E, b, S, D, bb, rfl, q0, q1, q2, q3, q4, hE, hE2, hEb, hbn, hbb, hSs, hbS, hbD, h10, hno⟩ : ∃ (g E b : Nat) (S : ByteArray) (D : Int) (bb : Bool), a = some ⟨g, 0, none⟩ ∧
          wr.cell? ⟨g, i * 5, none⟩ = some (.int .i64 (E : Int)) ∧ wr.cell? ⟨g, i * 5 + 1, none⟩ = some (.int .i64 (((b + 1 - E : Nat)) : Int)) ∧ wr.cell? ⟨g, i * 5 + 2, none⟩ = some (.string S) ∧ wr.cell? ⟨g, i * 5 + 3, none⟩ = some (.int .i64 D) ∧ wr.cell? ⟨g, i * 5 + 4, none⟩ = some (.bool bb) ∧
          endOf sp i = E ∧ endOf sp (i + 1) = b + 1 ∧ E ≤ b ∧ b < n ∧ bb = decide (lim < (((b + 1 - E : Nat)) : Int)) ∧ S.size < b + 1 - E ∧ (bb = true → S = ⟨#[]⟩) ∧ (bb = true → D = 0) ∧ lb[b]? = some 10 ∧ ∀ j, E ≤ j → j < b → ¬ lb[j]? = some 10 := by
        have hsl : i < sp.length := by rw [HA.out.2.1]; exact hlt
        obtain ⟨g, h1, h2⟩ := HA.out.1 i hsl
        obtain ⟨b, h7, h8, h9⟩ := spK_at lb lb.length i (by rw [H.out.2.2.2.1]; exact hsl)
        simp only [H.out.2.2.2.1] at h7
        have hin := spK_in lb lb.length sp[i] (by rw [H.out.2.2.2.1]; exact List.getElem_mem _)
        rw [h7] at hin
        simp only [Nat.add_sub_cancel] at hin
        have hlb : b + 1 ≤ lb.length := by omega
        have hpl := pcL_len lb (endOf sp i, b + 1) hlb
        have hcell : ∀ j, j < 5 → wr.cell? ⟨g, i * 5 + j, none⟩ = (frC ((endOf sp i : Nat) : Int) (pcL lb (endOf sp i, b + 1)) lim)[j]? := fun j hj => by
          have h3 := h2 j hj
          rw [h7] at h3
          have e : ((0 : Nat) : Int) + ((endOf sp i, b + 1).1 : Int) = ((endOf sp i : Nat) : Int) := by show (0 : Int) + ((endOf sp i : Nat) : Int) = _; omega
          rw [e] at h3
          have hlt5 : j < (frC ((endOf sp i : Nat) : Int) (pcL lb (endOf sp i, b + 1)) lim).length := hj
          rw [List.getElem?_eq_getElem hlt5] at h3 ⊢
          exact (HR.out.cell (p := ⟨g, i * 5 + j, none⟩) (block_lt_of_cell h3)).trans h3
        have hlast := pcL_last lb (endOf sp i) (b + 1) hin.1 hlb h9
        have hsz := frS_lt (lim := lim) hlast
        rw [hpl] at hsz
        refine ⟨g, endOf sp i, b, frS (pcL lb (endOf sp i, b + 1)) lim, frD (pcL lb (endOf sp i, b + 1)) lim, frB (pcL lb (endOf sp i, b + 1)) lim, h1, hcell 0 (by omega), ?_, hcell 2 (by omega), hcell 3 (by omega), hcell 4 (by omega), rfl, by rw [endOf_succ _ _ hsl, h7], by omega, by have := H.out.2.2.2.2.2; omega, ?_, hsz, fun h => ?_, fun h => ?_, h9, hin.2.2.2⟩
        · have h4 := hcell 1 (by omega)
          rw [h4]
          show some (Value.int .i64 ((pcL lb (endOf sp i, b + 1)).length : Int)) = _
          rw [hpl]
        · unfold frB
          rw [hpl]
        · unfold frS
          rw [h]
          rfl
        · unfold frD
          rw [h]
          rfl
      obtain ⟨pn, hpn⟩ : ∃ pn, b + 1 - E = pn := ⟨_, rfl⟩
      rw [hpn] at q1 hbb hSs
      have hpn0 : 1 ≤ pn := by omega
      have f1 : decide ((pn : Int) < 1) = false := decide_eq_false (by omega)
      have f2 : decide ((n : Int) - (E : Int) < (pn : Int)) = false := decide_eq_false (by omega)
      have f3 : decide ((pn : Int) ≤ (S.size : Int)) = false := decide_eq_false (by omega)
      have f4 : decide (pn ≤ S.size) = false := decide_eq_false (by omega)
      have f5 : decide (pn < 1) = false := decide_eq_false (by omega)
      have HX := Lib.hid (And.intro hE2 (And.intro hEb (And.intro hbn (And.intro h10 (And.intro hno hpn)))))
      rw [hE]
      clear hE2 hno h10 hpn hE
      by_cases hbt : lim < (pn : Int)
      case' pos =>
        have g1 : decide (lim < (pn : Int)) = true := decide_eq_true hbt
        rw [g1] at hbb
        subst hbb
        obtain rfl := hbS rfl
        obtain rfl := hbD rfl
        clear hbS hbD
        go_wp2_with fail
        have k0 := BkAt.new 41 #[.int .i64 (E : Int), .int .i64 (pn : Int), .string ⟨#[]⟩, .int .i64 0, .bool true] wr
        have k1 := bl_trans' HR.out (below_new wr (.cells #[.int .i64 (E : Int), .int .i64 (pn : Int), .string ⟨#[]⟩, .int .i64 0, .bool true] 41))
        obtain ⟨W0, hW0⟩ : ∃ x, wr.alloc (.cells #[.int .i64 (E : Int), .int .i64 (pn : Int), .string ⟨#[]⟩, .int .i64 0, .bool true] 41) = x := ⟨_, rfl⟩
      case' neg =>
        have g1 : decide (lim < (pn : Int)) = false := decide_eq_false hbt
        rw [g1] at hbb
        subst hbb
        clear hbS hbD
        go_wp2_with fail
        have k0 := BkAt.new 41 #[.int .i64 (E : Int), .int .i64 (pn : Int), .string S, .int .i64 D, .bool false] wr
        have k1 := bl_trans' HR.out (below_new wr (.cells #[.int .i64 (E : Int), .int .i64 (pn : Int), .string S, .int .i64 D, .bool false] 41))
        obtain ⟨W0, hW0⟩ : ∃ x, wr.alloc (.cells #[.int .i64 (E : Int), .int .i64 (pn : Int), .string S, .int .i64 D, .bool false] 41) = x := ⟨_, rfl⟩
      all_goals
        rw [hW0] at k0 k1 ⊢
        obtain ⟨d9, hd9⟩ : ∃ x, wr.heap.size = x := ⟨_, rfl⟩
        rw [hd9] at k0
        simp only [hd9]
        have hby := H.out.2.2.1.below (bl_trans' HA.out.2.2 k1)
        have y1 : W0.cell? ⟨d9, 1, none⟩ = some (.int .i64 (pn : Int)) := k0.cell 1
        have w1a : IntKind.i64.wrap ((E : Int) + (pn : Int)) = (E : Int) + (pn : Int) := IntWalk.i64_in _ (by have := HX.out.2.1; have := HX.out.2.2.1; have := HX.out.2.2.2.2.2; omega)
        have w1b : IntKind.i64.wrap ((E : Int) + (pn : Int) - 1) = (E : Int) + (pn : Int) - 1 := IntWalk.i64_in _ (by have := HX.out.2.1; have := HX.out.2.2.1; have := HX.out.2.2.2.2.2; omega)
        have hsum : (E : Int) + (pn : Int) = (b : Int) + 1 := by have := HX.out.2.1; have := HX.out.2.2.2.2.2; omega
        have HB := Lib.hid (And.intro hby (And.intro k1 hsum))
        clear hby k1 k0 hW0 hd9 hsum q0 q1 q2 q3 q4 hSs f1 f2 f3 f4 f5 g1 hbt
        go_loopw [10] (fun jv wx => ∃ j m : Nat, E ≤ j ∧ j ≤ b + 1 ∧ jv = .int .i64 j ∧ wx = W0.drewN m) (fun jv _ => b + 1 - (intOf jv).toNat)
        case atStart => exact ⟨E, 0, Nat.le_refl _, by omega, rfl, rfl⟩
        case round =>
          obtain ⟨j, m, hj1, hj2, rfl, rfl⟩ := hrel
          by_cases hjl : j ≤ b
          · have e1 : decide ((j : Int) < (E : Int) + (pn : Int)) = true := by rw [HB.out.2.2, decide_eq_true_iff]; omega
            obtain ⟨bg, bo, rfl, hcx⟩ : ∃ bg bo, ba = some ⟨bg, bo, none⟩ ∧ ∀ x, lb[j]? = some x → W0.cell? ⟨bg, bo + j, none⟩ = some (.int .u8 (x.toNat : Int)) := by
              obtain ⟨a2, c2, e2, -, hx⟩ := HB.out.1
              injection e2 with e3 e4 e5
              subst e3
              have hjn : j < lb.length := by have := H.out.2.2.2.2.2; omega
              obtain ⟨bg, bo, h1, -, h2⟩ := hx j hjn
              refine ⟨bg, bo, h1, fun x hx => ?_⟩
              rw [List.getElem?_eq_getElem hjn] at hx
              cases hx
              exact h2
            have j0 : (0 : Int) ≤ (j : Int) := by omega
            have j1 : (j : Int) < (n : Int) := by omega
            by_cases hjb : j = b
            · subst hjb
              have cx : W0.cell? ⟨bg, bo + j, none⟩ = some (.int .u8 10) := hcx 10 HX.out.2.2.2.1
              have e2 : decide ((j : Int) = (E : Int) + (pn : Int) - 1) = true := by rw [HB.out.2.2, decide_eq_true_iff]; omega
              have e3 : ((j : Int) == (E : Int) + (pn : Int) - 1) = true := by rw [HB.out.2.2, beq_iff_eq]; omega
              clear hcx
              go_wp2_with fail
              go_quiet (fail)
              go_wp2
              go_roundw
              case rel => exact ⟨j + 1, m + nq, by omega, by omega, by congr 1, rfl⟩
              case measure => simp [intOf]
            · obtain ⟨x, hx⟩ : ∃ x, lb[j]? = some x := ⟨_, List.getElem?_eq_getElem (by have := H.out.2.2.2.2.2; omega)⟩
              have hx10 : ¬ x = 10 := fun e => HX.out.2.2.2.2.1 j hj1 (by omega) (by rw [hx, e])
              have cx := hcx x hx
              have hxi : ¬ ((x.toNat : Int) = 10) := fun e => hx10 (UInt8.toNat_inj.1 (by show x.toNat = 10; omega))
              obtain ⟨y, hy⟩ : ∃ y : Int, (x.toNat : Int) = y := ⟨_, rfl⟩
              rw [hy] at cx hxi
              have e4 : decide (y = 10) = false := decide_eq_false hxi
              have e5 : (y == 10) = false := by rw [beq_eq_false_iff_ne]; exact hxi
              have e2 : decide ((j : Int) = (E : Int) + (pn : Int) - 1) = false := by rw [HB.out.2.2, decide_eq_false_iff_not]; omega
              have e3 : ((j : Int) == (E : Int) + (pn : Int) - 1) = false := by rw [HB.out.2.2, beq_eq_false_iff_ne]; omega
              clear hcx hx hx10 hy
              go_wp2_with fail
              go_quiet (fail)
              go_wp2
              go_roundw
              case rel => exact ⟨j + 1, m + nq, by omega, by omega, by congr 1, rfl⟩
              case measure => simp [intOf]; omega
          · obtain rfl : j = b + 1 := by omega
            have e1 : decide (((b + 1 : Nat) : Int) < (E : Int) + (pn : Int)) = false := by rw [HB.out.2.2, decide_eq_false_iff_not]; omega
            have e1b : decide ((b : Int) + 1 < (E : Int) + (pn : Int)) = false := by rw [HB.out.2.2, decide_eq_false_iff_not]; omega
            go_wp2
            go_roundw
            case rel => exact ⟨i + 1, by omega, by congr 1, by rw [HX.out.1]; congr 1; have := HB.out.2.2; omega, bl_drewN HB.out.2.1 m⟩
            case measure => simp [intOf]; omega
    · obtain rfl : i = N := by omega
      have d1 : decide ((i : Int) < (i : Int)) = false := by simp
      have hend : endOf sp i = K := by
        have := endOf_len lb lb.length
        rw [H.out.2.2.2.1, HA.out.2.1, H.out.2.2.2.2.1] at this
        exact this
      rw [hend]
      go_wp2
      go_ret
      exact ⟨rfl, bl_trans' HA.out.2.2 HR.out⟩
end Go.Proofs.YtbpboghjgbgjfaaDoor
