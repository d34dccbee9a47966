/- FilesystemLines: the law. -/
import Derived.Test.YtmciiolefiodhaaFsT
import Derived.Test.YtmciiolefiodhaaFsW
import Derived.Test.YtmciiolefiodhaaFsX
namespace Go.Proofs.Ytmciiolefiodhaa
open Go.RowKit

theorem bl_drewN {B : Nat} {a b : World} (h : Below B a b) (n : Nat) : Below B a (b.drewN n) := ⟨h.os, h.tape, h.output, h.size, h.block⟩
/-- Where the span before i ends. -/
def endOf (L : List (Nat × Nat)) : Nat → Nat
  | 0 => 0
  | i + 1 => (L[i]?.map (·.2)).getD 0
theorem endOf_app (L M : List (Nat × Nat)) : ∀ i, i ≤ L.length → endOf (L ++ M) i = endOf L i
  | 0, _ => rfl
  | i + 1, h => by
    show ((L ++ M)[i]?.map (·.2)).getD 0 = (L[i]?.map (·.2)).getD 0
    rw [List.getElem?_append_left (by omega)]
theorem endOf_len (l : List UInt8) : ∀ k, endOf (spK l k) (spK l k).length = lastK l k
  | 0 => rfl
  | k + 1 => by
    by_cases h : l[k]? = some 10
    · rw [lastK_yes h]
      have e : spK l (k + 1) = spK l k ++ [(lastK l k, k + 1)] := if_pos h
      rw [e, List.length_append]
      show ((spK l k ++ [(lastK l k, k + 1)])[(spK l k).length]?.map (·.2)).getD 0 = k + 1
      rw [List.getElem?_append_right (Nat.le_refl _), Nat.sub_self]
      rfl
    · rw [lastK_no h]
      have e : spK l (k + 1) = spK l k := if_neg h
      rw [e]
      exact endOf_len l k
theorem spK_at (l : List UInt8) : ∀ k i (h : i < (spK l k).length), ∃ b, (spK l k)[i] = (endOf (spK l k) i, b + 1) ∧ b < k ∧ l[b]? = some 10
  | 0, i, h => by cases h
  | k + 1, i, h => by
    by_cases h10 : l[k]? = some 10
    · have e : spK l (k + 1) = spK l k ++ [(lastK l k, k + 1)] := if_pos h10
      simp only [e] at h ⊢
      by_cases hi : i < (spK l k).length
      · obtain ⟨b, h1, h2, h3⟩ := spK_at l k i hi
        exact ⟨b, by rw [List.getElem_append_left hi, h1, endOf_app _ _ i (by omega)], by omega, h3⟩
      · rw [List.length_append] at h
        have hi2 : i = (spK l k).length := by
          have : [(lastK l k, k + 1)].length = 1 := rfl
          omega
        subst hi2
        refine ⟨k, ?_, by omega, h10⟩
        rw [endOf_app _ _ _ (Nat.le_refl _), endOf_len, List.getElem_append_right (Nat.le_refl _)]
        simp
    · have e : spK l (k + 1) = spK l k := if_neg h10
      simp only [e] at h ⊢
      obtain ⟨b, h1, h2, h3⟩ := spK_at l k i h
      exact ⟨b, h1, by omega, h3⟩
theorem last_after (l : List UInt8) : ∀ k j, lastK l k ≤ j → j < k → ¬ l[j]? = some 10
  | 0, j, _, h => by omega
  | k + 1, j, h1, h2 => by
    by_cases h10 : l[k]? = some 10
    · rw [lastK_yes h10] at h1; omega
    · rw [lastK_no h10] at h1
      by_cases hj : j = k
      · rw [hj]; exact h10
      · exact last_after l k j h1 (by omega)
theorem endOf_succ (L : List (Nat × Nat)) (i : Nat) (h : i < L.length) : endOf L (i + 1) = L[i].2 := by
  show (L[i]?.map (·.2)).getD 0 = _
  rw [List.getElem?_eq_getElem h]; rfl
theorem endOf_le (l : List UInt8) (k : Nat) : ∀ i, i ≤ (spK l k).length → endOf (spK l k) i ≤ k
  | 0, _ => Nat.zero_le _
  | i + 1, h => by
    obtain ⟨b, h1, h2, -⟩ := spK_at l k i (by omega)
    rw [endOf_succ _ _ (by omega), h1]
    exact h2
/-- A span's cells. -/
theorem encS_get : ∀ (L : List (Nat × Nat)) (i : Nat) (h : i < L.length), (encS L)[i * 2]? = some (.int .i64 (L[i].1 : Int)) ∧ (encS L)[i * 2 + 1]? = some (.int .i64 (L[i].2 : Int))
  | x :: L, 0, _ => ⟨rfl, rfl⟩
  | x :: L, i + 1, h => by
    have h2 := encS_get L i (by simpa using h)
    have e : encS (x :: L) = [.int .i64 (x.1 : Int), .int .i64 (x.2 : Int)] ++ encS L := rfl
    rw [e, show (i + 1) * 2 = 2 + i * 2 by omega, show 2 + i * 2 + 1 = 2 + (i * 2 + 1) by omega]
    exact ⟨by rw [List.getElem?_append_right (by simp)]; simpa using h2.1, by rw [List.getElem?_append_right (by simp)]; simpa using h2.2⟩
theorem byS_arg {w : World} {v : Value} {l : List UInt8} (h : ArgB w w.heap.size v l) : BySl w v l := by
  rcases h with ⟨rfl, rfl⟩ | ⟨ad, cap, rfl, hlc, hc, hb⟩
  · exact ⟨none, 0, rfl, Nat.le_refl _, fun i h => by cases h⟩
  · refine ⟨some ad, cap, rfl, hlc, fun i hi => ?_⟩
    obtain ⟨bk, off, rfl, hbk⟩ := hb (by omega)
    refine ⟨bk, off, rfl, hbk, ?_⟩
    have := hc i (.int .u8 (l[i].toNat : Int)) (by simp [Lib.byteCells, hi])
    rw [← this]
    unfold Addr.add
    split
    · rename_i hz; rw [hz]; rfl
    · rfl
theorem byS_buf {w : World} {v : Value} {B : Nat} {l : List UInt8} (h : BufAt B w v (l.map fun b => Value.int .u8 (b.toNat : Int))) : BySl w v l := by
  obtain ⟨g, cap, h1, h2, h3, h4, h5, h6⟩ := h
  rw [List.length_map] at h1 h4
  exact ⟨_, cap, h1, h4, fun i hi => ⟨g, 0, rfl, h3, by rw [Nat.zero_add]; exact h6 i _ (by simp [hi])⟩⟩
theorem sp_form {base : Nat} {w : World} {v : Value} {L : List (Nat × Nat)} (h : SpR base w v L) : ∃ a c, v = .slice a L.length c ∧ L.length ≤ c ∧ ∀ i (hi : i < L.length), ∃ g, a = some ⟨g, 0, none⟩ ∧ w.cell? ⟨g, i * 2, none⟩ = some (.int .i64 (L[i].1 : Int)) ∧ w.cell? ⟨g, i * 2 + 1, none⟩ = some (.int .i64 (L[i].2 : Int)) := by
  rcases row_form h with ⟨h1, h2⟩ | ⟨g, c, h1, -, -, h3, -⟩
  · exact ⟨none, 0, by rw [h1, h2], by omega, fun i hi => by omega⟩
  · refine ⟨_, c, h1, h3, fun i hi => ⟨g, rfl, ?_, ?_⟩⟩
    · have := World.ownsRow.cells h (g := g) (by rw [h1]; rfl) (i * 2) _ (encS_get L i hi).1
      rwa [Addr.add_lit, Nat.zero_add] at this
    · have := World.ownsRow.cells h (g := g) (by rw [h1]; rfl) (i * 2 + 1) _ (encS_get L i hi).2
      rwa [Addr.add_lit, Nat.zero_add] at this
set_option maxRecDepth 100000 in
set_option linter.unusedSimpArgs false in
set_option maxHeartbeats 16000000 in
theorem law_lines (bv cv : Value) (lb lc : List UInt8) (w : World) (hb : ArgB w w.heap.size bv lb) (hc : ArgB w w.heap.size cv lc) (hl : lb.length ≤ 1048576) :
    Calls Try.prog 4 #[bv, cv] w fun e w' => e = .returned (.bool true) ∧ Below w.heap.size w w' := by
  have haw := awake7_any w
  have H := Lib.hid (And.intro hb (And.intro hc haw))
  have hbs := byS_arg hb
  obtain ⟨ba, bc, rfl, -⟩ := hbs
  clear hb hc haw
  go_enter Try.func4, Try.ntmps4
  go_wp2_with fail
  refine (H.out.2.2).mono ?_
  rintro e w1 ⟨rfl, hb1⟩
  have hB := (byS_arg H.out.1).below hb1
  have hC := H.out.2.1.below hb1
  have HA := Lib.hid (And.intro hB (And.intro hC hb1))
  clear hB hC hb1
  go_wp2_with fail
  refine (new_any _ lc 100 w1 HA.out.2.1 (by omega)).mono ?_
  rintro e w2 ⟨rfl, hm, hb2⟩
  obtain ⟨C, hC⟩ : ∃ C, w1.heap.size = C := ⟨_, rfl⟩
  rw [hC] at hm
  have HC := Lib.hid (And.intro hm (And.intro hb2 hC))
  clear hm hb2
  simp only [hC]
  clear hC
  go_wp2_with fail
  refine (next_any C 256 w2 HC.out.1 (by omega) (by omega)).mono ?_
  rintro e w3 ⟨⟨z, rfl, hz0, hz1⟩, hm3, hf3⟩
  have HD := Lib.hid (And.intro hm3 hf3)
  clear hm3 hf3
  go_wp2_with fail
  refine (data_any C z w3 HD.out.1 hz0 (by omega)).mono ?_
  rintro e w4 ⟨⟨v, L, rfl, hbuf, ⟨ld, rfl⟩, hL⟩, hm4, hf4⟩
  rw [List.length_map] at hL
  have hS4 := byS_buf hbuf
  have h2 : Below w1.heap.size w1 w4 := by
    have h3 : GFr C w2 w4 := HD.out.2.trans hf4
    have h4 := HC.out.2.2
    have h5 := HC.out.2.1
    exact h5.trans ((h3.toBelow (by have := HC.out.1.lt; omega)).mono (by omega))
  have hbw : Below w.heap.size w w4 := bl_trans' HA.out.2.2 h2
  have hB4 := HA.out.1.below h2
  obtain ⟨va, vc, rfl, -⟩ := hS4
  have hS4 := byS_buf hbuf
  have HE := Lib.hid (And.intro hS4 (And.intro hB4 hbw))
  clear hS4 hB4 hbw h2 hm4 hf4 hbuf HD HC HA H
  go_wp2_with fail
  obtain ⟨xb, hxb⟩ : ∃ b, w4.heap.size = b := ⟨_, rfl⟩
  have hx0 : BkAt w4.heap.size 22 #[.slice ba lb.length bc, .slice va ld.length vc] (w4.alloc (.cells #[.slice ba lb.length bc, .slice va ld.length vc] 22)) := BkAt.new _ _ _
  have hw5 := bl_trans' HE.out.2.2 (below_new w4 (.cells #[.slice ba lb.length bc, .slice va ld.length vc] 22))
  have hp0 := HE.out.2.1.below (below_new w4 (.cells #[.slice ba lb.length bc, .slice va ld.length vc] 22))
  have hp1 := HE.out.1.below (below_new w4 (.cells #[.slice ba lb.length bc, .slice va ld.length vc] 22))
  obtain ⟨w5, hw5e⟩ : ∃ x, w4.alloc (.cells #[.slice ba lb.length bc, .slice va ld.length vc] 22) = x := ⟨_, rfl⟩
  rw [hw5e] at hx0 hw5 hp0 hp1
  rw [hw5e]
  rw [hxb] at hx0
  simp only [hxb]
  have HF := Lib.hid (And.intro hx0 (And.intro hw5 (And.intro hp0 hp1)))
  clear hx0 hw5 hp0 hp1 hw5e hxb HE
  go_loopw [25] (fun tv wr => ∃ t : Nat, tv = .int .i64 t ∧ t ≤ 2 ∧ Below w5.heap.size w5 wr) (fun tv _ => 2 - (intOf tv).toNat)
  case atStart => exact ⟨0, rfl, by omega, Below.refl _ _⟩
  case round =>
    obtain ⟨t, rfl, ht, hbr⟩ := hrel
    by_cases hlt : t < 2
    · have d1 : decide ((t : Int) < 2) = true := by rw [decide_eq_true_iff]; omega
      obtain ⟨xa, xc, l, cx, hx, hln⟩ : ∃ xa xc l, wr.cell? ⟨xb, t, none⟩ = some (.slice xa l.length xc) ∧ BySl wr (.slice xa l.length xc) l ∧ l.length ≤ 4000000 := by
        have hk := HF.out.1.below hbr
        have ht2 : t = 0 ∨ t = 1 := by omega
        rcases ht2 with rfl | rfl
        · exact ⟨_, _, lb, hk.cell 0, HF.out.2.2.1.below hbr, by omega⟩
        · exact ⟨_, _, ld, hk.cell 1, HF.out.2.2.2.below hbr, by omega⟩
      have HG := Lib.hid (And.intro hx hbr)
      obtain ⟨n, hn⟩ : ∃ n, l.length = n := ⟨_, rfl⟩
      rw [hn] at cx HG hln
      have HN := Lib.hid hn
      clear hx hbr hn
      have hlp := linesP_any (.slice xa n xc) l wr HG.out.1 (by have := HN.out; omega)
      have HP := Lib.hid hlp
      clear hlp
      go_wp2_with fail
      refine HP.out.mono ?_
      rintro e w6 ⟨⟨lv, rfl, hlr⟩, hb6⟩
      obtain ⟨la, lc1, rfl, -⟩ := sp_form hlr
      have HI := Lib.hid (And.intro hlr hb6)
      have hlq := linesR_any (.slice xa n xc) l w6 (HG.out.1.below hb6) (by have := HN.out; omega)
      have HQ := Lib.hid hlq
      clear hlq hlr hb6 cx
      go_wp2_with fail
      refine HQ.out.mono ?_
      rintro e w7 ⟨⟨mv, rfl, hmr⟩, hb7⟩
      have hlr7 := row_below HI.out.1 hb7
      obtain ⟨ma, mc1, rfl, hmc, hmg⟩ := sp_form hmr
      obtain ⟨la2, lc2, e2, hlcc, hlg⟩ := sp_form hlr7
      injection e2 with e3 e4 e5
      subst e3; subst e5
      clear e4
      obtain ⟨sp, hsp⟩ : ∃ sp, spK l l.length = sp := ⟨_, rfl⟩
      rw [hsp] at hmc hmg hlcc hlg ⊢
      have HS := Lib.hid (And.intro hmg (And.intro hlg (And.intro hsp (And.intro (HG.out.1.below (bl_trans' HI.out.2 hb7)) (bl_trans' HG.out.2 (bl_trans' HI.out.2 hb7))))))
      clear hmg hlg hsp hlr7 hmr hb7 HQ HI HP
      obtain ⟨N, hN⟩ : ∃ N, sp.length = N := ⟨_, rfl⟩
      rw [hN] at hmc hlcc ⊢
      have HM := Lib.hid hN
      have hNn : N ≤ 4000000 := by
        have q1 := spK_len l l.length
        rw [HS.out.2.2.1, hN, HN.out] at q1
        omega
      clear hN
      go_wp2_with fail
      go_loopw [10, 40] (fun ev iv wx => ∃ (i m : Nat), i ≤ N ∧ iv = .int .i64 i ∧ ev = .int .i64 (endOf sp i : Int) ∧ wx = w7.drewN m) (fun _ iv _ => N - (intOf iv).toNat)
      case atStart => exact ⟨0, 0, Nat.zero_le _, rfl, rfl, rfl⟩
      case round =>
        obtain ⟨i, m, hi, rfl, rfl, rfl⟩ := hrel
        by_cases hiN : i < N
        · have d2 : decide ((i : Int) < (N : Int)) = true := by rw [decide_eq_true_iff]; omega
          obtain ⟨gm, gl, g, o, E, b, rfl, rfl, rfl, cm0, cm1, cl0, cl1, hE, hE2, hbn, cxb⟩ : ∃ (gm gl g o E b : Nat), ma = some ⟨gm, 0, none⟩ ∧ la = some ⟨gl, 0, none⟩ ∧ xa = some ⟨g, o, none⟩ ∧
              w7.cell? ⟨gm, i * 2, none⟩ = some (.int .i64 (E : Int)) ∧ w7.cell? ⟨gm, i * 2 + 1, none⟩ = some (.int .i64 ((b : Int) + 1)) ∧ w7.cell? ⟨gl, i * 2, none⟩ = some (.int .i64 (E : Int)) ∧ w7.cell? ⟨gl, i * 2 + 1, none⟩ = some (.int .i64 ((b : Int) + 1)) ∧ endOf sp i = E ∧ endOf sp (i + 1) = b + 1 ∧ b < n ∧ w7.cell? ⟨g, o + b, none⟩ = some (.int .u8 10) := by
            have hsl : i < sp.length := by have := HM.out; omega
            obtain ⟨gm, h1, h2, h3⟩ := HS.out.1 i hsl
            obtain ⟨gl, h4, h5, h6⟩ := HS.out.2.1 i hsl
            obtain ⟨b, h7, h8, h9⟩ := spK_at l l.length i (by rw [HS.out.2.2.1]; exact hsl)
            simp only [HS.out.2.2.1] at h7
            obtain ⟨a2, c2, e2, -, hx⟩ := HS.out.2.2.2.1
            injection e2 with e3 e4 e5
            subst e3
            obtain ⟨g, o, h10, h11, h12⟩ := hx b h8
            rw [h7] at h2 h3 h5 h6
            have h13 : l[b] = 10 := by rw [List.getElem?_eq_getElem h8] at h9; exact Option.some.inj h9
            rw [h13] at h12
            exact ⟨gm, gl, g, o, endOf sp i, b, h1, h4, h10, h2, by push_cast at h3; exact h3, h5, by push_cast at h6; exact h6, rfl, by rw [endOf_succ _ _ hsl, h7], by have := HN.out; omega, h12⟩
          rw [hE]
          have HE2 := Lib.hid hE2
          have i1 : (i : Int) < (N : Int) := by omega
          have i0 : (0 : Int) ≤ (i : Int) := by omega
          have d5 : decide ((n : Int) < (b : Int) + 1) = false := by rw [decide_eq_false_iff_not]; omega
          have b1 : (b : Int) < (n : Int) := by omega
          have b0 : (0 : Int) ≤ (b : Int) := by omega
          have ws : IntKind.i64.wrap ((b : Int) + 1 - 1) = (b : Int) := by rw [show (b : Int) + 1 - 1 = (b : Int) by omega]; exact IntWalk.i64_in _ (by omega)
          clear hE hE2
          go_wp2
          go_quiet (fail)
          go_wp2
          go_roundw
          case rel => exact ⟨i + 1, m + nq, by omega, by congr 1, by rw [HE2.out]; push_cast; rfl, rfl⟩
          case measure => simp [intOf]; omega
        · obtain rfl : i = N := by omega
          have d2 : decide ((i : Int) < (i : Int)) = false := by simp
          have hK : endOf sp i = lastK l l.length := by
            have := endOf_len l l.length
            rw [HS.out.2.2.1, HM.out] at this
            exact this
          obtain ⟨K, hKe⟩ : ∃ K, endOf sp i = K := ⟨_, rfl⟩
          rw [hKe] at hK ⊢
          have hKn : K ≤ n := by rw [hK, ← HN.out]; exact lastK_le l _
          have hxc : n ≤ xc := by
            obtain ⟨a2, c2, e2, h0, -⟩ := HG.out.1
            injection e2 with e3 e4 e5
            subst e5
            omega
          by_cases hKl : K < n
          · obtain ⟨g, o, rfl, hcs⟩ : ∃ g o, xa = some ⟨g, o, none⟩ ∧ ∀ j (h : K + j < l.length), w7.cell? ⟨g, o + (K + j), none⟩ = some (.int .u8 (l[K + j].toNat : Int)) := by
              obtain ⟨a2, c2, e2, -, hx⟩ := HS.out.2.2.2.1
              injection e2 with e3 e4 e5
              subst e3
              obtain ⟨g, o, h1, -, -⟩ := hx K (by have := HN.out; omega)
              refine ⟨g, o, h1, fun j hj => ?_⟩
              obtain ⟨g2, o2, h4, h5, h6⟩ := hx (K + j) hj
              rw [h1] at h4
              cases h4
              exact h6
            have HT := Lib.hid hcs
            have HK := Lib.hid hK
            clear hcs hKe hK
            go_wp2_with fail
            go_loopw [93] (fun jv wx => ∃ (j m2 : Nat), j ≤ n - K ∧ jv = .int .i64 j ∧ wx = w7.drewN m2) (fun jv _ => (n - K) - (intOf jv).toNat)
            case atStart => exact ⟨0, m, Nat.zero_le _, rfl, rfl⟩
            case round =>
              obtain ⟨j, m2, hj, rfl, rfl⟩ := hrel
              by_cases hjl : j < n - K
              · have hjn : K + j < l.length := by have := HN.out; omega
                have cx1 := HT.out j hjn
                have hy10 : ¬ (l[K + j] = 10) := fun e => last_after l l.length (K + j) (by have := HK.out; omega) hjn (by rw [List.getElem?_eq_getElem hjn, e])
                obtain ⟨x, hx⟩ : ∃ x, l[K + j] = x := ⟨_, rfl⟩
                rw [hx] at cx1 hy10
                have hx10 : ¬ ((x.toNat : Int) = 10) := fun e => hy10 (UInt8.toNat_inj.1 (by show x.toNat = 10; omega))
                have d6 : decide ((x.toNat : Int) = 10) = false := decide_eq_false hx10
                obtain ⟨y, hy⟩ : ∃ y : Int, (x.toNat : Int) = y := ⟨_, rfl⟩
                rw [hy] at cx1 hx10 d6
                have cx2 : w7.cell? ⟨g, o + K + j, none⟩ = some (.int .u8 y) := by rw [← cx1, Nat.add_assoc]
                have d7 : decide ((j : Int) < (n : Int) - (K : Int)) = true := by rw [decide_eq_true_iff]; omega
                have d8 : decide ((j : Int) < ((n - K : Nat) : Int)) = true := by rw [decide_eq_true_iff]; omega
                clear hy hx hy10
                go_wp2
                go_roundw
                case rel => exact ⟨j + 1, m2, by omega, by congr 1, rfl⟩
                case measure => simp [intOf]; omega
              · obtain rfl : j = n - K := by omega
                have d7 : decide (((n - K : Nat) : Int) < (n : Int) - (K : Int)) = false := by rw [decide_eq_false_iff_not]; omega
                have d8 : decide (((n - K : Nat) : Int) < ((n - K : Nat) : Int)) = false := by rw [decide_eq_false_iff_not]; omega
                go_wp2
                go_roundw
                case rel => exact ⟨t + 1, by congr 1, by omega, bl_drewN HS.out.2.2.2.2 m2⟩
                case measure => simp [intOf]; omega
          · obtain rfl : K = n := by omega
            clear hKe hK
            go_wp2_with fail
            all_goals
              go_loopw [93] (fun jv wx => ∃ (m2 : Nat), jv = .int .i64 0 ∧ wx = w7.drewN m2) (fun _ _ => 0)
            all_goals first
              | (case atStart => exact ⟨m, rfl, rfl⟩)
              | (case round =>
                  obtain ⟨m2, rfl, rfl⟩ := hrel
                  go_wp2
                  go_roundw
                  case rel => exact ⟨t + 1, by congr 1, by omega, bl_drewN HS.out.2.2.2.2 m2⟩
                  case measure => simp [intOf]; omega)
    · obtain rfl : t = 2 := by omega
      have HZ := Lib.hid hbr
      clear hbr
      go_wp2
      exact bodyPost_ret (v := .bool true) (by simp [results, Try.results4, go_sem]) rfl ⟨rfl, bl_trans' HF.out.2.1 HZ.out⟩
end Go.Proofs.Ytmciiolefiodhaa
