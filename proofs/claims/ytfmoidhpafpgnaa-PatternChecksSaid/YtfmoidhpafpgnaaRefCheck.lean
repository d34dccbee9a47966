/- The contract of the reference's Check. -/
import Derived.Test.YtfmoidhpafpgnaaRefWalkD
namespace Go.Proofs.Ytfmoidhpafpgnaa
open Go.RowKit

theorem tl_inj {x y : ByteArray} (h : x.toList = y.toList) : x = y := by
  rw [ByteArray.toList_eq, ByteArray.toList_eq] at h
  exact bext h
theorem namesErr_dup (L : List ByteArray) (i k : Nat) (hi : i < L.length) (hk : k < i) (h : L[k] = L[i]) : namesErr L = 7 := by
  have hn : ¬ L.Nodup := fun hd => by
    have := (List.pairwise_iff_getElem.1 hd) k i (by omega) hi hk
    exact this h
  unfold namesErr
  rw [if_pos hn]
theorem take_nodup_next (L : List ByteArray) (i : Nat) (hi : i < L.length) (h : (L.take i).Nodup) (hall : ∀ j (hj : j < i), L[j] ≠ L[i]) : (L.take (i + 1)).Nodup := by
  rw [nodup_snoc L i hi]
  refine ⟨h, fun hm => ?_⟩
  obtain ⟨j, hj, he⟩ := List.mem_iff_getElem.1 hm
  rw [List.getElem_take] at he
  have hj' : j < i := by simp at hj; omega
  exact hall j hj' he

set_option maxRecDepth 100000 in
set_option maxHeartbeats 4000000 in
theorem rcheck_any (t : Nd) (v : Value) (w : World) (h : NodeIn 0 w t v) :
    Calls Try.prog 9 #[v] w fun e w' => e = .returned (.int .i64 (chkN t)) ∧ Below w.heap.size w w' := by
  have hv := h
  obtain ⟨ra, rc, ka, kc, rfl⟩ := hv.shape
  clear hv
  have hb : Below w.heap.size w (w.alloc (.cells #[.int .i64 t.op, .slice ra t.rs.length rc, .string t.nm, .slice ka t.kids.length kc, .int .i64 t.mn, .int .i64 t.mx] 25)) :=
    (Below.refl _ w).alloc (Nat.le_refl _) _
  have hn0 : NmAt w.heap.size 0 [] (.slice none 0 0) (w.alloc (.cells #[.int .i64 t.op, .slice ra t.rs.length rc, .string t.nm, .slice ka t.kids.length kc, .int .i64 t.mn, .int .i64 t.mx] 25)) := ⟨World.ownsRow_nil _ _ _ _, by simp, by simp⟩
  have hvis := rwalk_any t w _ (.slice none 0 0) 0 _ 0 [] h hb hn0 (by omega) (by omega)
  have hle := vis_le t 0 (0, [])
  unfold chkN
  obtain ⟨⟨er, k2, L2⟩, hx⟩ : ∃ x, visN t 0 (0, []) = x := ⟨_, rfl⟩
  rw [hx] at hvis hle ⊢
  simp only at hvis hle ⊢
  obtain ⟨r, hr⟩ : ∃ r, (if er ≠ 0 then er else namesErr L2) = r := ⟨_, rfl⟩
  rw [hr]
  have HR0 := Lib.hid hr
  have HV := Lib.hid hvis
  have HL := Lib.hid (And.intro hle (And.intro hn0 hb))
  clear hvis hle hn0 hb hx h hr
  go_enter Try.func9, Try.ntmps9
  go_wp2_with fail
  refine (HV.out).mono ?_
  rintro e w2 ⟨nv, rfl, hn2, ht2⟩
  have hb2 : Below w.heap.size w w2 := ht2.base HL.out.2.1 HL.out.2.2 (Nat.le_refl _)
  by_cases h0 : er = 0
  · subst h0
    have hk2 := HL.out.1 rfl
    have hll := hn2.2.2
    have hst := strs_of_own hn2.1 (by omega) hn2.2.1
    obtain ⟨a, c, rfl, -, -, hcs⟩ := hst
    have hr : namesErr L2 = r := by rw [← HR0.out, if_neg (by simp)]
    have HR := Lib.hid hr
    have HC := Lib.hid hcs
    have HB := Lib.hid hb2
    clear hr hcs hn2 ht2 hb2
    go_wp2
    go_loopw [6, 7] (fun i _ wr => ∃ n : Nat, n ≤ L2.length ∧ i = .int .i64 n ∧ Hid ((L2.take n).Nodup) ∧ Hid (∀ p, wr.cell? p = w2.cell? p) ∧ Below w.heap.size w wr) (fun i _ _ => L2.length - (intOf i).toNat)
    case atStart => exact ⟨0, by omega, rfl, Lib.hid (by simp), fun _ => rfl, HB.out⟩
    case round =>
      obtain ⟨n, hn, rfl, HN, HQ, hbr⟩ := hrel
      by_cases hlt : n < L2.length
      · obtain ⟨b, rfl, hc1⟩ := HC.out n hlt
        have hfall := take_nodup_next L2 n hlt HN.out
        have hdup := fun k hk h => namesErr_dup L2 n k hlt hk h
        obtain ⟨y, hy⟩ : ∃ y, L2[n] = y := ⟨_, rfl⟩
        rw [hy] at hc1 hfall hdup
        have HF := Lib.hid (And.intro hfall (And.intro hdup hbr))
        clear hfall hdup hy hbr
        go_wp2
        go_loopw [7] (fun k ws => ∃ m : Nat, m ≤ n ∧ k = .int .i64 m ∧ Hid (∀ j (hj : j < m), L2[j]? ≠ some y) ∧ Hid (∀ p, ws.cell? p = w2.cell? p) ∧ Below w.heap.size w ws) (fun k _ => n - (intOf k).toNat)
        case atStart => exact ⟨0, by omega, rfl, fun j hj => by omega, HQ, HF.out.2.2⟩
        case round =>
          obtain ⟨m, hm, rfl, HJ, HP, hbs⟩ := hrel
          obtain ⟨W1, rfl⟩ : ∃ W1, W1 = wr := ⟨_, rfl⟩
          by_cases hml : m < n
          · have hmL : m < L2.length := by omega
            obtain ⟨b', hbb, hc2⟩ := HC.out m hmL
            simp only [Option.some.injEq, Addr.mk.injEq, and_true] at hbb
            subst hbb
            have g1 := (HP.out ⟨b, n, none⟩).trans hc1
            have g2 := (HP.out ⟨b, m, none⟩).trans hc2
            have hdp := HF.out.2.1 m hml
            have hjx : L2[m]? = some L2[m] := List.getElem?_eq_getElem hmL
            obtain ⟨x, hx⟩ : ∃ x, L2[m] = x := ⟨_, rfl⟩
            rw [hx] at g2 hdp hjx
            clear hc2 hx
            by_cases he : x = y
            · have hv : r = 7 := by rw [← HR.out]; exact hdp he
              have HV2 := Lib.hid hv
              subst he
              clear hv hdp hjx
              go_wp2
              go_quiet (fail)
              go_wp2
              go_ret
              exact ⟨by rw [HV2.out]; rfl, below_drewN hbs _⟩
            · have hnx : ∀ j (hj : j < m + 1), L2[j]? ≠ some y := fun j hj => by
                by_cases hjm : j < m
                · exact HJ.out j hjm
                · obtain rfl : j = m := by omega
                  rw [hjx]; intro e; exact he (Option.some.inj e)
              have d2 : (x.toList == y.toList) = false := by rw [beq_eq_false_iff_ne]; exact fun h => he (tl_inj h)
              have HX := Lib.hid hnx
              clear hnx hjx hdp
              go_wp2
              go_quiet (fail)
              go_wp2
              go_roundw
              case rel => exact ⟨m + 1, by omega, by simp, HX, HP, below_drewN hbs _⟩
              case measure => simp [intOf]; omega
          · obtain rfl : m = n := by omega
            have hnd := HF.out.1 (fun j hj e => HJ.out j hj (by rw [List.getElem?_eq_getElem (by omega), e]))
            have HD := Lib.hid hnd
            clear hnd
            go_wp2
            go_roundw
            case rel => exact ⟨m + 1, by omega, by simp, HD, HP, hbs⟩
            case measure => simp [intOf]; omega
      · obtain rfl : n = L2.length := by omega
        have hv : (if 16 < L2.length then 4 else 0) = r := by
          rw [← HR.out]
          have := HN.out
          rw [List.take_length] at this
          simp [namesErr, this]
        by_cases h16 : 16 < L2.length
        · rw [if_pos h16] at hv
          subst hv
          have d : decide (16 < (L2.length : Int)) = true := by simp; omega
          go_wp2
          go_ret
          exact ⟨rfl, hbr⟩
        · rw [if_neg h16] at hv
          subst hv
          have d : decide (16 < (L2.length : Int)) = false := by simp; omega
          go_wp2
          go_ret
          exact ⟨rfl, hbr⟩
  · have hr : er = r := by rw [← HR0.out, if_pos h0]
    subst hr
    have e1 : (er == 0) = false := by rw [beq_eq_false_iff_ne]; exact h0
    have e2 : (er != 0) = true := by rw [bne_iff_ne]; exact h0
    clear h0 hn2 ht2
    go_wp2
    go_ret
    exact ⟨rfl, hb2⟩
end Go.Proofs.Ytfmoidhpafpgnaa
