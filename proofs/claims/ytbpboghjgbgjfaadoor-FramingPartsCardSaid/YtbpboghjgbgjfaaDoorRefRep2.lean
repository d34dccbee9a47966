/- The contract of the reference of chapter 1's Repair, at at most 4194304 bytes. -/
import Derived.Test.YtbpboghjgbgjfaaDoorRefRepair
import Derived.Laws.BytesArg
namespace Go.Proofs.YtbpboghjgbgjfaaDoor
open Go.RowKit

/-- A row of bytes that the call owns, as a string. -/
theorem conv_own {W : World} {B : Nat} {v : Value} {L : List UInt8} (h : W.ownsRow B 5 1 v L.length (Lib.byteCells L)) : (convert 22 9 v).run Tryd.prog W = .ok (.string ⟨L.toArray⟩) W := by
  have hcs := h.2
  rcases hcs with ⟨rfl, h0⟩ | ⟨g, cap, cur, rfl, _, hg, hn, _, _, htake⟩
  · obtain rfl : L = [] := List.eq_nil_of_length_eq_zero h0
    exact run_convert_bytes_nil W 22 5 Tryd.underlying22 Tryd.underlying5 0 0 9 Tryd.underlying9
  · refine run_convert_bytes_back W 22 9 5 ⟨g, 0, none⟩ cap L Tryd.underlying22 Tryd.underlying5 Tryd.underlying9 (fun j hj => ?_)
    have hadd : (⟨g, 0, none⟩ : Addr).add j = ⟨g, j, none⟩ := by unfold Addr.add; split <;> simp_all
    rw [hadd, cell_of_row W g j cur _ _ hg]
    have e : (Lib.byteCells L)[j]? = some (.int .u8 (L[j].toNat : Int)) := by simp [Lib.byteCells, hj]
    rw [← htake, List.getElem?_take] at e
    rw [if_pos (by omega)] at e
    simpa using e

set_option maxRecDepth 100000 in
set_option maxHeartbeats 2000000 in
theorem rrepair_ex (l : List UInt8) (bk off cap : Nat) (w : World) (hlen : l.length ≤ 4194304) (hcap : l.length ≤ cap) (hbk : bk < w.heap.size) (hc : BytesAt w bk off l) :
    Calls Tryd.prog 22 #[.slice (some ⟨bk, off, none⟩) l.length cap] w fun e w' => e = .returned (.tuple #[.string ⟨(repB l).toArray⟩, .int .i64 (repN l)]) ∧ Below w.heap.size w w' := by
  obtain ⟨i0, hi, hz0, hz1, hz2⟩ := info_parts infoByte
  have HC := Lib.hid hc
  clear hc
  go_enter Tryd.func22, Tryd.ntmps22
  go_wp2
  go_loopw [4, 5, 6] (fun v n i wr => ∃ (k f : Nat) (pre : List (Nat × Nat × Bool)), k ≤ l.length ∧ i = .int .i64 k ∧ n = .int .i64 (badP pre) ∧ pre ++ segs l f k = segs l l.length 0 ∧ l.length ≤ k + f ∧ wr.ownsRow w.heap.size 5 1 v (outP l pre).length (Lib.byteCells (outP l pre)) ∧ Below w.heap.size w wr)
    (fun _ _ i _ => l.length - (intOf i).toNat)
  case atStart => exact ⟨0, l.length, [], by omega, rfl, rfl, rfl, by omega, World.ownsRow_nil _ _ _ _, Below.refl _ _⟩
  case round =>
    obtain ⟨k, f, pre, hk, rfl, rfl, hs, hf, hown, hb⟩ := hrel
    have hpl : pre.length ≤ l.length := by
      have h1 := congrArg List.length hs
      have h2 := segs_length l l.length 0
      simp only [List.length_append] at h1
      omega
    have hfit : ∀ x ∈ pre, Fits l x := fun x hx => segs_fits l l.length 0 x (by rw [← hs]; exact List.mem_append_left _ hx)
    have hol := outP_le l pre hfit
    have hbl := badP_le pre
    have hbs := hb.size
    by_cases hlt : k < l.length
    · obtain ⟨f', hf', hsg⟩ := segs_step l f k hlt hf
      have hst := stepL_bd (l.drop k) (by simp; omega)
      simp only [List.length_drop] at hst
      have HS : Hid ((pre ++ [(k, stepL (l.drop k), decide (seqL (l.drop k) ≠ 0))]) ++ segs l f' (k + stepL (l.drop k)) = segs l l.length 0) := by
        show _ = _
        rw [← hs, hsg]; simp
      have HF := Lib.hid hf'
      have hseq := fun W (hW : Below w.heap.size w W) => sequence_any l k bk off cap W hlt hlen (HC.out.below hW hbk)
      have HSEQ := Lib.hid hseq
      clear hs hsg hf' hf hseq hfit
      by_cases hz : seqL (l.drop k) = 0
      · have hst1 : stepL (l.drop k) = 1 := by unfold stepL; rw [if_pos hz]
        have hdz : decide (seqL (l.drop k) ≠ 0) = false := by simp [hz]
        have HS' : Hid ((pre ++ [(k, 1, false)]) ++ segs l f' (k + 1) = segs l l.length 0) := by have := HS.out; rw [hst1, hdz] at this; exact this
        have HF' : Hid (l.length ≤ k + 1 + f') := by have := HF.out; rw [hst1] at this; exact this
        have HSQ : Hid (∀ W, Below w.heap.size w W → Calls Tryd.prog 32 #[.slice (some ⟨bk, off, none⟩) l.length cap, .int .i64 k] W fun e w' => e = .returned (.int .i64 0) ∧ W = w') := by
          show ∀ W, _
          intro W hW
          have := HSEQ.out W hW
          rw [hz] at this
          exact this
        clear HS HF HSEQ hst1 hdz hst hz
        have hle := Lib.byteCells_length (outP l pre)
        go_wp2_with (first
          | (go_at_call 32; refine (HSQ.out _ hb).mono ?_; rintro e w' ⟨rfl, rfl⟩)
          | (at_builtin; refine wpList_append_own _ rfl _ _ 22 rfl w.heap.size 5 i0 (.int .u8 0) 1 1 Tryd.underlying22 hi hz0 hz1 hz2 rfl (by decide) _ _ _ rfl (hown.alloc _) ⟨wr.heap.size, 0, none⟩ 1 1 [.int .u8 63] rfl rfl ?c1 ?c2 ?c3 ?c4 ?c5 ?_))
        case c1 =>
          intro j u hj
          match j, hj with
          | 0, hj => simp at hj; subst hj; simp [Addr.add]
        case c2 => intro u hu; simp at hu; subst hu; rfl
        case c3 => unfold maxLen; omega
        case c4 => omega
        case c5 => simp; omega
        intro v' w1 hown' hgrow _
        have hb1 : Below w.heap.size w w1 := (hb.alloc hb.size _).grown hgrow (by simp; omega) (fun r e => (hown.lt r e).1)
        have ho : w1.ownsRow w.heap.size 5 1 v' (outP l (pre ++ [(k, 1, false)])).length (Lib.byteCells (outP l (pre ++ [(k, 1, false)]))) := by
          rw [outP_snoc, byteCells_append, List.length_append]
          simpa [outOf, Lib.byteCells] using hown'
        have HO := Lib.hid ho
        clear ho
        clear hown' hgrow hown
        go_wp2
        go_roundw
        case rel => exact ⟨k + 1, f', _, by omega, by simp, by rw [badP_snoc]; simp, HS'.out, HF'.out, HO.out, hb1⟩
        case measure => simp [intOf]; omega
      · have hst1 : stepL (l.drop k) = seqL (l.drop k) := by unfold stepL; rw [if_neg hz]
        have hdz : decide (seqL (l.drop k) ≠ 0) = true := by simp [hz]
        rw [hst1] at hst
        obtain ⟨S, hS⟩ : ∃ S, seqL (l.drop k) = S := ⟨_, rfl⟩
        rw [hS] at hst hz
        have hs' : (pre ++ [(k, S, true)]) ++ segs l f' (k + S) = segs l l.length 0 := by have := HS.out; rw [hst1, hdz, hS] at this; exact this
        have hf' : l.length ≤ k + S + f' := by have := HF.out; rw [hst1, hS] at this; exact this
        have hsq : ∀ W, Below w.heap.size w W → Calls Tryd.prog 32 #[.slice (some ⟨bk, off, none⟩) l.length cap, .int .i64 k] W fun e w' => e = .returned (.int .i64 S) ∧ W = w' := by
          intro W hW
          have := HSEQ.out W hW
          rw [hS] at this
          exact this
        have HS' := Lib.hid hs'
        have HF' := Lib.hid hf'
        have HSQ := Lib.hid hsq
        have hnews := (HC.out.below hb hbk).news k S (by omega)
        have HN := Lib.hid hnews
        have hS0 : ((S : Int) == 0) = false := by rw [beq_eq_false_iff_ne]; omega
        have hS1 := hst.1
        have hS2 := hst.2.1
        clear HS HF HSEQ hst1 hdz hst hz hS hs' hf' hsq hnews
        have hle := Lib.byteCells_length (outP l pre)
        have hln : (Lib.byteCells ((l.drop k).take S)).length = S := by simp [Lib.byteCells]; omega
        go_wp2_with (first
          | (go_at_call 32; refine (HSQ.out _ hb).mono ?_; rintro e w' ⟨rfl, rfl⟩)
          | (at_builtin; refine wpList_append_own _ rfl _ _ 22 rfl w.heap.size 5 i0 (.int .u8 0) 1 1 Tryd.underlying22 hi hz0 hz1 hz2 rfl (by decide) _ _ _ rfl hown ⟨bk, off + k, none⟩ (k + S - k) (cap - k) (Lib.byteCells ((l.drop k).take S)) rfl (by omega) HN.out (oneCells _) ?c3 ?c4 ?c5 ?_))
        case c3 => unfold maxLen; omega
        case c4 => omega
        case c5 => omega
        intro v' w1 hown' hgrow _
        have hb1 : Below w.heap.size w w1 := hb.grown hgrow hb.size (fun r e => (hown.lt r e).1)
        have ho : w1.ownsRow w.heap.size 5 1 v' (outP l (pre ++ [(k, S, true)])).length (Lib.byteCells (outP l (pre ++ [(k, S, true)]))) := by
          rw [outP_snoc, byteCells_append, List.length_append]
          have hl2 : (outOf l (k, S, true)).length = S := by simp [outOf]; omega
          rw [hl2]
          exact hown'
        have HO := Lib.hid ho
        clear hown' hgrow hown ho
        go_wp2
        go_roundw
        case rel => exact ⟨k + S, f', _, by omega, by simp, by rw [badP_snoc]; simp, HS'.out, HF'.out, HO.out, hb1⟩
        case measure => simp [intOf]; omega
    · obtain rfl : k = l.length := by omega
      have hend : pre = segs l l.length 0 := by rw [← hs, segs_end _ _ _ (by omega), List.append_nil]
      have hcv := conv_own hown
      have he : outP l pre = repB l ∧ badP pre = repN l := by rw [hend]; exact ⟨rfl, rfl⟩
      have HE := Lib.hid he
      clear he
      clear hs hend hown hfit
      go_wp2
      go_ret2
      exact ⟨by rw [HE.out.1, HE.out.2]; rfl, hb⟩

set_option maxRecDepth 100000 in
set_option maxHeartbeats 1000000 in
theorem rrepair_nil (a : Option Addr) (c : Nat) (w : World) :
    Calls Tryd.prog 22 #[.slice a 0 c] w fun e w' => e = .returned (.tuple #[.string ⟨#[]⟩, .int .i64 0]) ∧ w = w' := by
  have hcv := run_convert_bytes_nil w 22 5 Tryd.underlying22 Tryd.underlying5 0 0 9 Tryd.underlying9
  go_enter Tryd.func22, Tryd.ntmps22
  go_wp2
  go_loop [4, 5, 6] (fun v n i => v = .slice none 0 0 ∧ n = .int .i64 0 ∧ i = .int .i64 0) (fun _ _ _ => 0)
  case atStart => exact ⟨rfl, rfl, rfl⟩
  case round =>
    obtain ⟨rfl, rfl, rfl⟩ := hrel
    go_wp2
    go_ret2
    exact ⟨rfl, rfl⟩
theorem rrepair_any (sv : Value) (l : List UInt8) (hlen : l.length ≤ 4194304) (w : World) (hS : SlcAt w w.heap.size sv l) :
    Calls Tryd.prog 22 #[sv] w fun e w' => e = .returned (.tuple #[.string ⟨(repB l).toArray⟩, .int .i64 (repN l)]) ∧ Below w.heap.size w w' := by
  rcases hS with ⟨a, c, rfl, rfl⟩ | ⟨bk, off, cap, rfl, hcap, hbk, hc⟩
  · refine (rrepair_nil a c w).mono ?_
    rintro e w' ⟨rfl, rfl⟩
    exact ⟨rfl, Below.refl _ _⟩
  · exact rrepair_ex l bk off cap w hlen hcap hbk hc
end Go.Proofs.YtbpboghjgbgjfaaDoor
