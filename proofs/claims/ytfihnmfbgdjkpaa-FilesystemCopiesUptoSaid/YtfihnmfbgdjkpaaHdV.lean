/- slices.Sorted of slices.Values at []int. slices.AppendSeq, Collect and Sorted over slices.Values, at []int. -/
import Derived.RangeFuncNested
import Derived.RangeFuncBound
import Derived.RangeFuncCalls
import Derived.RangeFuncLeaves
import Derived.RangeFuncBox
import Derived.Shelf.Abstract
import Derived.Shelf.RegionOpen
import Derived.WalkKit
import Derived.OwnWalkIn
import Derived.TacticsInMore
import Derived.LoopNIn
import Derived.LoopIn
import Derived.Outline
import Derived.Lib.Hide
import Derived.Test.YtfihnmfbgdjkpaaShelf
import Derived.Test.YtfihnmfbgdjkpaaFsA
namespace Go.Proofs.Ytfihnmfbgdjkpaa
open Go.RowKit Go.Shelf
attribute [local go_sem] Oper.semAt_some

/-- The ints zs in a slice, below block n₀; or none. -/
def IntsB (n₀ : Nat) (W : World) (sv : Value) (zs : List Int) : Prop :=
  (∃ c, sv = .slice none 0 c ∧ zs = []) ∨ ∃ b off cap, sv = .slice (some ⟨b, off, none⟩) zs.length cap ∧ b < n₀ ∧ ∀ j (h : j < zs.length), W.cell? ⟨b, off + j, none⟩ = some (.int .i64 zs[j])
theorem IntsB.below {n₀ : Nat} {A B : World} (h : Below n₀ A B) {sv : Value} {zs : List Int} : IntsB n₀ A sv zs → IntsB n₀ B sv zs
  | .inl e => .inl e
  | .inr ⟨b, off, cap, e, hb, hc⟩ => .inr ⟨b, off, cap, e, hb, fun j hj => (h.cell (p := ⟨b, off + j, none⟩) hb).trans (hc j hj)⟩
set_option maxRecDepth 100000 in
set_option maxHeartbeats 2000000 in
theorem vals_in (n : Nat) (hn : 1 ≤ n) (l Bs n₀ : Nat) (sv : Value) (zs : List Int) (hreach : zs.length ≤ 1000000) (J Jx : List Int → World → Prop)
    (hY : ∀ pre x W, J pre W → pre.length < zs.length → YieldAt Fence.wide (n - 1) Try.prog l #[.int .i64 x] W fun e W' =>
      (e = .returned (.bool true) ∧ J (pre ++ [x]) W' ∧ Below n₀ W W') ∨ (e = .returned (.bool false) ∧ Jx (pre ++ [x]) W'))
    (W : World) (hBs : W.cell? ⟨Bs, 0, none⟩ = some sv) (hI : IntsB n₀ W sv zs) (h0 : J [] W) :
    CallsIn Fence.wide n Try.prog 87 #[.func (.yield l) #[] #[], .pointer (some ⟨Bs, 0, none⟩)] W fun e W' => (∃ v, e = .returned v) ∧
      ((∃ ys, ys = zs ∧ J ys W') ∨ (∃ pre, True ∧ Jx pre W')) := by
  rcases hI with ⟨c, rfl, rfl⟩ | ⟨b, off, cap, rfl, hb, hc⟩
  · refine callsIn_of_wp Try.func87 rfl trivial ?_ rfl
    simp only [Try.ntmps87, List.size_toArray, List.length_cons, List.length_nil, Nat.reduceAdd, Nat.reduceSub, Array.replicate_succ, Array.replicate_zero, List.push_toArray, List.append_toArray, List.nil_append, List.cons_append]
    gi_wp2
    gi_loopw [7] (fun i wr => i = .int .i64 0 ∧ J [] wr) (fun _ _ => 0)
    case atStart => exact ⟨rfl, h0⟩
    case round =>
      obtain ⟨rfl, hJs⟩ := hrel
      gi_wp2
      go_end0
      exact ⟨⟨_, rfl⟩, .inl ⟨_, rfl, hJs⟩⟩
  · obtain ⟨N, hN⟩ : ∃ N, zs.length = N := ⟨_, rfl⟩
    have HC := Lib.hid (And.intro hc hN)
    rw [hN] at hreach hY hBs
    clear hc hN
    refine callsIn_of_wp Try.func87 rfl trivial ?_ rfl
    simp only [Try.ntmps87, List.size_toArray, List.length_cons, List.length_nil, Nat.reduceAdd, Nat.reduceSub, Array.replicate_succ, Array.replicate_zero, List.push_toArray, List.append_toArray, List.nil_append, List.cons_append]
    gi_wp2
    gi_loopw [7] (fun i wr => ∃ k : Nat, k ≤ N ∧ i = .int .i64 k ∧ J (zs.take k) wr ∧ Below n₀ W wr) (fun i _ => N - (intOf i).toNat)
    case atStart => exact ⟨0, Nat.zero_le _, rfl, by simpa using h0, Below.refl _ _⟩
    case round =>
      obtain ⟨k, hk, rfl, hJs, hnx⟩ := hrel
      by_cases hlt : k < N
      · have hkz : k < zs.length := by have := HC.out.2; omega
        have hcx' := (hnx.cell (p := ⟨b, off + k, none⟩) hb).trans (HC.out.1 k hkz)
        have hlen : (zs.take k).length = k := by rw [List.length_take]; omega
        have hsn : zs.take (k + 1) = zs.take k ++ [zs[k]] := by rw [List.take_succ_eq_append_getElem hkz]
        have HS := Lib.hid hsn
        obtain ⟨fn, tmps, assign, body, hy, hR⟩ := hY _ (zs[k]) wr hJs (by rw [hlen]; exact hlt)
        have HK := Lib.hid hkz
        clear hlen hsn
        gi_wp2
        refine hR.mono ?_
        rintro e W3 (⟨rfl, hJ3, hk3⟩ | ⟨rfl, hJx3⟩)
        · gi_wp2
          go_roundw
          case rel => exact ⟨k + 1, by omega, by simp, by rw [HS.out]; exact hJ3, hnx.trans hk3⟩
          case measure => simp [intOf]; omega
        · gi_wp2
          refine bodyPost_ret (results_none rfl _ _ _) rfl ?_
          exact ⟨⟨_, rfl⟩, .inr ⟨_, trivial, hJx3⟩⟩
      · obtain rfl : k = N := by omega
        have HT := Lib.hid (show zs.take k = zs from List.take_of_length_le (by have := HC.out.2; omega))
        rw [HT.out] at hJs
        gi_wp2
        go_end0
        exact ⟨⟨_, rfl⟩, .inl ⟨_, rfl, hJs⟩⟩
theorem vals_stops (n : Nat) (hn : 1 ≤ n) (Bs n₀ : Nat) (sv : Value) (zs : List Int) (hreach : zs.length ≤ 1000000) (w : World) (hBs : Bs < w.heap.size) (hn₀ : n₀ ≤ w.heap.size)
    (hc : w.cell? ⟨Bs, 0, none⟩ = some sv) (hI : IntsB n₀ w sv zs) :
    SeqStopsK Fence.wide n Try.prog 87 #[.pointer (some ⟨Bs, 0, none⟩)] (fun x : Int => #[Value.int .i64 x]) (Below n₀) (fun ys => ys = zs) (fun _ => True) zs.length w := fun l J Jx W hW _ _ hY h0 =>
  vals_in n hn l Bs n₀ sv zs hreach J Jx hY W ((hW.cell (p := ⟨Bs, 0, none⟩) hBs).trans hc) (hI.below (hW.mono hn₀)) h0
theorem values_any (a : Option Addr) (len cap : Nat) (w : World) :
    Calls Try.prog 45 #[.slice a len cap] w fun e w' => e = .returned (.func (.func 87) #[] #[.pointer (some ⟨w.heap.size, 0, none⟩)]) ∧ w' = w.alloc (.cells #[.slice a len cap] 29) := by
  go_enter Try.func45, Try.ntmps45
  go_wp2
  go_ret
  exact ⟨rfl, rfl⟩
end Go.Proofs.Ytfihnmfbgdjkpaa

namespace Go.Proofs.Ytfihnmfbgdjkpaa
open Go.RowKit Go.Shelf
attribute [local go_sem] Oper.semAt_some

theorem infoI : (Try.prog.info? 3).map (fun i => (i.zero, i.size, i.bytes)) = some (some (.int .i64 0), 1, 8) := by kernel_rfl
def iEnc (x : Int) : Value := .int .i64 x
def ApN (w : World) (Bs : Nat) (pre : List Int) (W : World) : Prop :=
  ∃ v, Boxed W Bs 29 v ∧ W.ownsRow w.heap.size 3 1 v pre.length (pre.map iEnc) ∧ Below w.heap.size w W
theorem apN_own (w : World) (Bs B : Nat) (hB : w.heap.size ≤ B) : OwnFrom B (ApN w Bs) := fun s W W' row hs hg hr => by
  obtain ⟨v, h1, h2, h3⟩ := hs
  have hno : ∀ (k : Nat) (o : Obj), W.heap[k]? = some o → o.isCells = true → some k ≠ row := fun k o hk ho e => by
    obtain ⟨_, o', h1, h2⟩ := hr k e.symm
    rw [h1] at hk
    cases hk
    rw [h2] at ho
    cases ho
  refine ⟨v, h1.kept hg (hno Bs _ h1 rfl), h2.kept hg ?_, h3.grown hg h3.size (fun k e => Nat.le_trans hB (hr k e).1)⟩
  rcases h2.2 with ⟨rfl, _⟩ | ⟨g, cap, cur, rfl, _, hgb, _⟩
  · exact .inl rfl
  · exact .inr (fun e => hno g _ hgb rfl e)
set_option maxRecDepth 100000 in
set_option maxHeartbeats 2000000 in
theorem appSeq_any (Bs : Nat) (sv : Value) (zs : List Int) (hlen : zs.length ≤ 1000000) (w : World) (hBs : Bs < w.heap.size) (hc : w.cell? ⟨Bs, 0, none⟩ = some sv) (hI : IntsB w.heap.size w sv zs) :
    Calls Try.prog 108 #[.slice none 0 0, .func (.func 87) #[] #[.pointer (some ⟨Bs, 0, none⟩)]] w fun e w' =>
      ∃ v, e = .returned v ∧ w'.ownsRow w.heap.size 3 1 v zs.length (zs.map iEnc) ∧ Below w.heap.size w w' := by
  obtain ⟨i0, hi, hz0, hz1, hz2⟩ := info_parts infoI
  refine (callsIn_wide (n := 4)).1 ?_
  refine callsIn_of_wp_marks Try.func108 rfl trivial ?_ rfl
  simp only [Try.ntmps108, List.size_toArray, List.length_cons, List.length_nil, Nat.reduceAdd, Nat.reduceSub, Array.replicate_succ, Array.replicate_zero, List.push_toArray, List.append_toArray, List.nil_append, List.cons_append]
  obtain ⟨fv, hfv⟩ : ∃ fv, Value.func (.func 87) #[] #[.pointer (some ⟨Bs, 0, none⟩)] = fv := ⟨_, rfl⟩
  rw [hfv]
  have HC := Lib.hid (And.intro hc hI)
  clear hc hI
  gi_wp2_with fail
  obtain ⟨w1, hw1⟩ : ∃ w1, w.alloc (Obj.cells #[Value.slice none 0 0] 29) = w1 := ⟨_, rfl⟩
  have hs1 : w1.heap.size = w.heap.size + 1 := by rw [← hw1]; simp
  have hB1 : Boxed w1 w.heap.size 29 (.slice none 0 0) := by rw [← hw1]; exact Boxed.new w _ _
  have hb1 : Below w.heap.size w w1 := by rw [← hw1]; exact (Below.refl _ w).alloc (Nat.le_refl _) _
  rw [hw1]
  have h0 : ApN w w.heap.size [] w1 := ⟨_, hB1, World.ownsRow_nil _ _ _ _, hb1⟩
  refine wpIn_rangeFunc_ownF rfl (by omega) (gf := 87) (lb := #[.pointer (some ⟨Bs, 0, none⟩)]) hfv.symm trivial (enters_of Try.func87 (by kernel_rfl) rfl)
    (vals_stops 3 (by omega) Bs w.heap.size sv zs hlen w hBs (Nat.le_refl _) HC.out.1 HC.out.2) (fun h k => h.trans k) (fun W l o o' hl h h1 h2 => belowK_b (w := w1) (by omega) W l o o' hl h h1 h2) hb1 (fun _ => rfl)
    (ApN w w.heap.size) (fun _ _ _ => False) (apN_own _ _ _ (by omega)) (fun _ _ _ _ _ hs _ _ => hs) h0
    (fun x => { tmps := #[.slice none 0 0, fv, .pointer (some ⟨w.heap.size, 0, none⟩), undef, .slice none 0 0, iEnc x, fv, iEnc x, undef, undef, undef, undef, undef], defers := [] }) ?assign ?body ?done ?stop
  case assign =>
    intro lp x W K hK
    gi_wp2
    exact hK
  case body =>
    rintro lp pre x W ⟨v, hbx, hrow, hBel⟩ hlt
    have hcb := hbx.cell
    have hsz := hBel.size
    have q1 : ∀ u ∈ [iEnc x], u.oneCell' = true := by simp [iEnc, Value.oneCell']
    have q2 : ∀ (j : Nat) (u : Value), [iEnc x][j]? = some u → (W.alloc (Obj.cells #[iEnc x] 3)).cell? ((⟨W.heap.size, 0, none⟩ : Addr).add j) = some u := fun j u hj => by
      obtain rfl : j = 0 := by
        have := (List.getElem?_eq_some_iff.1 hj).1
        simpa using this
      obtain rfl : iEnc x = u := by simpa using hj
      simp [Addr.add]
    have q3 : pre.length + 1 ≤ maxLen := by unfold maxLen; omega
    have q4 : (pre.length + 1) * 8 ≤ 140737488355328 := by omega
    have q5 : w.heap.size ≤ (W.alloc (Obj.cells #[iEnc x] 3)).heap.size := by simp; omega
    simp only [iEnc]
    gi_wp2_with (first
      | (gi_at_builtin; refine wpListIn_append_own _ rfl _ _ 29 rfl w.heap.size 3 i0 (.int .i64 0) 1 8 Try.underlying29 hi hz0 hz1 hz2 rfl (by decide) _ _ _ rfl (hrow.alloc _) ⟨W.heap.size, 0, none⟩ 1 1 [iEnc x] rfl rfl q2 q1 q3 q4 q5 ?_; intro v' w3 hown' hg3 hnil3
         obtain ⟨hv1, hv2, hrow2, hko, hb⟩ := Boxed.appended hbx (by decide) hrow hBel.size (Nat.le_refl _) hown' hg3
         have hc3 := hv1.cell
         have hf3 := hv1.frozen
         obtain ⟨g', cap', rfl⟩ : ∃ g' cap', v' = .slice (some ⟨g', 0, none⟩) (pre.length + 1) cap' := by
           rcases hown'.2 with ⟨_, h0⟩ | ⟨g', cap', cur', hv', _⟩
           · exact absurd h0 (by omega)
           · exact ⟨_, _, hv'⟩
         have HOW := Lib.hid (show _ ∧ _ from ⟨hown', hrow2⟩)
         clear hown' hg3 hnil3 hrow2
         simp only [Act.put, List.setIfInBounds_toArray, List.set_cons_succ, List.set_cons_zero])
      | fail)
    refine ⟨hko, hb, _, hv2, ?_, hBel.trans hb⟩
    have := HOW.out.2
    simpa using this
  case done =>
    rintro D ys W hDs rfl ⟨v, hbx, hrow, hBel⟩ hK
    have hcb := hbx.cell
    gi_wp2
    refine ⟨by simp, .inl ⟨_, _, rfl, run_takeDeferred hK, ?_⟩⟩
    have hg : ∀ o, W.grownBy (W.putObj D o) (some D) := fun o => ⟨rfl, rfl, rfl, by simp, fun k _ hk => World.putObj_heap_other (fun e => hk (by rw [e]))⟩
    refine ⟨_, results_tmp rfl _ _ _, v, rfl, hrow.kept (hg _) ?_, hBel.trans (belowK_b (w := w) (Nat.le_refl _) W D _ _ (by omega) hK rfl rfl)⟩
    rcases hrow.2 with ⟨rfl, _⟩ | ⟨g, cap, cur, rfl, _, hgb, _⟩
    · exact .inl rfl
    · refine .inr fun e => ?_
      obtain rfl : g = D := by simpa [Value.ownBlock] using e
      rw [hgb] at hK
      cases hK
  case stop =>
    rintro D c pre W _ _ h _
    exact h.elim
theorem collectI_any (Bs : Nat) (sv : Value) (zs : List Int) (hlen : zs.length ≤ 1000000) (w : World) (hBs : Bs < w.heap.size) (hc : w.cell? ⟨Bs, 0, none⟩ = some sv) (hI : IntsB w.heap.size w sv zs) :
    Calls Try.prog 85 #[.func (.func 87) #[] #[.pointer (some ⟨Bs, 0, none⟩)]] w fun e w' =>
      ∃ v, e = .returned v ∧ w'.ownsRow w.heap.size 3 1 v zs.length (zs.map iEnc) ∧ Below w.heap.size w w' := by
  have H := Lib.hid (appSeq_any Bs sv zs hlen w hBs hc hI)
  clear hc hI
  go_enter Try.func85, Try.ntmps85
  go_wp2_with (go_at_call 108; refine (H.out).mono ?_; rintro e w' ⟨v, rfl, hr, hb⟩)
  go_ret
  exact ⟨v, rfl, hr, hb⟩
end Go.Proofs.Ytfihnmfbgdjkpaa
