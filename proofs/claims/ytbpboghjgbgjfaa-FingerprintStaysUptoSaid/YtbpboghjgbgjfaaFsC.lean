/- The contracts of findFile and inUse. -/
import Derived.Test.YtbpboghjgbgjfaaFsB
namespace Go.Proofs.Ytbpboghjgbgjfaa
open Go.RowKit

/-- The first place at which p holds, the length if there is none. -/
def Firsts {α : Type} (p : α → Bool) (L : List α) (k : Nat) : Prop := k ≤ L.length ∧ (∀ i (h : i < L.length), i < k → p L[i] = false) ∧ (∀ h : k < L.length, p L[k] = true)
def placeZ (n k : Nat) : Int := if k < n then (k : Int) else -1
def FileV.agg (x : FileV) : Value := .agg #[.int .i64 x.ino, x.dv, .bool x.cp, .bool x.wh, .int .i64 x.lf]
/-- What a test of files hands back, wherever all that lay in w lies. -/
def TestF (g : FuncId) (lb : Array Value) (p : FileV → Bool) (L : List FileV) (w : World) : Prop :=
  ∀ i (h : i < L.length) W, Below w.heap.size w W → Calls Try.prog g (#[.agg #[.int .i64 L[i].ino, L[i].dv, .bool L[i].cp, .bool L[i].wh, .int .i64 L[i].lf]] ++ lb) W fun e w' => e = .returned (.bool (p L[i])) ∧ Below W.heap.size W w'
set_option maxRecDepth 100000 in
set_option maxHeartbeats 4000000 in
theorem idxF_any (L : List FileV) (p : FileV → Bool) (k base : Nat) (g : FuncId) (lb : Array Value) (v : Value) (w : World) (hr : FlR base w v L) (hn : L.length ≤ 1000) (hk : Firsts p L k)
    (eg : ∀ args w, (callFunc g args).run Try.prog w = .ok (.enter g args) w) (hp : TestF g lb p L w) :
    Calls Try.prog 48 #[v, .func (.func g) #[] lb] w fun e w' => e = .returned (.int .i64 (placeZ L.length k)) ∧ Below w.heap.size w w' := by
  rcases row_form hr with ⟨rfl, h0⟩ | ⟨b, cap, rfl, -, hg, hcap, hcm⟩
  · have hL : L = [] := List.eq_nil_of_length_eq_zero h0
    subst hL
    have e : placeZ ([] : List FileV).length k = -1 := by unfold placeZ; rw [if_neg (by simp)]
    rw [e]
    clear hr hk e h0 hn hp
    go_enter Try.func48, Try.ntmps48
    go_wp2_with fail
    go_loopw [8] (fun s wr => s = .int .i64 0 ∧ Below w.heap.size w wr) (fun _ _ => 0)
    case atStart => exact ⟨rfl, Below.refl _ _⟩
    case round =>
      obtain ⟨rfl, hb⟩ := hrel
      have HB := Lib.hid hb
      clear hb
      go_wp2
      go_ret
      exact ⟨rfl, HB.out⟩
  · obtain ⟨n, hnn⟩ : ∃ n, L.length = n := ⟨_, rfl⟩
    have HR : Hid (FlR base w (.slice (some ⟨b, 0, none⟩) L.length cap) L) := hr
    have HK := Lib.hid hk
    have HN := Lib.hid hnn
    have HP := Lib.hid hp
    rw [hnn] at hn hcap ⊢
    have hkn : k ≤ n := by have := hk.1; omega
    clear hr hk hnn hp
    unfold maxLen at hcm
    go_enter Try.func48, Try.ntmps48
    go_wp2_with fail
    go_loopw [8] (fun s wr => ∃ i : Nat, i ≤ k ∧ s = .int .i64 i ∧ Below w.heap.size w wr) (fun s _ => n - (intOf s).toNat)
    case atStart => exact ⟨0, Nat.zero_le _, rfl, Below.refl _ _⟩
    case round =>
      obtain ⟨i, hik, rfl, hb⟩ := hrel
      by_cases hlt : i < n
      · have d1 : decide ((i : Int) < (n : Int)) = true := by rw [decide_eq_true_iff]; omega
        have hil : i < L.length := by have := HN.out; omega
        obtain ⟨c0, c1, c2, c3, c4⟩ := FlR.cells (row_below HR.out hb) hil
        have hc := fun W hW => HP.out i hil W hW
        have hf := HK.out.2.1 i hil
        have ht := HK.out.2.2
        obtain ⟨x, hx⟩ : ∃ x, L[i] = x := ⟨_, rfl⟩
        rw [hx] at c0 c1 c2 c3 c4 hc hf
        have HB := Lib.hid hb
        by_cases hlk : i < k
        · have hpx := hf hlk
          rw [hpx] at hc
          have HC := Lib.hid hc
          clear hc hf hx hb hpx ht
          go_wp2_with (go_at_fn g; refine (HC.out _ HB.out).mono ?_; rintro e w' ⟨rfl, hb2⟩)
          go_roundw
          case rel => exact ⟨i + 1, by omega, by go_num, bl_trans' HB.out hb2⟩
          case measure => simp [intOf]; omega
        · obtain rfl : i = k := by omega
          have hpx := ht hil
          rw [hx] at hpx
          rw [hpx] at hc
          have HC := Lib.hid hc
          have e : placeZ n i = (i : Int) := by unfold placeZ; rw [if_pos hlt]
          have HE := Lib.hid e
          clear hc hf hx hb hpx ht e
          go_wp2_with (go_at_fn g; refine (HC.out _ HB.out).mono ?_; rintro e w' ⟨rfl, hb2⟩)
          go_ret
          exact ⟨by rw [HE.out]; rfl, bl_trans' HB.out hb2⟩
      · have d1 : decide ((i : Int) < (n : Int)) = false := by rw [decide_eq_false_iff_not]; omega
        have e : placeZ n k = -1 := by unfold placeZ; rw [if_neg (by omega)]
        have HE := Lib.hid e
        have HB := Lib.hid hb
        clear e hb
        go_wp2
        go_ret
        exact ⟨by rw [HE.out]; rfl, HB.out⟩
set_option maxRecDepth 100000 in
set_option maxHeartbeats 1000000 in
theorem findFile1_any (x : FileV) (ino : Int) (B : Nat) (w : World) (hB : w.cell? ⟨B, 0, none⟩ = some (.int .i64 ino)) (hlt : B < w.heap.size) :
    Calls Try.prog 49 #[.agg #[.int .i64 x.ino, x.dv, .bool x.cp, .bool x.wh, .int .i64 x.lf], .pointer (some ⟨B, 0, none⟩)] w fun e w' => e = .returned (.bool (x.ino == ino)) ∧ Below w.heap.size w w' := by
  obtain ⟨q, hq⟩ : ∃ q, (x.ino == ino) = q := ⟨_, rfl⟩
  have hne : B ≠ w.heap.size := by omega
  rw [hq]
  go_enter Try.func49, Try.ntmps49
  go_wp2
  go_ret
  exact ⟨rfl, below_new _ _⟩
theorem eg_findFile1 : ∀ args w, (callFunc 49 args).run Try.prog w = .ok (.enter 49 args) w := enters_of Try.func49 (by kernel_rfl) rfl
set_option maxRecDepth 100000 in
set_option maxHeartbeats 4000000 in
theorem findFile_any (L : List FileV) (ino : Int) (k base : Nat) (v : Value) (w : World) (hr : FlR base w v L) (hn : L.length ≤ 1000) (hk : Firsts (fun x => x.ino == ino) L k) :
    Calls Try.prog 27 #[v, .int .i64 ino] w fun e w' => e = .returned (.int .i64 (placeZ L.length k)) ∧ Below w.heap.size w w' := by
  have hcell : (w.alloc (.cells #[.int .i64 ino] 3)).cell? ⟨w.heap.size, 0, none⟩ = some (.int .i64 ino) := by rw [Lib.cell_of_heap (heap_alloc_new _ _)]; rfl
  have hsz : w.heap.size < (w.alloc (.cells #[.int .i64 ino] 3)).heap.size := by simp
  have ht : TestF 49 #[.pointer (some ⟨w.heap.size, 0, none⟩)] (fun x => x.ino == ino) L (w.alloc (.cells #[.int .i64 ino] 3)) := fun i h W hW =>
    findFile1_any L[i] ino w.heap.size W ((hW.cell (p := ⟨w.heap.size, 0, none⟩) hsz).trans hcell) (Nat.lt_of_lt_of_le hsz hW.size)
  have H := Lib.hid (idxF_any L (fun x => x.ino == ino) k base _ _ v _ (hr.alloc _) hn hk eg_findFile1 ht)
  obtain ⟨z, hz⟩ : ∃ z, placeZ L.length k = z := ⟨_, rfl⟩
  rw [hz] at H ⊢
  clear hr hn hk hcell hsz ht hz
  go_enter Try.func27, Try.ntmps27
  go_wp2_with fail
  refine H.out.mono ?_
  rintro e w' ⟨rfl, hb⟩
  go_wp2
  go_ret
  exact ⟨rfl, bl_trans' (below_new _ _) hb⟩
end Go.Proofs.Ytbpboghjgbgjfaa
