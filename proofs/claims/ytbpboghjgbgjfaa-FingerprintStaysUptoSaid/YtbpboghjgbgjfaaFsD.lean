/- The contract of inUse. -/
import Derived.Test.YtbpboghjgbgjfaaFsC
namespace Go.Proofs.Ytbpboghjgbgjfaa
open Go.RowKit

/-- What a test of names hands back, wherever all that lay in w lies. -/
def TestN (g : FuncId) (lb : Array Value) (p : NameV → Bool) (L : List NameV) (w : World) : Prop :=
  ∀ i (h : i < L.length) W, Below w.heap.size w W → Calls Try.prog g (#[.agg #[.string L[i].1, .int .i64 L[i].2]] ++ lb) W fun e w' => e = .returned (.bool (p L[i])) ∧ Below W.heap.size W w'
set_option maxRecDepth 100000 in
set_option maxHeartbeats 4000000 in
theorem idxN_any (L : List NameV) (p : NameV → Bool) (k base : Nat) (g : FuncId) (lb : Array Value) (v : Value) (w : World) (hr : NmR base w v L) (hn : L.length ≤ 1000) (hk : Firsts p L k)
    (eg : ∀ args w, (callFunc g args).run Try.prog w = .ok (.enter g args) w) (hp : TestN g lb p L w) :
    Calls Try.prog 84 #[v, .func (.func g) #[] lb] w fun e w' => e = .returned (.int .i64 (placeZ L.length k)) ∧ Below w.heap.size w w' := by
  rcases row_form hr with ⟨rfl, h0⟩ | ⟨b, cap, rfl, -, hg, hcap, hcm⟩
  · have hL : L = [] := List.eq_nil_of_length_eq_zero h0
    subst hL
    have e : placeZ ([] : List NameV).length k = -1 := by unfold placeZ; rw [if_neg (by simp)]
    rw [e]
    clear hr hk e h0 hn hp
    go_enter Try.func84, Try.ntmps84
    go_wp2_with fail
    go_loopw [8] (fun s wr => s = .int .i64 0 ∧ Below w.heap.size w wr) (fun _ _ => 0)
    case atStart => exact ⟨rfl, Below.refl _ _⟩
    case round =>
      obtain ⟨rfl, hb⟩ := hrel
      have HB := Lib.hid hb
      clear hb
      go_wp2
      go_ret
      exact ⟨rfl, HB.out⟩
  · obtain ⟨n, hnn⟩ : ∃ n, L.length = n := ⟨_, rfl⟩
    have HR : Hid (NmR base w (.slice (some ⟨b, 0, none⟩) L.length cap) L) := hr
    have HK := Lib.hid hk
    have HN := Lib.hid hnn
    have HP := Lib.hid hp
    rw [hnn] at hn hcap ⊢
    have hkn : k ≤ n := by have := hk.1; omega
    clear hr hk hnn hp
    unfold maxLen at hcm
    go_enter Try.func84, Try.ntmps84
    go_wp2_with fail
    go_loopw [8] (fun s wr => ∃ i : Nat, i ≤ k ∧ s = .int .i64 i ∧ Below w.heap.size w wr) (fun s _ => n - (intOf s).toNat)
    case atStart => exact ⟨0, Nat.zero_le _, rfl, Below.refl _ _⟩
    case round =>
      obtain ⟨i, hik, rfl, hb⟩ := hrel
      by_cases hlt : i < n
      · have d1 : decide ((i : Int) < (n : Int)) = true := by rw [decide_eq_true_iff]; omega
        have hil : i < L.length := by have := HN.out; omega
        obtain ⟨c0, c1⟩ := NmR.cells (row_below HR.out hb) hil
        have hc := fun W hW => HP.out i hil W hW
        have hf := HK.out.2.1 i hil
        have ht := HK.out.2.2
        obtain ⟨x, hx⟩ : ∃ x, L[i] = x := ⟨_, rfl⟩
        rw [hx] at c0 c1 hc hf
        have HB := Lib.hid hb
        by_cases hlk : i < k
        · have hpx := hf hlk
          rw [hpx] at hc
          have HC := Lib.hid hc
          clear hc hf hx hb hpx ht
          go_wp2_with (go_at_fn g; refine (HC.out _ HB.out).mono ?_; rintro e w' ⟨rfl, hb2⟩)
          go_roundw
          case rel => exact ⟨i + 1, by omega, by go_num, bl_trans' HB.out hb2⟩
          case measure => simp [intOf]; omega
        · obtain rfl : i = k := by omega
          have hpx := ht hil
          rw [hx] at hpx
          rw [hpx] at hc
          have HC := Lib.hid hc
          have e : placeZ n i = (i : Int) := by unfold placeZ; rw [if_pos hlt]
          have HE := Lib.hid e
          clear hc hf hx hb hpx ht e
          go_wp2_with (go_at_fn g; refine (HC.out _ HB.out).mono ?_; rintro e w' ⟨rfl, hb2⟩)
          go_ret
          exact ⟨by rw [HE.out]; rfl, bl_trans' HB.out hb2⟩
      · have d1 : decide ((i : Int) < (n : Int)) = false := by rw [decide_eq_false_iff_not]; omega
        have e : placeZ n k = -1 := by unfold placeZ; rw [if_neg (by omega)]
        have HE := Lib.hid e
        have HB := Lib.hid hb
        clear e hb
        go_wp2
        go_ret
        exact ⟨by rw [HE.out]; rfl, HB.out⟩
set_option maxRecDepth 100000 in
set_option maxHeartbeats 4000000 in
theorem contN_any (L : List NameV) (p : NameV → Bool) (k base : Nat) (g : FuncId) (lb : Array Value) (v : Value) (w : World) (hr : NmR base w v L) (hn : L.length ≤ 1000) (hk : Firsts p L k)
    (eg : ∀ args w, (callFunc g args).run Try.prog w = .ok (.enter g args) w) (hp : TestN g lb p L w) :
    Calls Try.prog 68 #[v, .func (.func g) #[] lb] w fun e w' => e = .returned (.bool (decide (k < L.length))) ∧ Below w.heap.size w w' := by
  have H := Lib.hid (idxN_any L p k base g lb v w hr hn hk eg hp)
  by_cases h : k < L.length
  · have e : placeZ L.length k = (k : Int) := by unfold placeZ; rw [if_pos h]
    rw [e] at H
    rw [decide_eq_true h]
    have h0 : 0 ≤ (k : Int) := by omega
    clear hr hn hk hp e h
    go_enter Try.func68, Try.ntmps68
    go_wp2_with fail
    refine H.out.mono ?_
    rintro e w' ⟨rfl, hb⟩
    go_wp2
    go_ret
    exact ⟨rfl, hb⟩
  · have e : placeZ L.length k = -1 := by unfold placeZ; rw [if_neg h]
    rw [e] at H
    rw [decide_eq_false h]
    clear hr hn hk hp e h
    go_enter Try.func68, Try.ntmps68
    go_wp2_with fail
    refine H.out.mono ?_
    rintro e w' ⟨rfl, hb⟩
    go_wp2
    go_ret
    exact ⟨rfl, hb⟩
set_option maxRecDepth 100000 in
set_option maxHeartbeats 1000000 in
theorem inUse1_any (x : NameV) (ino : Int) (B : Nat) (w : World) (hB : w.cell? ⟨B, 0, none⟩ = some (.int .i64 ino)) (hlt : B < w.heap.size) :
    Calls Try.prog 69 #[.agg #[.string x.1, .int .i64 x.2], .pointer (some ⟨B, 0, none⟩)] w fun e w' => e = .returned (.bool (x.2 == ino)) ∧ Below w.heap.size w w' := by
  obtain ⟨q, hq⟩ : ∃ q, (x.2 == ino) = q := ⟨_, rfl⟩
  have hne : B ≠ w.heap.size := by omega
  rw [hq]
  go_enter Try.func69, Try.ntmps69
  go_wp2
  go_ret
  exact ⟨rfl, below_new _ _⟩
theorem eg_inUse1 : ∀ args w, (callFunc 69 args).run Try.prog w = .ok (.enter 69 args) w := enters_of Try.func69 (by kernel_rfl) rfl
theorem bsI_any (L : List Int) (base : Nat) (v : Value) (x : Int) (w : World) (hr : InR base w v L) (hn : L.length ≤ 1000) (hs : L.Pairwise (· ≤ ·)) :
    Calls Try.prog 67 #[v, .int .i64 x] w fun e w' => (∃ z : Int, e = .returned (.tuple #[.int .i64 z, .bool (L.contains x)])) ∧ Below w.heap.size w w' := by
  rcases row_form hr with ⟨rfl, h0⟩ | ⟨g, cap, rfl, -, hg, hcap, hcm⟩
  · have hL : L = [] := List.eq_nil_of_length_eq_zero h0
    subst hL
    refine (Try.slices_BinarySearch_int_empty none 0 x w).mono fun e w' h => ?_
    obtain ⟨h1, h2⟩ := h
    exact ⟨⟨_, by rw [h1]; rfl⟩, by subst h2; exact Below.refl _ _⟩
  · refine (Try.slices_BinarySearch_int g 0 L.length cap L x w (Nat.le_refl _) (by omega) (fun j hj => ?_) (by rw [List.take_of_length_le (Nat.le_refl _)]; exact hs)).mono fun e w' h => ?_
    · have := InR.cells hr hj
      rw [Nat.zero_add, this]
      simp [List.getD, hj]
    · obtain ⟨h1, q, h2⟩ := h
      rw [List.take_of_length_le (Nat.le_refl _)] at h1
      exact ⟨⟨_, h1⟩, by rw [h2]; exact ⟨rfl, rfl, rfl, Nat.le_refl _, fun _ _ => rfl⟩⟩
def usedB (names : List NameV) (opn : List Int) (ino : Int) : Bool := opn.contains ino || names.any (fun x => x.2 == ino)
theorem firsts_ex {α : Type} (p : α → Bool) : ∀ L : List α, ∃ k, Firsts p L k ∧ decide (k < L.length) = L.any p
  | [] => ⟨0, ⟨Nat.le_refl _, fun i h => by simp at h, fun h => by simp at h⟩, rfl⟩
  | a :: r => by
    cases ha : p a with
    | true => exact ⟨0, ⟨Nat.zero_le _, fun i h hi => by omega, fun _ => ha⟩, by simp [ha]⟩
    | false =>
      obtain ⟨k, ⟨h1, h2, h3⟩, h4⟩ := firsts_ex p r
      refine ⟨k + 1, ⟨by simpa using h1, fun i h hi => ?_, fun h => ?_⟩, ?_⟩
      · cases i with
        | zero => exact ha
        | succ i => exact h2 i (by simpa using h) (by omega)
      · exact h3 (by simpa using h)
      · simp only [List.length_cons, List.any_cons, ha, Bool.false_or, ← h4]
        simp
set_option maxRecDepth 100000 in
set_option maxHeartbeats 4000000 in
theorem inUse_any (names : List NameV) (opn : List Int) (ino : Int) (b1 b3 : Nat) (nv fv ov : Value) (w : World) (hr : NmR b1 w nv names) (hn : names.length ≤ 1000) (ho : InR b3 w ov opn) (hon : opn.length ≤ 1000) (hs : opn.Pairwise (· ≤ ·)) :
    Calls Try.prog 46 #[.agg #[nv, fv, ov], .int .i64 ino] w fun e w' => e = .returned (.bool (usedB names opn ino)) ∧ Below w.heap.size w w' := by
  obtain ⟨k, hk, hka⟩ := firsts_ex (fun x : NameV => x.2 == ino) names
  have hw2 := bl_trans' (below_new w (.cells #[nv, fv, ov] 33)) (below_new _ (.cells #[.int .i64 ino] 3))
  have hb := fun W (hW : Below w.heap.size w W) => bsI_any opn b3 ov ino W (row_below ho hW) hon hs
  have hsz1 : (w.alloc (.cells #[nv, fv, ov] 33)).heap.size = w.heap.size + 1 := by simp
  have hcell : ((w.alloc (.cells #[nv, fv, ov] 33)).alloc (.cells #[.int .i64 ino] 3)).cell? ⟨w.heap.size + 1, 0, none⟩ = some (.int .i64 ino) := by rw [← hsz1, Lib.cell_of_heap (heap_alloc_new _ _)]; rfl
  have hsz : w.heap.size + 1 < ((w.alloc (.cells #[nv, fv, ov] 33)).alloc (.cells #[.int .i64 ino] 3)).heap.size := by simp
  have hrow : ((w.alloc (.cells #[nv, fv, ov] 33)).alloc (.cells #[.int .i64 ino] 3)).heap[w.heap.size]? = some (.cells #[nv, fv, ov] 33 (0, 0)) := ((below_new _ _).block _ (by simp)).trans (heap_alloc_new w _)
  have ht : ∀ W, Below ((w.alloc (.cells #[nv, fv, ov] 33)).alloc (.cells #[.int .i64 ino] 3)).heap.size ((w.alloc (.cells #[nv, fv, ov] 33)).alloc (.cells #[.int .i64 ino] 3)) W → TestN 69 #[.pointer (some ⟨w.heap.size + 1, 0, none⟩)] (fun x => x.2 == ino) names W := fun W0 h0 i h W hW => by
    have hb2 := bl_trans' h0 hW
    exact inUse1_any names[i] ino (w.heap.size + 1) W ((hb2.cell (p := ⟨w.heap.size + 1, 0, none⟩) hsz).trans hcell) (Nat.lt_of_lt_of_le hsz hb2.size)
  have hc := fun W (hW : Below ((w.alloc (.cells #[nv, fv, ov] 33)).alloc (.cells #[.int .i64 ino] 3)).heap.size ((w.alloc (.cells #[nv, fv, ov] 33)).alloc (.cells #[.int .i64 ino] 3)) W) => contN_any names (fun x => x.2 == ino) k b1 _ _ nv W (row_below hr (bl_trans' hw2 hW)) hn hk eg_inUse1 (ht W hW)
  unfold usedB
  rw [hka] at hc
  obtain ⟨o1, ho1⟩ : ∃ o, opn.contains ino = o := ⟨_, rfl⟩
  obtain ⟨o2, ho2⟩ : ∃ o, names.any (fun x : NameV => x.2 == ino) = o := ⟨_, rfl⟩
  rw [ho1] at hb ⊢
  rw [ho2] at hc ⊢
  have H := Lib.hid (And.intro (hb _ hw2) (And.intro hc (And.intro hw2 (And.intro hcell (And.intro hrow hsz)))))
  clear hr hn hk hb hc ht hcell hsz ho hon hs ho1 ho2 hka hw2 hsz1 hrow
  go_enter Try.func46, Try.ntmps46
  go_wp2_with fail
  refine H.out.1.mono ?_
  rintro e w1 ⟨⟨z, rfl⟩, hb1⟩
  have HB := Lib.hid hb1
  have hrow2 := (hb1.block w.heap.size (by have := H.out.2.2.2.2.2; omega)).trans H.out.2.2.2.2.1
  have n0 : w1.cell? ⟨w.heap.size, 0, none⟩ = some nv := by rw [Lib.cell_of_heap hrow2]; rfl
  clear hb1 hrow2
  cases o1 with
  | true =>
    go_wp2
    go_ret
    exact ⟨rfl, bl_trans' H.out.2.2.1 HB.out⟩
  | false =>
    go_wp2_with fail
    refine (H.out.2.1 _ HB.out).mono ?_
    rintro e w2 ⟨rfl, hb2⟩
    go_wp2
    go_ret
    exact ⟨rfl, bl_trans' (bl_trans' H.out.2.2.1 HB.out) hb2⟩
end Go.Proofs.Ytbpboghjgbgjfaa
