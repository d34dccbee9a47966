/- The contracts of findName, findFile and inUse, with the library's searches at names and files. -/
import Derived.Test.YtbpboghjgbgjfaaFsA
import Derived.Test.YtbpboghjgbgjfaaShelf
import Derived.Deep.LoopGhost
namespace Go.Proofs.Ytbpboghjgbgjfaa
open Go.RowKit

/-- How two names compare. -/
def cmpB (a t : ByteArray) : Int := Lib.compareBytes a.data.toList t.data.toList
set_option maxRecDepth 100000 in
set_option maxHeartbeats 1000000 in
theorem findName1_any (a t : ByteArray) (i : Int) (w : World) :
    Calls Try.prog 87 #[.agg #[.string a, .int .i64 i], .string t] w fun e w' => e = .returned (.int .i64 (cmpB a t)) ∧ Below w.heap.size w w' := by
  have hc := Lib.hid (fun W => Try.strings_Compare a t W)
  unfold cmpB
  obtain ⟨c, hcc⟩ : ∃ c, Lib.compareBytes a.data.toList t.data.toList = c := ⟨_, rfl⟩
  rw [hcc] at hc ⊢
  clear hcc
  go_enter Try.func87, Try.ntmps87
  go_wp2_with fail
  refine (hc.out _).mono ?_
  rintro e w' ⟨rfl, rfl⟩
  go_wp2
  go_ret
  exact ⟨rfl, below_new _ _⟩
/-- Where a name belongs: behind all that are less. -/
def PlaceN (L : List NameV) (t : ByteArray) (k : Nat) : Prop := k ≤ L.length ∧ (∀ i (h : i < L.length), i < k → cmpB L[i].1 t < 0) ∧ (∀ i (h : i < L.length), k ≤ i → ¬ cmpB L[i].1 t < 0)
def hitN (L : List NameV) (t : ByteArray) (k : Nat) : Bool := if h : k < L.length then decide (cmpB L[k].1 t = 0) else false
theorem eg_of_findName1 : ∀ args w, (callFunc 87 args).run Try.prog w = .ok (.enter 87 args) w := enters_of Try.func87 (by kernel_rfl) rfl

set_option maxRecDepth 100000 in
set_option maxHeartbeats 4000000 in
theorem bsf_any (L : List NameV) (t : ByteArray) (k base : Nat) (v : Value) (w : World) (hr : NmR base w v L) (hn : L.length ≤ 1000) (hk : PlaceN L t k) :
    Calls Try.prog 86 #[v, .string t, .func (.func 87) #[] #[]] w fun e w' => e = .returned (.tuple #[.int .i64 (k : Int), .bool (hitN L t k)]) ∧ Below w.heap.size w w' := by
  have eg := eg_of_findName1
  rcases row_form hr with ⟨rfl, h0⟩ | ⟨g, cap, rfl, -, hg, hcap, hcm⟩
  · have hL : L = [] := List.eq_nil_of_length_eq_zero h0
    subst hL
    obtain rfl : k = 0 := by have := hk.1; simp at this; omega
    have e : hitN [] t 0 = false := rfl
    rw [e]
    clear hr hk e h0 hn
    go_enter Try.func86, Try.ntmps86
    go_wp2_with fail
    go_loopg [9, 10] 0 (fun kx s9 s10 wr => s9 = .int .i64 0 ∧ s10 = .int .i64 0 ∧ Below w.heap.size w wr)
    case atStart => exact ⟨rfl, rfl, Below.refl _ _⟩
    case round =>
      obtain ⟨rfl, rfl, hb⟩ := hrel
      have HB := Lib.hid hb
      clear hb
      go_wp2
      go_ret2
      exact ⟨rfl, HB.out⟩
  · obtain ⟨n, hnn⟩ : ∃ n, L.length = n := ⟨_, rfl⟩
    have HR : Hid (NmR base w (.slice (some ⟨g, 0, none⟩) L.length cap) L) := hr
    have HK := Lib.hid hk
    have HN := Lib.hid hnn
    rw [hnn] at hn hcap ⊢
    have hkn : k ≤ n := by have := hk.1; omega
    clear hr hk hnn
    unfold maxLen at hcm
    go_enter Try.func86, Try.ntmps86
    go_wp2_with fail
    go_loopg [9, 10] n (fun kx s9 s10 wr => ∃ lo hi : Nat, s9 = .int .i64 lo ∧ s10 = .int .i64 hi ∧ lo ≤ k ∧ k ≤ hi ∧ hi ≤ n ∧ hi - lo ≤ kx ∧ Below w.heap.size w wr)
    case atStart => exact ⟨0, n, rfl, rfl, Nat.zero_le _, hkn, Nat.le_refl _, by omega, Below.refl _ _⟩
    case round =>
      obtain ⟨lo, hi, rfl, rfl, hlk, hkh, hhn, hg1, hb⟩ := hrel
      by_cases hlt : lo < hi
      · have hmid : (lo + hi) / 2 < L.length := by have := HN.out; omega
        obtain ⟨c0, c1⟩ := NmR.cells (row_below HR.out hb) hmid
        have hc := fun W => findName1_any L[(lo + hi) / 2].1 t L[(lo + hi) / 2].2 W
        have hlo := HK.out.2.1 _ hmid
        have hhi := HK.out.2.2 _ hmid
        obtain ⟨a, ha⟩ : ∃ a, L[(lo + hi) / 2].1 = a := ⟨_, rfl⟩
        obtain ⟨i, hi2⟩ : ∃ a, L[(lo + hi) / 2].2 = a := ⟨_, rfl⟩
        rw [ha] at c0 hc hlo hhi
        rw [hi2] at c1 hc
        obtain ⟨q, hq⟩ : ∃ q, cmpB a t = q := ⟨_, rfl⟩
        rw [hq] at hc hlo hhi
        have HC := Lib.hid hc
        have HB := Lib.hid hb
        by_cases hneg : q < 0
        · have hkm : (lo + hi) / 2 + 1 ≤ k := by
            by_cases h : (lo + hi) / 2 < k
            · omega
            · exact absurd hneg (hhi (by omega))
          have d1 : decide (q < 0) = true := by rw [decide_eq_true_iff]; exact hneg
          clear hc ha hi2 hq hlo hhi hb hneg
          go_wp2_with (go_at_fn 87; refine (HC.out _).mono ?_; rintro e w' ⟨rfl, hb2⟩)
          go_roundg (hi - ((lo + hi) / 2 + 1))
          case measure => omega
          case rel => exact ⟨(lo + hi) / 2 + 1, hi, by rw [show ((lo : Int) + (hi : Int)) / 2 + 1 = (((lo + hi) / 2 + 1 : Nat) : Int) by omega], rfl, hkm, hkh, hhn, Nat.le_refl _, bl_trans' HB.out hb2⟩
        · have hkm : k ≤ (lo + hi) / 2 := by
            by_cases h : (lo + hi) / 2 < k
            · exact absurd (hlo h) hneg
            · omega
          have d1 : decide (q < 0) = false := by rw [decide_eq_false_iff_not]; exact hneg
          clear hc ha hi2 hq hlo hhi hb hneg
          go_wp2_with (go_at_fn 87; refine (HC.out _).mono ?_; rintro e w' ⟨rfl, hb2⟩)
          go_roundg ((lo + hi) / 2 - lo)
          case measure => omega
          case rel => exact ⟨lo, (lo + hi) / 2, rfl, by rw [show ((lo : Int) + (hi : Int)) / 2 = (((lo + hi) / 2 : Nat) : Int) by omega], hlk, hkm, by omega, Nat.le_refl _, bl_trans' HB.out hb2⟩
      · obtain rfl : lo = k := by omega
        obtain rfl : hi = lo := by omega
        by_cases hlt2 : hi < n
        · have hkl : hi < L.length := by have := HN.out; omega
          obtain ⟨c0, c1⟩ := NmR.cells (row_below HR.out hb) hkl
          have hc := fun W => findName1_any L[hi].1 t L[hi].2 W
          have hh : hitN L t hi = decide (cmpB L[hi].1 t = 0) := by unfold hitN; rw [dif_pos hkl]
          obtain ⟨a, ha⟩ : ∃ a, L[hi].1 = a := ⟨_, rfl⟩
          obtain ⟨i, hi2⟩ : ∃ a, L[hi].2 = a := ⟨_, rfl⟩
          rw [ha] at c0 hc hh
          rw [hi2] at c1 hc
          obtain ⟨q, hq⟩ : ∃ q, cmpB a t = q := ⟨_, rfl⟩
          rw [hq] at hc hh
          have HC := Lib.hid hc
          have HB := Lib.hid hb
          have HH := Lib.hid hh
          clear hc ha hi2 hq hb hh
          by_cases h0 : q = 0
          · subst h0
            go_wp2_with (go_at_fn 87; refine (HC.out _).mono ?_; rintro e w' ⟨rfl, hb2⟩)
            go_ret2
            exact ⟨by rw [HH.out]; rfl, bl_trans' HB.out hb2⟩
          · have d1 : (q == 0) = false := by rw [beq_eq_false_iff_ne]; exact h0
            have HQ := Lib.hid h0
            clear h0
            go_wp2_with (go_at_fn 87; refine (HC.out _).mono ?_; rintro e w' ⟨rfl, hb2⟩)
            go_ret2
            exact ⟨by rw [HH.out, decide_eq_false HQ.out]; rfl, bl_trans' HB.out hb2⟩
        · have hh : hitN L t hi = false := by unfold hitN; rw [dif_neg (by have := HN.out; omega)]
          have HH := Lib.hid hh
          have HB := Lib.hid hb
          clear hh hb
          go_wp2
          go_ret2
          exact ⟨by rw [HH.out]; rfl, HB.out⟩
set_option maxRecDepth 100000 in
set_option maxHeartbeats 4000000 in
theorem findName_any (L : List NameV) (t : ByteArray) (k base : Nat) (v : Value) (w : World) (hr : NmR base w v L) (hn : L.length ≤ 1000) (hk : PlaceN L t k) :
    Calls Try.prog 75 #[v, .string t] w fun e w' => e = .returned (.tuple #[.int .i64 (k : Int), .bool (hitN L t k)]) ∧ Below w.heap.size w w' := by
  have H := Lib.hid (bsf_any L t k base v w hr hn hk)
  clear hr hn hk
  go_enter Try.func75, Try.ntmps75
  go_wp2_with fail
  refine H.out.mono ?_
  rintro e w' ⟨rfl, hb⟩
  go_wp2
  go_ret2
  exact ⟨rfl, hb⟩
end Go.Proofs.Ytbpboghjgbgjfaa
