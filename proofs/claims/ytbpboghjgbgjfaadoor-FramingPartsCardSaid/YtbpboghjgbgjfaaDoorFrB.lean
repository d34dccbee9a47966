/- Parts of some bytes as slices; package framing's Text and its reference. -/
import Derived.Test.YtbpboghjgbgjfaaDoorFrA
import Derived.Test.YtbpboghjgbgjfaaDoorRepair
import Derived.Test.YtbpboghjgbgjfaaDoorRefRep2
namespace Go.Proofs.YtbpboghjgbgjfaaDoor
open Go.RowKit

/-- Where a part of a slice begins. -/
def subA (a : Option Addr) (c i : Nat) : Option Addr := if c = i then a else a.map (·.add i)
theorem run_sub (a : Option Addr) (n c i j : Nat) (h1 : i ≤ j) (h2 : j ≤ c) (W : World) :
    (Instr.slice 22 (.slice a n c) (some (.int .i64 (i : Int))) (some (.int .i64 (j : Int))) none).run Tryd.prog W = .ok (.slice (subA a c i) (j - i) (c - i)) W := by
  have u := run_underlying Tryd.underlying22
  simp [go_sem, Instr.slice, u, subA]
  rw [if_pos h2, if_pos h1]
theorem run_from (a : Option Addr) (n c i : Nat) (h1 : i ≤ n) (W : World) :
    (Instr.slice 22 (.slice a n c) (some (.int .i64 (i : Int))) none none).run Tryd.prog W = .ok (.slice (subA a c i) (n - i) (c - i)) W := by
  have u := run_underlying Tryd.underlying22
  simp [go_sem, Instr.slice, u, subA]
  intro h
  omega
theorem BySl.sub {w : World} {a : Option Addr} {n c : Nat} {l : List UInt8} (h : BySl w (.slice a n c) l) (i j : Nat) (hi : i ≤ j) (hj : j ≤ l.length) : BySl w (.slice (subA a c i) (j - i) (c - i)) ((l.drop i).take (j - i)) := by
  obtain ⟨a2, c3, h1, h2, h3⟩ := h
  cases h1
  have hl : ((l.drop i).take (j - i)).length = j - i := by rw [List.length_take, List.length_drop]; omega
  refine ⟨_, _, by rw [hl], by omega, fun k hk => ?_⟩
  rw [hl] at hk
  obtain ⟨g, o, h4, h5, h6⟩ := h3 (i + k) (by omega)
  refine ⟨g, o + i, ?_, h5, ?_⟩
  · unfold subA
    rw [if_neg (by omega), h4]
    simp only [Option.map_some, Option.some.injEq]
    unfold Addr.add
    split
    · rename_i hz; rw [hz]; rfl
    · rfl
  · rw [show o + i + k = o + (i + k) by omega, h6]
    simp
theorem BySl.rest {w : World} {a : Option Addr} {n c : Nat} {l : List UInt8} (h : BySl w (.slice a n c) l) (i : Nat) (hi : i ≤ l.length) : BySl w (.slice (subA a c i) (n - i) (c - i)) (l.drop i) := by
  have hn : n = l.length := by obtain ⟨a2, c3, h1, -⟩ := h; cases h1; rfl
  have := h.sub i l.length hi (Nat.le_refl _)
  rw [List.take_of_length_le (by rw [List.length_drop]; omega)] at this
  rw [hn]
  exact this
theorem BySl.slc {w : World} {v : Value} {l : List UInt8} (h : BySl w v l) : SlcAt w w.heap.size v l := by
  obtain ⟨a, c, rfl, hc, hx⟩ := h
  by_cases h0 : l.length = 0
  · obtain rfl := List.eq_nil_of_length_eq_zero h0
    exact .inl ⟨a, c, rfl, rfl⟩
  · obtain ⟨g, o, e, hg, -⟩ := hx 0 (by omega)
    refine .inr ⟨g, o, c, by rw [e], hc, hg, fun j hj => ?_⟩
    obtain ⟨g2, o2, e2, -, h2⟩ := hx j hj
    rw [e] at e2
    cases e2
    rw [h2]
    simp [byteAt, hj]
/-- The bytes without one at the end. -/
def cutB (l : List UInt8) (y : UInt8) : Nat := if l[l.length - 1]? = some y then l.length - 1 else l.length
theorem cutB_le (l : List UInt8) (y : UInt8) : cutB l y ≤ l.length := by unfold cutB; split <;> omega
theorem stripN_yes {l : List UInt8} (h : l[l.length - 1]? = some 10) : stripN l = cutB (l.take (l.length - 1)) 13 := by
  have h0 : 0 < l.length := by
    have := (List.getElem?_eq_some_iff.1 h).1
    omega
  have hl : (l.take (l.length - 1)).length = l.length - 1 := by rw [List.length_take]; omega
  unfold stripN cutB
  rw [if_pos h, hl]
  by_cases h2 : 2 ≤ l.length
  · have hx : (l.take (l.length - 1))[l.length - 1 - 1]? = l[l.length - 2]? := by
      rw [List.getElem?_take, if_pos (by omega)]
      congr 1
    rw [hx]
    by_cases h3 : l[l.length - 2]? = some 13
    · rw [if_pos ⟨h2, h3⟩, if_pos h3]; omega
    · rw [if_neg (fun e => h3 e.2), if_neg h3]
  · have hx : ¬ (l.take (l.length - 1))[l.length - 1 - 1]? = some 13 := by
      rw [List.getElem?_eq_none (by rw [hl]; omega)]
      exact fun e => by cases e
    rw [if_neg (fun e => h2 e.1), if_neg hx]
theorem stripN_no {l : List UInt8} (h : ¬ l[l.length - 1]? = some 10) : stripN l = l.length := by unfold stripN; rw [if_neg h]
theorem suf_one (l : List UInt8) (y : UInt8) : Lib.hasSuffix l [y] = decide (l[l.length - 1]? = some y) := by
  rw [Bool.eq_iff_iff, decide_eq_true_iff]
  unfold Lib.hasSuffix
  rw [List.isSuffixOf_iff_suffix]
  constructor
  · rintro ⟨t, rfl⟩
    simp
  · intro h
    have hne : l ≠ [] := by
      rintro rfl
      simp at h
    refine ⟨l.dropLast, ?_⟩
    have h2 : l.getLast hne = y := by
      rw [List.getLast_eq_getElem]
      have := (List.getElem?_eq_some_iff.1 h).2
      exact this
    rw [← h2]
    exact List.dropLast_concat_getLast hne
theorem bytesOf_map (l : List UInt8) : Lib.bytesOf (l.map fun b => (b.toNat : Int)) = l := by
  unfold Lib.bytesOf
  rw [List.map_map]
  conv => rhs; rw [← List.map_id l]
  apply List.map_congr_left
  intro b _
  simp
theorem BySl.inn {w : World} {a : Option Addr} {n c : Nat} {l : List UInt8} (h : BySl w (.slice a n c) l) : Lib.BytesIn w a n (l.map fun b => (b.toNat : Int)) := fun hn => by
  obtain ⟨a2, c3, h1, h2, h3⟩ := h
  cases h1
  obtain ⟨g, o, h4, -, -⟩ := h3 0 hn
  refine ⟨g, o, h4, fun i hi => ?_⟩
  obtain ⟨g2, o2, h5, -, h6⟩ := h3 i hi
  rw [h4] at h5
  cases h5
  rw [h6]
  simp [hi]
theorem trimV_one {w : World} {a : Option Addr} {n c : Nat} {l : List UInt8} (h : BySl w (.slice a n c) l) (y : UInt8) :
    Lib.trimSuffixV a n c (l.map fun b => (b.toNat : Int)) [(y.toNat : Int)] = .slice a (cutB l y) c := by
  obtain ⟨a2, c3, h1, h2, h3⟩ := h
  cases h1
  have hy : Lib.bytesOf [(y.toNat : Int)] = [y] := bytesOf_map [y]
  by_cases h0 : l.length = 0
  · obtain rfl := List.eq_nil_of_length_eq_zero h0
    have hc : cutB [] y = 0 := by simp [cutB]
    rw [hc]
    unfold Lib.trimSuffixV
    split
    · unfold Lib.bytesTrimSuffix
      rw [hy, bytesOf_map, suf_one]
      simp
    · rfl
  · obtain ⟨g, o, h4, -, -⟩ := h3 0 (by omega)
    subst h4
    show Lib.bytesTrimSuffix g o l.length c _ _ = _
    unfold Lib.bytesTrimSuffix
    rw [hy, bytesOf_map, suf_one]
    unfold cutB
    by_cases hq : l[l.length - 1]? = some y
    · rw [decide_eq_true hq, if_pos rfl, if_pos hq]; rfl
    · rw [decide_eq_false hq, if_neg (by simp), if_neg hq]
theorem cut_any (a : Option Addr) (n c g d : Nat) (l : List UInt8) (y : UInt8) (w : World) (h : BySl w (.slice a n c) l) (hl : l.length ≤ 4194304) (hg : w.cell? ⟨g, 0, none⟩ = some (.int .u8 (y.toNat : Int))) :
    Calls Tryd.prog 19 #[.slice a n c, .slice (some ⟨g, 0, none⟩) 1 d] w fun e w' => e = .returned (.tuple #[.slice a (cutB l y) c, .bool (decide (l[l.length - 1]? = some y))]) ∧ w' = w := by
  obtain ⟨a2, c3, h1, h2, -⟩ := id h
  cases h1
  have hk := Tryd.bytes_CutSuffix_all a (some ⟨g, 0, none⟩) l.length c 1 d (l.map fun b => (b.toNat : Int)) [(y.toNat : Int)] w (List.length_map ..) rfl h2 (by omega) h.inn
    (fun _ => ⟨g, 0, rfl, fun i hi => by obtain rfl : i = 0 := by omega
                                         exact hg⟩)
  rw [trimV_one h y, bytesOf_map, show Lib.bytesOf [(y.toNat : Int)] = [y] from bytesOf_map [y], suf_one] at hk
  exact hk
theorem trim_any (a : Option Addr) (n c g d : Nat) (l : List UInt8) (y : UInt8) (w : World) (h : BySl w (.slice a n c) l) (hl : l.length ≤ 4194304) (hg : w.cell? ⟨g, 0, none⟩ = some (.int .u8 (y.toNat : Int))) :
    Calls Tryd.prog 20 #[.slice a n c, .slice (some ⟨g, 0, none⟩) 1 d] w fun e w' => e = .returned (.slice a (cutB l y) c) ∧ w' = w := by
  obtain ⟨a2, c3, h1, h2, -⟩ := id h
  cases h1
  have hk := Tryd.bytes_TrimSuffix_all a (some ⟨g, 0, none⟩) l.length c 1 d (l.map fun b => (b.toNat : Int)) [(y.toNat : Int)] w (List.length_map ..) rfl h2 (by omega) h.inn
    (fun _ => ⟨g, 0, rfl, fun i hi => by obtain rfl : i = 0 := by omega
                                         exact hg⟩)
  rw [trimV_one h y] at hk
  exact hk

set_option maxRecDepth 100000 in
set_option maxHeartbeats 2000000 in
theorem text_any (sv : Value) (l : List UInt8) (hl : l.length ≤ 4194304) (w : World) (hT : Tabs w) (h : BySl w sv l) :
    Calls Tryd.prog 10 #[sv] w fun e w' => e = .returned (.tuple #[.string ⟨(textB l).toArray⟩, .int .i64 (textN l : Int)]) ∧ Below w.heap.size w w' := by
  have hb1 := below_new w (.cells #[.int .u8 10] 5)
  have h1 := h.below hb1
  obtain ⟨a, c, rfl, hc, -⟩ := id h
  have hct := cut_any a l.length c w.heap.size 1 l 10 _ h1 hl (by rw [Lib.cell_of_heap (heap_alloc_new w _)]; rfl)
  have H := Lib.hid (And.intro h (And.intro hT (And.intro hb1 h1)))
  clear h hT hb1 h1
  by_cases h10 : l[l.length - 1]? = some 10
  · rw [decide_eq_true h10] at hct
    have HC := Lib.hid hct
    clear hct
    have hcb : cutB l 10 = l.length - 1 := if_pos h10
    have hl0 : 0 < l.length := by
      have := (List.getElem?_eq_some_iff.1 h10).1
      omega
    have hlt : (l.take (l.length - 1)).length = l.length - 1 := by rw [List.length_take]; omega
    have h2 := (H.out.2.2.2.take (l.length - 1) (by omega) c (by omega))
    have hb2 := below_new (w.alloc (.cells #[.int .u8 10] 5)) (.cells #[.int .u8 13] 5)
    have h3 := h2.below hb2
    have hsz : (w.alloc (.cells #[.int .u8 10] 5)).heap.size = w.heap.size + 1 := by simp
    have htr := trim_any a (l.length - 1) c (w.heap.size + 1) 1 _ 13 _ h3 (by omega) (by rw [← hsz, Lib.cell_of_heap (heap_alloc_new _ _)]; rfl)
    have h4 := h3.take (cutB (l.take (l.length - 1)) 13) (cutB_le _ _) c (by have := cutB_le (l.take (l.length - 1)) 13; omega)
    have hrp := repair_any (.slice a (cutB (l.take (l.length - 1)) 13) c) _ (by rw [List.length_take]; omega) _ (Utf8Tabs_below H.out.2.1 (bl_trans' H.out.2.2.1 hb2)) h4.slc
    rw [List.take_take, Nat.min_eq_left (by have := cutB_le (l.take (l.length - 1)) 13; omega), ← stripN_yes h10] at hrp
    have ht1 : repB (l.take (stripN l)) = textB l := rfl
    have ht2 : repN (l.take (stripN l)) = textN l := rfl
    rw [ht1, ht2] at hrp
    rw [← stripN_yes h10] at htr
    have HR := Lib.hid (And.intro htr (And.intro hrp (bl_trans' H.out.2.2.1 hb2)))
    rw [hcb] at HC
    clear hrp h2 h3 h4 htr hb2 hlt ht1 ht2 h10 hsz hcb
    go_enter Tryd.func10, Tryd.ntmps10
    go_wp2_with fail
    refine (HC.out).mono ?_
    rintro e w1 ⟨rfl, rfl⟩
    go_wp2_with fail
    with_reducible refine (HR.out.1).mono ?_
    rintro e w1 ⟨rfl, rfl⟩
    go_wp2_with fail
    refine (HR.out.2.1).mono ?_
    rintro e w1 ⟨rfl, hb⟩
    have HB := Lib.hid (bl_trans' HR.out.2.2 hb)
    clear hb
    go_wp2
    go_ret2
    exact ⟨rfl, HB.out⟩
  · rw [decide_eq_false h10] at hct
    have HC := Lib.hid hct
    clear hct
    have hcb : cutB l 10 = l.length := if_neg h10
    have hrp := repair_any (.slice a l.length c) l (by omega) _ (Utf8Tabs_below H.out.2.1 H.out.2.2.1) H.out.2.2.2.slc
    have ht1 : repB l = textB l := by unfold textB; rw [stripN_no h10, List.take_length]
    have ht2 : repN l = textN l := by unfold textN; rw [stripN_no h10, List.take_length]
    rw [ht1, ht2] at hrp
    have HR := Lib.hid hrp
    rw [hcb] at HC
    clear hrp ht1 ht2 h10
    go_enter Tryd.func10, Tryd.ntmps10
    go_wp2_with fail
    refine (HC.out).mono ?_
    rintro e w1 ⟨rfl, rfl⟩
    go_wp2_with fail
    refine (HR.out).mono ?_
    rintro e w1 ⟨rfl, hb⟩
    have HB := Lib.hid (bl_trans' H.out.2.2.1 hb)
    clear hb
    go_wp2
    go_ret2
    exact ⟨rfl, HB.out⟩
end Go.Proofs.YtbpboghjgbgjfaaDoor
