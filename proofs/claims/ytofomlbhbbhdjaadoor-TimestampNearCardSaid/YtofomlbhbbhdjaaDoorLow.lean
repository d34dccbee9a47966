/- Lower of package ascii and of the reference, at every string that a call can be given: the same string. -/
import Derived.Test.YtofomlbhbbhdjaaDoorNumber
import Derived.Laws.BytesArg
import Derived.Lib.AppendStr
import Derived.Laws.OwnMore
import Derived.Laws.AppendOwnNone
namespace Go.Proofs.YtofomlbhbbhdjaaDoor
open Go.RowKit

theorem infoByteL : (Tryd.prog.info? 5).map (fun i => (i.zero, i.size, i.bytes)) = some (some (.int .u8 0), 1, 1) := by kernel_rfl
theorem byteCells_append (a b : List UInt8) : Lib.byteCells (a ++ b) = Lib.byteCells a ++ Lib.byteCells b := by simp [Lib.byteCells]
/-- A row of bytes that the call owns, as a string. -/
theorem conv_own {W : World} {B : Nat} {v : Value} {L : List UInt8} (h : W.ownsRow B 5 1 v L.length (Lib.byteCells L)) : (convert 22 9 v).run Tryd.prog W = .ok (.string ⟨L.toArray⟩) W := by
  have hcs := h.2
  rcases hcs with ⟨rfl, h0⟩ | ⟨g, cap, cur, rfl, _, hg, hn, _, _, htake⟩
  · obtain rfl : L = [] := List.eq_nil_of_length_eq_zero h0
    exact run_convert_bytes_nil W 22 5 Tryd.underlying22 Tryd.underlying5 0 0 9 Tryd.underlying9
  · refine run_convert_bytes_back W 22 9 5 ⟨g, 0, none⟩ cap L Tryd.underlying22 Tryd.underlying5 Tryd.underlying9 (fun j hj => ?_)
    have hadd : (⟨g, 0, none⟩ : Addr).add j = ⟨g, j, none⟩ := by unfold Addr.add; split <;> simp_all
    rw [hadd, cell_of_row W g j cur _ _ hg]
    have e : (Lib.byteCells L)[j]? = some (.int .u8 (L[j].toNat : Int)) := by simp [Lib.byteCells, hj]
    rw [← htake, List.getElem?_take] at e
    rw [if_pos (by omega)] at e
    simpa using e

/-- What a string's bytes become as a slice of bytes. -/
def bytesCap (W : World) (s : ByteArray) : Nat := grownCap W s.size 0 5
def bytesWorld (W : World) (s : ByteArray) : World := W.drew.alloc (.cells (bytesRow s (bytesCap W s)) 5 ((bytesRow s (bytesCap W s)).size, (bytesRow s (bytesCap W s)).size + 1))
theorem conv_bytes (W : World) (s : ByteArray) : (convert 9 22 (.string s)).run Tryd.prog W = .ok (.slice (some ⟨W.heap.size, 0, none⟩) s.size (bytesCap W s)) (bytesWorld W s) :=
  run_bytes_of_string W 9 22 5 s Tryd.underlying9 Tryd.underlying22 Tryd.underlying5
theorem bytesWorld_size (W : World) (s : ByteArray) : (bytesWorld W s).heap.size = W.heap.size + 1 := by
  unfold bytesWorld
  rw [World.size_alloc]
  rfl
theorem bytesWorld_below (n : Nat) (W : World) (s : ByteArray) (h : n ≤ W.heap.size) : Below n W (bytesWorld W s) := ((Below.refl n W).drew).alloc h _
def lowB (c : UInt8) : UInt8 := if 65 ≤ c.toNat ∧ c.toNat ≤ 90 then UInt8.ofNat (c.toNat + 32) else c
theorem lowB_up (c : UInt8) (h : 65 ≤ c.toNat ∧ c.toNat ≤ 90) : (lowB c).toNat = c.toNat + 32 := by
  unfold lowB
  rw [if_pos h]
  simp
  omega
theorem lowB_no (c : UInt8) (h : ¬ (65 ≤ c.toNat ∧ c.toNat ≤ 90)) : lowB c = c := by
  unfold lowB
  rw [if_neg h]
def lowL (l : List UInt8) : List UInt8 := l.map lowB
/-- The bytes while the first k of them are lowered. -/
def mid (l : List UInt8) (k : Nat) : List UInt8 := (l.take k).map lowB ++ l.drop k
theorem mid_zero (l : List UInt8) : mid l 0 = l := by simp [mid]
theorem mid_all (l : List UInt8) : mid l l.length = lowL l := by simp [mid, lowL]
theorem mid_length (l : List UInt8) (k : Nat) : (mid l k).length = l.length := by simp [mid]; omega
theorem mid_step (l : List UInt8) (k : Nat) (h : k < l.length) : (mid l k).set k (lowB l[k]) = mid l (k + 1) := by
  unfold mid
  have e : k = ((l.take k).map lowB).length := by simp; omega
  conv => lhs; arg 2; rw [e]
  rw [List.set_append_right _ _ (Nat.le_refl _), Nat.sub_self, List.drop_eq_getElem_cons h, List.set_cons_zero, take_snoc' l k h, List.map_append, List.append_assoc]
  rfl
theorem mid_same (l : List UInt8) (k : Nat) (h : k < l.length) (hc : lowB l[k] = l[k]) : mid l (k + 1) = mid l k := by
  unfold mid
  rw [List.drop_eq_getElem_cons h, take_snoc' l k h, List.map_append, List.append_assoc, List.map_cons, List.map_nil, hc]
  rfl
theorem mid_get (l : List UInt8) (k : Nat) (h : k < l.length) : (mid l k)[k]? = some l[k] := by
  unfold mid
  rw [List.getElem?_append_right (by simp; omega)]
  simp [h, show min k l.length = k by omega]

def rowL (l : List UInt8) (cap : Nat) : Array Value := bytesRow ⟨l.toArray⟩ cap
theorem rowL_get (l : List UInt8) (cap k : Nat) (c : UInt8) (h : l[k]? = some c) : (rowL l cap)[k]? = some (.int .u8 (c.toNat : Int)) := by
  obtain ⟨hk, rfl⟩ := List.getElem?_eq_some_iff.1 h
  simp [rowL, bytesRow, Array.getElem?_append, hk]
theorem rowL_set (l : List UInt8) (cap k : Nat) (c : UInt8) (hk : k < l.length) : (rowL l cap).setIfInBounds k (.int .u8 (c.toNat : Int)) = rowL (l.set k c) cap := by
  apply Array.ext'
  have e : (ByteArray.mk (l.set k c).toArray).size = (ByteArray.mk l.toArray).size := by simp [ByteArray.size]
  simp [rowL, bytesRow, e, hk, List.map_set]
theorem heap_setCell_row {W : World} {b i : Nat} {cur : Array Value} {t : TypeId} {fz : Nat × Nat} (v : Value) (h : W.heap[b]? = some (.cells cur t fz)) : (W.setCell ⟨b, i, none⟩ v).heap[b]? = some (.cells (cur.setIfInBounds i v) t fz) := by
  obtain ⟨hlt, hk⟩ := Array.getElem?_eq_some_iff.1 h
  show (W.heap.modify b _)[b]? = _
  rw [Array.getElem?_eq_getElem (by rw [Array.size_modify]; exact hlt), Array.getElem_modify_self, hk]
  rfl

set_option maxRecDepth 100000 in
set_option maxHeartbeats 2000000 in
theorem lower_any (s : ByteArray) (hs : s.size ≤ 140737488351232) (w : World) :
    Calls Tryd.prog 37 #[.string s] w fun e w' => e = .returned (.string ⟨(lowL s.data.toList).toArray⟩) ∧ Below w.heap.size w w' := by
  go_enter Tryd.func37, Tryd.ntmps37
  go_wp2_with fail
  rw [conv_bytes]
  simp only [Result.andThen]
  rw [Oper.upon_value]
  obtain ⟨cap, hcap⟩ : ∃ cap, bytesCap w s = cap := ⟨_, rfl⟩
  have hrow : ∃ fz : Nat × Nat, s.size ≤ fz.1 ∧ (bytesWorld w s).heap[w.heap.size]? = some (.cells (rowL s.data.toList cap) 5 fz) := by
    refine ⟨_, ?_, by rw [← hcap]; exact heap_alloc_new _ _⟩
    simp [bytesRow]
  have hbw := bytesWorld_below w.heap.size w s (Nat.le_refl _)
  rw [hcap]
  obtain ⟨w1, hw1⟩ : ∃ w1, bytesWorld w s = w1 := ⟨_, rfl⟩
  rw [hw1] at hrow hbw ⊢
  obtain ⟨fz, hfz, hrow⟩ := hrow
  clear hw1 hcap
  have hL := sizeB s
  go_wp2
  go_loopw [10] (fun i wr => ∃ k : Nat, k ≤ s.size ∧ i = .int .i64 k ∧ wr.heap[w.heap.size]? = some (.cells (rowL (mid s.data.toList k) cap) 5 fz) ∧ Below w.heap.size w wr) (fun i _ => s.size - (intOf i).toNat)
  case atStart => exact ⟨0, by omega, rfl, by rw [mid_zero]; exact hrow, hbw⟩
  case round =>
    obtain ⟨k, hk, rfl, hrk, hbr⟩ := hrel
    by_cases hlt : k < s.size
    · have hkl : k < s.data.toList.length := by omega
      have hcel : wr.cell? ⟨w.heap.size, k, none⟩ = some (.int .u8 (s[k].toNat : Int)) := by
        rw [cell_of_row _ _ _ _ _ _ hrk, rowL_get _ _ _ _ (mid_get _ k hkl)]
        rfl
      have hfro : wr.frozen? ⟨w.heap.size, k, none⟩ = false := by
        simp [World.frozen?, hrk]
        omega
      have hclt := UInt8.toNat_lt s[k]
      have hst := mid_step s.data.toList k hkl
      have hse : s.data.toList[k] = s[k] := rfl
      rw [hse] at hst
      by_cases hup : 65 ≤ s[k].toNat ∧ s[k].toNat ≤ 90
      · have hlo := lowB_up s[k] hup
        have hset := rowL_set (mid s.data.toList k) cap k (lowB s[k]) (by rw [mid_length]; omega)
        rw [hst] at hset
        have hwr := heap_setCell_row (i := k) (.int .u8 ((lowB s[k]).toNat : Int)) hrk
        rw [hset] at hwr
        have hbr2 : Below w.heap.size w (wr.setCell ⟨w.heap.size, k, none⟩ (.int .u8 ((lowB s[k]).toNat : Int))) := hbr.setCell (p := ⟨w.heap.size, k, none⟩) (Nat.le_refl _) _
        have hz : ((lowB s[k]).toNat : Int) = (s[k].toNat : Int) - 65 + 97 := by rw [hlo]; omega
        rw [hz] at hwr hbr2
        have HW := Lib.hid (And.intro hwr hbr2)
        have h1 := hup.1
        have h2 := hup.2
        clear hwr hbr2 hset hlo hst hse hup hz
        go_wp2
        go_roundw
        case rel => exact ⟨k + 1, by omega, by simp, HW.out.1, HW.out.2⟩
        case measure => simp [intOf]; omega
      · have hlo := lowB_no s[k] hup
        have hrk2 : wr.heap[w.heap.size]? = some (.cells (rowL (mid s.data.toList (k + 1)) cap) 5 fz) := by
          rw [mid_same _ k hkl hlo]
          exact hrk
        have HW := Lib.hid hrk2
        clear hst hse hlo hrk2
        by_cases h1 : 65 ≤ s[k].toNat
        · have h2 : ¬ s[k].toNat ≤ 90 := fun h => hup ⟨h1, h⟩
          clear hup
          go_wp2
          go_roundw
          case rel => exact ⟨k + 1, by omega, by simp, HW.out, hbr⟩
          case measure => simp [intOf]; omega
        · clear hup
          go_wp2
          go_roundw
          case rel => exact ⟨k + 1, by omega, by simp, HW.out, hbr⟩
          case measure => simp [intOf]; omega
    · obtain rfl : k = s.size := by omega
      rw [show mid s.data.toList s.size = lowL s.data.toList from by rw [← hL]; exact mid_all _] at hrk
      have hll : (lowL s.data.toList).length = s.size := by rw [← hL]; simp [lowL]
      have hcv : (convert 22 9 (.slice (some ⟨w.heap.size, 0, none⟩) s.size cap)).run Tryd.prog wr = .ok (.string ⟨(lowL s.data.toList).toArray⟩) wr := by
        have := run_convert_bytes_back wr 22 9 5 ⟨w.heap.size, 0, none⟩ cap (lowL s.data.toList) Tryd.underlying22 Tryd.underlying5 Tryd.underlying9 (fun j hj => by
          have hadd : (⟨w.heap.size, 0, none⟩ : Addr).add j = ⟨w.heap.size, j, none⟩ := by simp [Addr.add]; omega
          rw [hadd, cell_of_row _ _ _ _ _ _ hrk]
          exact rowL_get _ _ _ _ (List.getElem?_eq_getElem hj))
        rw [hll] at this
        exact this
      go_wp2
      go_ret
      exact ⟨rfl, hbr⟩

theorem lowL_snoc (s : ByteArray) (k : Nat) (h : k < s.size) : lowL (s.data.toList.take (k + 1)) = lowL (s.data.toList.take k) ++ [lowB s[k]] := by
  rw [take_snocB s k h, lowL, List.map_append]
  rfl

set_option maxRecDepth 100000 in
set_option maxHeartbeats 2000000 in
theorem rlower_any (s : ByteArray) (hs : s.size ≤ 140737488351232) (w : World) :
    Calls Tryd.prog 38 #[.string s] w fun e w' => e = .returned (.string ⟨(lowL s.data.toList).toArray⟩) ∧ Below w.heap.size w w' := by
  obtain ⟨i0, hi, hz0, hz1, hz2⟩ := info_parts infoByteL
  have hL := sizeB s
  go_enter Tryd.func38, Tryd.ntmps38
  go_wp2
  go_loopw [3, 4] (fun v i wr => ∃ (k : Nat), k ≤ s.size ∧ i = .int .i64 k ∧ wr.ownsRow w.heap.size 5 1 v (lowL (s.data.toList.take k)).length (Lib.byteCells (lowL (s.data.toList.take k))) ∧ Below w.heap.size w wr)
    (fun _ i _ => s.size - (intOf i).toNat)
  case atStart => exact ⟨0, by omega, rfl, World.ownsRow_nil _ _ _ _, Below.refl _ _⟩
  case round =>
    obtain ⟨k, hk, rfl, hrow, hbr⟩ := hrel
    by_cases hlt : k < s.size
    · have hclt := UInt8.toNat_lt s[k]
      have hsn := lowL_snoc s k hlt
      have hlen : (lowL (s.data.toList.take k)).length = k := by simp [lowL, hL]; omega
      have hb5 : ∀ z : Value, w.heap.size ≤ (wr.alloc (Obj.cells #[z] 5)).heap.size := fun z => by have := hbr.size; simp; omega
      have q3 : (lowL (s.data.toList.take k)).length + 1 ≤ maxLen := by rw [hlen]; unfold maxLen; omega
      have q4 : ((lowL (s.data.toList.take k)).length + 1) * 1 ≤ 140737488355328 := by rw [hlen]; omega
      have q2 : ∀ z : Value, ∀ (i : Nat) (u : Value), [z][i]? = some u → (wr.alloc (Obj.cells #[z] 5)).cell? ((⟨wr.heap.size, 0, none⟩ : Addr).add i) = some u := fun z i u hi => by
        obtain rfl : i = 0 := by
          have := (List.getElem?_eq_some_iff.1 hi).1
          simpa using this
        obtain rfl : z = u := by simpa using hi
        simp [Addr.add]
      by_cases h1 : 65 ≤ s[k].toNat
      · by_cases h2 : s[k].toNat ≤ 90
        · have hlo := lowB_up s[k] ⟨h1, h2⟩
          have HSN := Lib.hid hsn
          have HLO := Lib.hid hlo
          have q1 : ∀ u ∈ [Value.int .u8 ((s[k].toNat : Int) + 32)], u.oneCell' = true := by simp [Value.oneCell']
          clear hsn hlo
          go_wp2_with (at_builtin; refine wpList_append_own _ rfl (.tmp 23) (.tmp 25) 22 rfl w.heap.size 5 i0 (.int .u8 0) 1 1 Tryd.underlying22 hi hz0 hz1 hz2 rfl (by decide) _ _ _ rfl (hrow.alloc _) ⟨wr.heap.size, 0, none⟩ 1 1 [.int .u8 ((s[k].toNat : Int) + 32)] rfl rfl (q2 _) q1 q3 q4 (hb5 _) ?_)
          intro v' w3 hown' hg3 _
          have hb3 : Below w.heap.size w w3 := (hbr.alloc hbr.size _).grown hg3 (hb5 _) (fun r e => (hrow.lt r e).1)
          have hown2 : w3.ownsRow w.heap.size 5 1 v' (lowL (s.data.toList.take (k + 1))).length (Lib.byteCells (lowL (s.data.toList.take (k + 1)))) := by
            have e : Lib.byteCells [lowB s[k]] = [.int .u8 ((s[k].toNat : Int) + 32)] := by
              have := HLO.out
              simp [Lib.byteCells, this]
            rw [HSN.out, List.length_append, byteCells_append, e, hlen]
            exact hown'
          clear hown' hg3
          go_wp2
          go_roundw
          case rel => exact ⟨k + 1, by omega, by simp, hown2, hb3⟩
          case measure => simp [intOf]; omega
        · have hlo := lowB_no s[k] (fun h => h2 h.2)
          have HSN := Lib.hid hsn
          have HLO := Lib.hid hlo
          have q1 : ∀ u ∈ [Value.int .u8 (s[k].toNat : Int)], u.oneCell' = true := by simp [Value.oneCell']
          clear hsn hlo
          go_wp2_with (at_builtin; refine wpList_append_own _ rfl (.tmp 23) (.tmp 25) 22 rfl w.heap.size 5 i0 (.int .u8 0) 1 1 Tryd.underlying22 hi hz0 hz1 hz2 rfl (by decide) _ _ _ rfl (hrow.alloc _) ⟨wr.heap.size, 0, none⟩ 1 1 [.int .u8 (s[k].toNat : Int)] rfl rfl (q2 _) q1 q3 q4 (hb5 _) ?_)
          intro v' w3 hown' hg3 _
          have hb3 : Below w.heap.size w w3 := (hbr.alloc hbr.size _).grown hg3 (hb5 _) (fun r e => (hrow.lt r e).1)
          have hown2 : w3.ownsRow w.heap.size 5 1 v' (lowL (s.data.toList.take (k + 1))).length (Lib.byteCells (lowL (s.data.toList.take (k + 1)))) := by
            have e : Lib.byteCells [lowB s[k]] = [.int .u8 (s[k].toNat : Int)] := by
              have := HLO.out
              simp [Lib.byteCells, this]
            rw [HSN.out, List.length_append, byteCells_append, e, hlen]
            exact hown'
          clear hown' hg3
          go_wp2
          go_roundw
          case rel => exact ⟨k + 1, by omega, by simp, hown2, hb3⟩
          case measure => simp [intOf]; omega
      · have hlo := lowB_no s[k] (fun h => h1 h.1)
        have HSN := Lib.hid hsn
        have HLO := Lib.hid hlo
        have q1 : ∀ u ∈ [Value.int .u8 (s[k].toNat : Int)], u.oneCell' = true := by simp [Value.oneCell']
        clear hsn hlo
        go_wp2_with (at_builtin; refine wpList_append_own _ rfl (.tmp 23) (.tmp 25) 22 rfl w.heap.size 5 i0 (.int .u8 0) 1 1 Tryd.underlying22 hi hz0 hz1 hz2 rfl (by decide) _ _ _ rfl (hrow.alloc _) ⟨wr.heap.size, 0, none⟩ 1 1 [.int .u8 (s[k].toNat : Int)] rfl rfl (q2 _) q1 q3 q4 (hb5 _) ?_)
        intro v' w3 hown' hg3 _
        have hb3 : Below w.heap.size w w3 := (hbr.alloc hbr.size _).grown hg3 (hb5 _) (fun r e => (hrow.lt r e).1)
        have hown2 : w3.ownsRow w.heap.size 5 1 v' (lowL (s.data.toList.take (k + 1))).length (Lib.byteCells (lowL (s.data.toList.take (k + 1)))) := by
          have e : Lib.byteCells [lowB s[k]] = [.int .u8 (s[k].toNat : Int)] := by
            have := HLO.out
            simp [Lib.byteCells, this]
          rw [HSN.out, List.length_append, byteCells_append, e, hlen]
          exact hown'
        clear hown' hg3
        go_wp2
        go_roundw
        case rel => exact ⟨k + 1, by omega, by simp, hown2, hb3⟩
        case measure => simp [intOf]; omega
    · obtain rfl : k = s.size := by omega
      have htk : s.data.toList.take s.size = s.data.toList := by rw [← sizeB, List.take_length]
      rw [htk] at hrow
      have hcv := conv_own hrow
      go_wp2
      go_ret
      exact ⟨rfl, hbr⟩
end Go.Proofs.YtofomlbhbbhdjaaDoor
