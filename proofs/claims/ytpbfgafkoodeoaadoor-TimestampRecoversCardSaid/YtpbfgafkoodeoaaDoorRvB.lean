/- Lower of package ascii and of the reference, at every string that a call can be given: the same string. What package timestamp's cursor reads, as plain functions; no condition. The contracts of the cursor's smallest methods: peek, take, expect, digits, number; the cursor's block alone is written. The contract of package timestamp's Month, where the table of names is as the program's text lays it. -/
import Derived.Test.YtpbfgafkoodeoaaDoorRvA
import Derived.Laws.BytesArg
import Derived.Lib.AppendStr
import Derived.Lib.UnsafeStr
import Derived.Laws.OwnMore
import Derived.Laws.AppendOwnNone
import Derived.WalkKit
import Derived.ProofKit
import Derived.Below
import Derived.Laws.AppendOwn
import Derived.Lib.Builder
import Derived.Lib.Hide
import Derived.Deep.Draws
import Derived.LoopTactic
import Derived.Outline
import Derived.Laws.IdiomStrings
import Derived.BigQuiet
import Derived.Deep.QuietTactic
import Derived.Deep.RegionWith
import Derived.Lib.AppendIntMem
namespace Go.Proofs.YtpbfgafkoodeoaaDoor
open Go.RowKit

theorem infoByteL : (Tryd.prog.info? 5).map (fun i => (i.zero, i.size, i.bytes)) = some (some (.int .u8 0), 1, 1) := by kernel_rfl
theorem byteCells_append (a b : List UInt8) : Lib.byteCells (a ++ b) = Lib.byteCells a ++ Lib.byteCells b := by simp [Lib.byteCells]
/-- A row of bytes that the call owns, as a string. -/
theorem conv_own {W : World} {B : Nat} {v : Value} {L : List UInt8} (h : W.ownsRow B 5 1 v L.length (Lib.byteCells L)) : (convert 22 9 v).run Tryd.prog W = .ok (.string ⟨L.toArray⟩) W := by
  have hcs := h.2
  rcases hcs with ⟨rfl, h0⟩ | ⟨g, cap, cur, rfl, _, hg, hn, _, _, htake⟩
  · obtain rfl : L = [] := List.eq_nil_of_length_eq_zero h0
    exact run_convert_bytes_nil W 22 5 Tryd.underlying22 Tryd.underlying5 0 0 9 Tryd.underlying9
  · refine run_convert_bytes_back W 22 9 5 ⟨g, 0, none⟩ cap L Tryd.underlying22 Tryd.underlying5 Tryd.underlying9 (fun j hj => ?_)
    have hadd : (⟨g, 0, none⟩ : Addr).add j = ⟨g, j, none⟩ := by unfold Addr.add; split <;> simp_all
    rw [hadd, cell_of_row W g j cur _ _ hg]
    have e : (Lib.byteCells L)[j]? = some (.int .u8 (L[j].toNat : Int)) := by simp [Lib.byteCells, hj]
    rw [← htake, List.getElem?_take] at e
    rw [if_pos (by omega)] at e
    simpa using e

/-- What a string's bytes become as a slice of bytes. -/
def bytesCap (W : World) (s : ByteArray) : Nat := grownCap W s.size 0 5
def bytesWorld (W : World) (s : ByteArray) : World := W.drew.alloc (.cells (bytesRow s (bytesCap W s)) 5 ((bytesRow s (bytesCap W s)).size, (bytesRow s (bytesCap W s)).size + 1))
theorem conv_bytes (W : World) (s : ByteArray) : (convert 9 22 (.string s)).run Tryd.prog W = .ok (.slice (some ⟨W.heap.size, 0, none⟩) s.size (bytesCap W s)) (bytesWorld W s) :=
  run_bytes_of_string W 9 22 5 s Tryd.underlying9 Tryd.underlying22 Tryd.underlying5
theorem bytesWorld_size (W : World) (s : ByteArray) : (bytesWorld W s).heap.size = W.heap.size + 1 := by
  unfold bytesWorld
  rw [World.size_alloc]
  rfl
theorem bytesWorld_below (n : Nat) (W : World) (s : ByteArray) (h : n ≤ W.heap.size) : Below n W (bytesWorld W s) := ((Below.refl n W).drew).alloc h _
def lowB (c : UInt8) : UInt8 := if 65 ≤ c.toNat ∧ c.toNat ≤ 90 then UInt8.ofNat (c.toNat + 32) else c
theorem lowB_up (c : UInt8) (h : 65 ≤ c.toNat ∧ c.toNat ≤ 90) : (lowB c).toNat = c.toNat + 32 := by
  unfold lowB
  rw [if_pos h]
  simp
  omega
theorem lowB_no (c : UInt8) (h : ¬ (65 ≤ c.toNat ∧ c.toNat ≤ 90)) : lowB c = c := by
  unfold lowB
  rw [if_neg h]
def lowL (l : List UInt8) : List UInt8 := l.map lowB
/-- The bytes while the first k of them are lowered. -/
def mid (l : List UInt8) (k : Nat) : List UInt8 := (l.take k).map lowB ++ l.drop k
theorem mid_zero (l : List UInt8) : mid l 0 = l := by simp [mid]
theorem mid_all (l : List UInt8) : mid l l.length = lowL l := by simp [mid, lowL]
theorem mid_length (l : List UInt8) (k : Nat) : (mid l k).length = l.length := by simp [mid]; omega
theorem mid_step (l : List UInt8) (k : Nat) (h : k < l.length) : (mid l k).set k (lowB l[k]) = mid l (k + 1) := by
  unfold mid
  have e : k = ((l.take k).map lowB).length := by simp; omega
  conv => lhs; arg 2; rw [e]
  rw [List.set_append_right _ _ (Nat.le_refl _), Nat.sub_self, List.drop_eq_getElem_cons h, List.set_cons_zero, take_snoc' l k h, List.map_append, List.append_assoc]
  rfl
theorem mid_same (l : List UInt8) (k : Nat) (h : k < l.length) (hc : lowB l[k] = l[k]) : mid l (k + 1) = mid l k := by
  unfold mid
  rw [List.drop_eq_getElem_cons h, take_snoc' l k h, List.map_append, List.append_assoc, List.map_cons, List.map_nil, hc]
  rfl
theorem mid_get (l : List UInt8) (k : Nat) (h : k < l.length) : (mid l k)[k]? = some l[k] := by
  unfold mid
  rw [List.getElem?_append_right (by simp; omega)]
  simp [h, show min k l.length = k by omega]

def rowL (l : List UInt8) (cap : Nat) : Array Value := bytesRow ⟨l.toArray⟩ cap
theorem rowL_get (l : List UInt8) (cap k : Nat) (c : UInt8) (h : l[k]? = some c) : (rowL l cap)[k]? = some (.int .u8 (c.toNat : Int)) := by
  obtain ⟨hk, rfl⟩ := List.getElem?_eq_some_iff.1 h
  simp [rowL, bytesRow, Array.getElem?_append, hk]
theorem rowL_set (l : List UInt8) (cap k : Nat) (c : UInt8) (hk : k < l.length) : (rowL l cap).setIfInBounds k (.int .u8 (c.toNat : Int)) = rowL (l.set k c) cap := by
  apply Array.ext'
  have e : (ByteArray.mk (l.set k c).toArray).size = (ByteArray.mk l.toArray).size := by simp [ByteArray.size]
  simp [rowL, bytesRow, e, hk, List.map_set]
theorem heap_setCell_row {W : World} {b i : Nat} {cur : Array Value} {t : TypeId} {fz : Nat × Nat} (v : Value) (h : W.heap[b]? = some (.cells cur t fz)) : (W.setCell ⟨b, i, none⟩ v).heap[b]? = some (.cells (cur.setIfInBounds i v) t fz) := by
  obtain ⟨hlt, hk⟩ := Array.getElem?_eq_some_iff.1 h
  show (W.heap.modify b _)[b]? = _
  rw [Array.getElem?_eq_getElem (by rw [Array.size_modify]; exact hlt), Array.getElem_modify_self, hk]
  rfl

set_option maxRecDepth 100000 in
set_option maxHeartbeats 2000000 in
theorem lower_any (s : ByteArray) (hs : s.size ≤ 140737488351232) (w : World) :
    Calls Tryd.prog 77 #[.string s] w fun e w' => e = .returned (.string ⟨(lowL s.data.toList).toArray⟩) ∧ Below w.heap.size w w' := by
  go_enter Tryd.func77, Tryd.ntmps77
  go_wp2_with fail
  rw [conv_bytes]
  simp only [Result.andThen]
  rw [Oper.upon_value]
  obtain ⟨cap, hcap⟩ : ∃ cap, bytesCap w s = cap := ⟨_, rfl⟩
  have hrow : ∃ fz : Nat × Nat, s.size ≤ fz.1 ∧ (bytesWorld w s).heap[w.heap.size]? = some (.cells (rowL s.data.toList cap) 5 fz) := by
    refine ⟨_, ?_, by rw [← hcap]; exact heap_alloc_new _ _⟩
    simp [bytesRow]
  have hbw := bytesWorld_below w.heap.size w s (Nat.le_refl _)
  rw [hcap]
  obtain ⟨w1, hw1⟩ : ∃ w1, bytesWorld w s = w1 := ⟨_, rfl⟩
  rw [hw1] at hrow hbw ⊢
  obtain ⟨fz, hfz, hrow⟩ := hrow
  clear hw1 hcap
  have hL := sizeB s
  go_wp2
  go_loopw [10] (fun i wr => ∃ k : Nat, k ≤ s.size ∧ i = .int .i64 k ∧ wr.heap[w.heap.size]? = some (.cells (rowL (mid s.data.toList k) cap) 5 fz) ∧ Below w.heap.size w wr) (fun i _ => s.size - (intOf i).toNat)
  case atStart => exact ⟨0, by omega, rfl, by rw [mid_zero]; exact hrow, hbw⟩
  case round =>
    obtain ⟨k, hk, rfl, hrk, hbr⟩ := hrel
    by_cases hlt : k < s.size
    · have hkl : k < s.data.toList.length := by omega
      have hcel : wr.cell? ⟨w.heap.size, k, none⟩ = some (.int .u8 (s[k].toNat : Int)) := by
        rw [cell_of_row _ _ _ _ _ _ hrk, rowL_get _ _ _ _ (mid_get _ k hkl)]
        rfl
      have hfro : wr.frozen? ⟨w.heap.size, k, none⟩ = false := by
        simp [World.frozen?, hrk]
        omega
      have hclt := UInt8.toNat_lt s[k]
      have hst := mid_step s.data.toList k hkl
      have hse : s.data.toList[k] = s[k] := rfl
      rw [hse] at hst
      by_cases hup : 65 ≤ s[k].toNat ∧ s[k].toNat ≤ 90
      · have hlo := lowB_up s[k] hup
        have hset := rowL_set (mid s.data.toList k) cap k (lowB s[k]) (by rw [mid_length]; omega)
        rw [hst] at hset
        have hwr := heap_setCell_row (i := k) (.int .u8 ((lowB s[k]).toNat : Int)) hrk
        rw [hset] at hwr
        have hbr2 : Below w.heap.size w (wr.setCell ⟨w.heap.size, k, none⟩ (.int .u8 ((lowB s[k]).toNat : Int))) := hbr.setCell (p := ⟨w.heap.size, k, none⟩) (Nat.le_refl _) _
        have hz : ((lowB s[k]).toNat : Int) = (s[k].toNat : Int) - 65 + 97 := by rw [hlo]; omega
        rw [hz] at hwr hbr2
        have HW := Lib.hid (And.intro hwr hbr2)
        have h1 := hup.1
        have h2 := hup.2
        clear hwr hbr2 hset hlo hst hse hup hz
        go_wp2
        go_roundw
        case rel => exact ⟨k + 1, by omega, by simp, HW.out.1, HW.out.2⟩
        case measure => simp [intOf]; omega
      · have hlo := lowB_no s[k] hup
        have hrk2 : wr.heap[w.heap.size]? = some (.cells (rowL (mid s.data.toList (k + 1)) cap) 5 fz) := by
          rw [mid_same _ k hkl hlo]
          exact hrk
        have HW := Lib.hid hrk2
        clear hst hse hlo hrk2
        by_cases h1 : 65 ≤ s[k].toNat
        · have h2 : ¬ s[k].toNat ≤ 90 := fun h => hup ⟨h1, h⟩
          clear hup
          go_wp2
          go_roundw
          case rel => exact ⟨k + 1, by omega, by simp, HW.out, hbr⟩
          case measure => simp [intOf]; omega
        · clear hup
          go_wp2
          go_roundw
          case rel => exact ⟨k + 1, by omega, by simp, HW.out, hbr⟩
          case measure => simp [intOf]; omega
    · obtain rfl : k = s.size := by omega
      rw [show mid s.data.toList s.size = lowL s.data.toList from by rw [← hL]; exact mid_all _] at hrk
      have hll : (lowL s.data.toList).length = s.size := by rw [← hL]; simp [lowL]
      have hcv : (convert 22 9 (.slice (some ⟨w.heap.size, 0, none⟩) s.size cap)).run Tryd.prog wr = .ok (.string ⟨(lowL s.data.toList).toArray⟩) wr := by
        have := run_convert_bytes_back wr 22 9 5 ⟨w.heap.size, 0, none⟩ cap (lowL s.data.toList) Tryd.underlying22 Tryd.underlying5 Tryd.underlying9 (fun j hj => by
          have hadd : (⟨w.heap.size, 0, none⟩ : Addr).add j = ⟨w.heap.size, j, none⟩ := by simp [Addr.add]; omega
          rw [hadd, cell_of_row _ _ _ _ _ _ hrk]
          exact rowL_get _ _ _ _ (List.getElem?_eq_getElem hj))
        rw [hll] at this
        exact this
      go_wp2
      go_ret
      exact ⟨rfl, hbr⟩

theorem lowL_snoc (s : ByteArray) (k : Nat) (h : k < s.size) : lowL (s.data.toList.take (k + 1)) = lowL (s.data.toList.take k) ++ [lowB s[k]] := by
  rw [take_snocB s k h, lowL, List.map_append]
  rfl

set_option maxRecDepth 100000 in
set_option maxHeartbeats 2000000 in
theorem rlower_any (s : ByteArray) (hs : s.size ≤ 140737488351232) (w : World) :
    Calls Tryd.prog 66 #[.string s] w fun e w' => e = .returned (.string ⟨(lowL s.data.toList).toArray⟩) ∧ Below w.heap.size w w' := by
  obtain ⟨i0, hi, hz0, hz1, hz2⟩ := info_parts infoByteL
  have hL := sizeB s
  go_enter Tryd.func66, Tryd.ntmps66
  go_wp2
  go_loopw [3, 4] (fun v i wr => ∃ (k : Nat), k ≤ s.size ∧ i = .int .i64 k ∧ wr.ownsRow w.heap.size 5 1 v (lowL (s.data.toList.take k)).length (Lib.byteCells (lowL (s.data.toList.take k))) ∧ Below w.heap.size w wr)
    (fun _ i _ => s.size - (intOf i).toNat)
  case atStart => exact ⟨0, by omega, rfl, World.ownsRow_nil _ _ _ _, Below.refl _ _⟩
  case round =>
    obtain ⟨k, hk, rfl, hrow, hbr⟩ := hrel
    by_cases hlt : k < s.size
    · have hclt := UInt8.toNat_lt s[k]
      have hsn := lowL_snoc s k hlt
      have hlen : (lowL (s.data.toList.take k)).length = k := by simp [lowL, hL]; omega
      have hb5 : ∀ z : Value, w.heap.size ≤ (wr.alloc (Obj.cells #[z] 5)).heap.size := fun z => by have := hbr.size; simp; omega
      have q3 : (lowL (s.data.toList.take k)).length + 1 ≤ maxLen := by rw [hlen]; unfold maxLen; omega
      have q4 : ((lowL (s.data.toList.take k)).length + 1) * 1 ≤ 140737488355328 := by rw [hlen]; omega
      have q2 : ∀ z : Value, ∀ (i : Nat) (u : Value), [z][i]? = some u → (wr.alloc (Obj.cells #[z] 5)).cell? ((⟨wr.heap.size, 0, none⟩ : Addr).add i) = some u := fun z i u hi => by
        obtain rfl : i = 0 := by
          have := (List.getElem?_eq_some_iff.1 hi).1
          simpa using this
        obtain rfl : z = u := by simpa using hi
        simp [Addr.add]
      by_cases h1 : 65 ≤ s[k].toNat
      · by_cases h2 : s[k].toNat ≤ 90
        · have hlo := lowB_up s[k] ⟨h1, h2⟩
          have HSN := Lib.hid hsn
          have HLO := Lib.hid hlo
          have q1 : ∀ u ∈ [Value.int .u8 ((s[k].toNat : Int) + 32)], u.oneCell' = true := by simp [Value.oneCell']
          clear hsn hlo
          go_wp2_with (at_builtin; refine wpList_append_own _ rfl (.tmp 23) (.tmp 25) 22 rfl w.heap.size 5 i0 (.int .u8 0) 1 1 Tryd.underlying22 hi hz0 hz1 hz2 rfl (by decide) _ _ _ rfl (hrow.alloc _) ⟨wr.heap.size, 0, none⟩ 1 1 [.int .u8 ((s[k].toNat : Int) + 32)] rfl rfl (q2 _) q1 q3 q4 (hb5 _) ?_)
          intro v' w3 hown' hg3 _
          have hb3 : Below w.heap.size w w3 := (hbr.alloc hbr.size _).grown hg3 (hb5 _) (fun r e => (hrow.lt r e).1)
          have hown2 : w3.ownsRow w.heap.size 5 1 v' (lowL (s.data.toList.take (k + 1))).length (Lib.byteCells (lowL (s.data.toList.take (k + 1)))) := by
            have e : Lib.byteCells [lowB s[k]] = [.int .u8 ((s[k].toNat : Int) + 32)] := by
              have := HLO.out
              simp [Lib.byteCells, this]
            rw [HSN.out, List.length_append, byteCells_append, e, hlen]
            exact hown'
          clear hown' hg3
          go_wp2
          go_roundw
          case rel => exact ⟨k + 1, by omega, by simp, hown2, hb3⟩
          case measure => simp [intOf]; omega
        · have hlo := lowB_no s[k] (fun h => h2 h.2)
          have HSN := Lib.hid hsn
          have HLO := Lib.hid hlo
          have q1 : ∀ u ∈ [Value.int .u8 (s[k].toNat : Int)], u.oneCell' = true := by simp [Value.oneCell']
          clear hsn hlo
          go_wp2_with (at_builtin; refine wpList_append_own _ rfl (.tmp 23) (.tmp 25) 22 rfl w.heap.size 5 i0 (.int .u8 0) 1 1 Tryd.underlying22 hi hz0 hz1 hz2 rfl (by decide) _ _ _ rfl (hrow.alloc _) ⟨wr.heap.size, 0, none⟩ 1 1 [.int .u8 (s[k].toNat : Int)] rfl rfl (q2 _) q1 q3 q4 (hb5 _) ?_)
          intro v' w3 hown' hg3 _
          have hb3 : Below w.heap.size w w3 := (hbr.alloc hbr.size _).grown hg3 (hb5 _) (fun r e => (hrow.lt r e).1)
          have hown2 : w3.ownsRow w.heap.size 5 1 v' (lowL (s.data.toList.take (k + 1))).length (Lib.byteCells (lowL (s.data.toList.take (k + 1)))) := by
            have e : Lib.byteCells [lowB s[k]] = [.int .u8 (s[k].toNat : Int)] := by
              have := HLO.out
              simp [Lib.byteCells, this]
            rw [HSN.out, List.length_append, byteCells_append, e, hlen]
            exact hown'
          clear hown' hg3
          go_wp2
          go_roundw
          case rel => exact ⟨k + 1, by omega, by simp, hown2, hb3⟩
          case measure => simp [intOf]; omega
      · have hlo := lowB_no s[k] (fun h => h1 h.1)
        have HSN := Lib.hid hsn
        have HLO := Lib.hid hlo
        have q1 : ∀ u ∈ [Value.int .u8 (s[k].toNat : Int)], u.oneCell' = true := by simp [Value.oneCell']
        clear hsn hlo
        go_wp2_with (at_builtin; refine wpList_append_own _ rfl (.tmp 23) (.tmp 25) 22 rfl w.heap.size 5 i0 (.int .u8 0) 1 1 Tryd.underlying22 hi hz0 hz1 hz2 rfl (by decide) _ _ _ rfl (hrow.alloc _) ⟨wr.heap.size, 0, none⟩ 1 1 [.int .u8 (s[k].toNat : Int)] rfl rfl (q2 _) q1 q3 q4 (hb5 _) ?_)
        intro v' w3 hown' hg3 _
        have hb3 : Below w.heap.size w w3 := (hbr.alloc hbr.size _).grown hg3 (hb5 _) (fun r e => (hrow.lt r e).1)
        have hown2 : w3.ownsRow w.heap.size 5 1 v' (lowL (s.data.toList.take (k + 1))).length (Lib.byteCells (lowL (s.data.toList.take (k + 1)))) := by
          have e : Lib.byteCells [lowB s[k]] = [.int .u8 (s[k].toNat : Int)] := by
            have := HLO.out
            simp [Lib.byteCells, this]
          rw [HSN.out, List.length_append, byteCells_append, e, hlen]
          exact hown'
        clear hown' hg3
        go_wp2
        go_roundw
        case rel => exact ⟨k + 1, by omega, by simp, hown2, hb3⟩
        case measure => simp [intOf]; omega
    · obtain rfl : k = s.size := by omega
      have htk : s.data.toList.take s.size = s.data.toList := by rw [← sizeB, List.take_length]
      rw [htk] at hrow
      have hcv := conv_own hrow
      go_wp2
      go_ret
      exact ⟨rfl, hbr⟩
end Go.Proofs.YtpbfgafkoodeoaaDoor

namespace Go.Proofs.YtpbfgafkoodeoaaDoor

theorem bext {a b : ByteArray} (h : a.data.toList = b.data.toList) : a = b := by
  cases a; cases b; simp_all [Array.toList_inj]
theorem extract_list (s : ByteArray) (a b : Nat) : (s.extract a b).data.toList = (s.data.toList.take b).drop a := by
  rw [ByteArray.data_extract, Array.toList_extract, List.extract_eq_take_drop, List.drop_take]
/-- The byte at an offset, 0 behind the end. -/
def byN (s : ByteArray) (k : Nat) : Nat := if h : k < s.size then s[k].toNat else 0
theorem byN_in (s : ByteArray) (k : Nat) (h : k < s.size) : byN s k = s[k].toNat := by simp [byN, h]
theorem byN_out (s : ByteArray) (k : Nat) (h : ¬ k < s.size) : byN s k = 0 := by simp [byN, h]
theorem byN_lt (s : ByteArray) (k : Nat) : byN s k < 256 := by
  unfold byN; split
  · exact UInt8.toNat_lt _
  · omega
theorem byN_pos {s : ByteArray} {k : Nat} (h : byN s k ≠ 0) : k < s.size := by
  rcases Nat.lt_or_ge k s.size with l | l
  · exact l
  · exact absurd (byN_out s k (by omega)) h
theorem byN_dig {s : ByteArray} {k : Nat} (h : digB (byN s k) = true) : k < s.size := byN_pos (fun e => by rw [e] at h; simp [digB] at h)

/-- The cursor's state: the offset, and whether it failed. -/
structure CS where
  pos : Nat
  bad : Bool
def CS.next (p : CS) : CS := ⟨p.pos + 1, p.bad⟩
def takeC (s : ByteArray) (p : CS) (c : Nat) : CS := if byN s p.pos = c then p.next else p
def expectC (s : ByteArray) (p : CS) (c : Nat) : CS := if byN s p.pos = c then p.next else ⟨p.pos, true⟩
/-- How many digits there are from an offset on, at most n. -/
def dRun (s : ByteArray) : Nat → Nat → Nat
  | 0, _ => 0
  | n + 1, k => if digB (byN s k) = true then dRun s n (k + 1) + 1 else 0
theorem dRun_le (s : ByteArray) : ∀ n k, dRun s n k ≤ n
  | 0, _ => Nat.le_refl _
  | n + 1, k => by
    unfold dRun; split
    · exact Nat.succ_le_succ (dRun_le s n (k + 1))
    · omega
theorem dRun_in (s : ByteArray) : ∀ n k, k ≤ s.size → k + dRun s n k ≤ s.size
  | 0, k, h => by unfold dRun; omega
  | n + 1, k, h => by
    unfold dRun; split
    · rename_i hd
      have h2 := byN_dig hd
      have := dRun_in s n (k + 1) (by omega)
      omega
    · omega
theorem dRun_dig (s : ByteArray) : ∀ n k j, j < dRun s n k → digB (byN s (k + j)) = true
  | 0, k, j, h => by unfold dRun at h; omega
  | n + 1, k, j, h => by
    unfold dRun at h
    split at h
    · rename_i hd
      cases j with
      | zero => exact hd
      | succ j => rw [show k + (j + 1) = k + 1 + j by omega]; exact dRun_dig s n (k + 1) j (by omega)
    · omega
theorem dRun_stop (s : ByteArray) : ∀ n k, dRun s n k < n → digB (byN s (k + dRun s n k)) = false
  | 0, k, h => by omega
  | n + 1, k, h => by
    unfold dRun at h ⊢
    split
    · rename_i hd
      rw [if_pos hd] at h
      rw [show k + (dRun s n (k + 1) + 1) = k + 1 + dRun s n (k + 1) by omega]
      exact dRun_stop s n (k + 1) (by omega)
    · rename_i hd
      simpa using hd
theorem dRun_step {s : ByteArray} {n k j r : Nat} (h : r = j + dRun s (n - j) (k + j)) (hj : j < n) (hd : digB (byN s (k + j)) = true) : r = (j + 1) + dRun s (n - (j + 1)) (k + (j + 1)) := by
  obtain ⟨m, hm⟩ : ∃ m, n - j = m + 1 := ⟨n - j - 1, by omega⟩
  rw [hm] at h
  unfold dRun at h
  rw [if_pos hd] at h
  rw [show n - (j + 1) = m by omega, show k + (j + 1) = k + j + 1 by omega]
  omega
theorem dRun_end {s : ByteArray} {n k j r : Nat} (h : r = j + dRun s (n - j) (k + j)) (hd : j = n ∨ digB (byN s (k + j)) = false) : r = j := by
  rcases hd with rfl | hd
  · rw [Nat.sub_self] at h; unfold dRun at h; omega
  · cases hm : n - j with
    | zero => rw [hm] at h; unfold dRun at h; omega
    | succ m => rw [hm] at h; unfold dRun at h; rw [hd] at h; simpa using h
def digitsC (s : ByteArray) (p : CS) (a b : Nat) : CS := ⟨p.pos + dRun s b p.pos, p.bad || decide (dRun s b p.pos < a)⟩
def subL (s : ByteArray) (k n : Nat) : List UInt8 := (s.extract k (k + n)).data.toList
theorem subL_len {s : ByteArray} {k n : Nat} (h : k + n ≤ s.size) : (subL s k n).length = n := by
  unfold subL; rw [sizeB, ByteArray.size_extract]; omega
theorem subL_snoc {s : ByteArray} {k n : Nat} (h : k + n < s.size) : subL s k (n + 1) = subL s k n ++ [s[k + n]] := by
  unfold subL
  rw [extract_list, extract_list, show k + (n + 1) = (k + n) + 1 by omega, take_snocB s (k + n) h, List.drop_append_of_le_length (by rw [List.length_take, sizeB]; omega)]
theorem subL_all (s : ByteArray) (k : Nat) : ∀ n, k + n ≤ s.size → (∀ j, j < n → digB (byN s (k + j)) = true) → allD (subL s k n) = true
  | 0, _, _ => by unfold subL; rw [extract_list]; simp [allD]
  | n + 1, h, hd => by
    rw [subL_snoc (by omega), allD_snoc, subL_all s k n (by omega) (fun j hj => hd j (by omega))]
    have := hd n (by omega)
    rw [byN_in s (k + n) (by omega)] at this
    rw [this]; rfl
theorem run_all {s : ByteArray} {n k : Nat} (hk : k ≤ s.size) : allD (subL s k (dRun s n k)) = true := subL_all s k _ (dRun_in s n k hk) (dRun_dig s n k)
def numC (s : ByteArray) (k b : Nat) : Nat := valD (subL s k (dRun s b k))
theorem isNeg_digs {l : List UInt8} (h : allD l = true) : isNeg l = false := by
  cases l with
  | nil => rfl
  | cons c r =>
    simp only [allD, List.all_cons, Bool.and_eq_true] at h
    have h2 := h.1
    simp [digB] at h2
    unfold isNeg
    simp
    rintro rfl
    simp at h2
theorem numV_digs {l : List UInt8} (h : allD l = true) (hl : l.length ≤ 18) : numV l = (valD l : Int) := by
  unfold numV numB digPart
  rw [isNeg_digs h]
  simp only [Bool.false_eq_true, if_false]
  unfold digOk
  rw [h]
  cases l with
  | nil => rfl
  | cons c r =>
    rw [decide_eq_true (show 1 ≤ (c :: r).length ∧ (c :: r).length ≤ 18 from ⟨by simp, hl⟩)]
    rfl
theorem numC_eq {s : ByteArray} {k b : Nat} (hk : k ≤ s.size) (hb : b ≤ 18) : numV (subL s k (dRun s b k)) = (numC s k b : Int) :=
  numV_digs (run_all hk) (by rw [subL_len (dRun_in s b k hk)]; exact Nat.le_trans (dRun_le s b k) hb)
theorem numC_lt {s : ByteArray} {k b : Nat} (hk : k ≤ s.size) : numC s k b < 10 ^ b :=
  valD_bd _ b (run_all hk) (by rw [subL_len (dRun_in s b k hk)]; exact dRun_le s b k)

def clkC (s : ByteArray) (p : CS) : CS := digitsC s (expectC s (digitsC s (expectC s (digitsC s p 2 2) 58) 2 2) 58) 2 2
def clkH (s : ByteArray) (p : CS) : Nat := numC s p.pos 2
def clkI (s : ByteArray) (p : CS) : Nat := numC s (expectC s (digitsC s p 2 2) 58).pos 2
def clkS (s : ByteArray) (p : CS) : Nat := numC s (expectC s (digitsC s (expectC s (digitsC s p 2 2) 58) 2 2) 58).pos 2
/-- A fraction of a second. -/
def fracB (s : ByteArray) (p : CS) : Bool := !p.bad && (decide (byN s p.pos = 46) || decide (byN s p.pos = 44)) && digB (byN s (p.pos + 1))
def fracC (s : ByteArray) (p : CS) : CS := if fracB s p = true then ⟨p.pos + 1 + dRun s 9 (p.pos + 1), p.bad⟩ else p
def fracV (s : ByteArray) (p : CS) : Nat := if fracB s p = true then valD ((subL s (p.pos + 1) (dRun s 9 (p.pos + 1)) ++ [48, 48]).take 3) else 0
def clockC (s : ByteArray) (p : CS) : CS := fracC s (clkC s p)
def clkM (s : ByteArray) (p : CS) : Nat := fracV s (clkC s p)
/-- A zone. -/
def zon1 (s : ByteArray) (p : CS) : CS := digitsC s p.next 2 2
def zon2 (s : ByteArray) (p : CS) : CS := takeC s (zon1 s p) 58
def zon3 (s : ByteArray) (p : CS) : CS := digitsC s (zon2 s p) 2 2
def zonN (s : ByteArray) (p : CS) : Int := 60 * (numC s p.next.pos 2 : Int) + (numC s (zon2 s p).pos 2 : Int)
def zonB (s : ByteArray) (p : CS) : Bool := (decide (byN s p.pos = 45) || decide (byN s p.pos = 43)) && !(zon3 s p).bad
def zoneC (s : ByteArray) (p : CS) : CS := if byN s p.pos = 90 then p.next else if zonB s p = true then zon3 s p else p
def zoneV (s : ByteArray) (p : CS) (z : Int) : Int := if byN s p.pos = 90 then 0 else if zonB s p = true then (if byN s p.pos = 45 then -(zonN s p) else zonN s p) else z
def yearC (s : ByteArray) (p : CS) : CS := ⟨p.pos + dRun s 4 p.pos, p.bad || decide (dRun s 4 p.pos < 2) || decide (dRun s 4 p.pos = 3)⟩
def yearV (s : ByteArray) (p : CS) : Int :=
  if dRun s 4 p.pos = 4 then (numC s p.pos 4 : Int) else if dRun s 4 p.pos = 3 then 0 else if numC s p.pos 4 < 70 then 2000 + (numC s p.pos 4 : Int) else 1900 + (numC s p.pos 4 : Int)
theorem digitsC_bad {s : ByteArray} {p : CS} {a b : Nat} (h : p.bad = true) : (digitsC s p a b).bad = true := by simp [digitsC, h]
theorem takeC_bad {s : ByteArray} {p : CS} {c : Nat} : (takeC s p c).bad = p.bad := by unfold takeC; split <;> rfl
theorem expectC_bad {s : ByteArray} {p : CS} {c : Nat} (h : p.bad = true) : (expectC s p c).bad = true := by unfold expectC; split <;> simp [CS.next, h]
theorem frac_no {s : ByteArray} {p : CS} (h : fracB s p = false) : fracC s p = p ∧ fracV s p = 0 := by simp [fracC, fracV, h]
theorem frac_yes {s : ByteArray} {p : CS} (h : fracB s p = true) : fracC s p = ⟨p.pos + 1 + dRun s 9 (p.pos + 1), p.bad⟩ ∧ fracV s p = valD ((subL s (p.pos + 1) (dRun s 9 (p.pos + 1)) ++ [48, 48]).take 3) := by simp [fracC, fracV, h]
end Go.Proofs.YtpbfgafkoodeoaaDoor

namespace Go.Proofs.YtpbfgafkoodeoaaDoor
open Go.RowKit

/-- The blocks that P names may be written, and new blocks made. -/
structure FrP (P : Nat → Prop) (w w' : World) : Prop where
  os : w'.os = w.os
  tape : w'.tape = w.tape
  output : w'.output = w.output
  size : w.heap.size ≤ w'.heap.size
  block : ∀ k, k < w.heap.size → ¬ P k → w'.heap[k]? = w.heap[k]?
theorem FrP.refl (P : Nat → Prop) (w : World) : FrP P w w := ⟨rfl, rfl, rfl, Nat.le_refl _, fun _ _ _ => rfl⟩
theorem FrP.trans {P : Nat → Prop} {a b c : World} (h : FrP P a b) (k : FrP P b c) : FrP P a c :=
  ⟨k.os.trans h.os, k.tape.trans h.tape, k.output.trans h.output, Nat.le_trans h.size k.size, fun i hi hn => (k.block i (Nat.lt_of_lt_of_le hi h.size) hn).trans (h.block i hi hn)⟩
theorem FrP.drew {P : Nat → Prop} {a w : World} (h : FrP P a w) : FrP P a w.drew := ⟨h.os, h.tape, h.output, h.size, h.block⟩
theorem FrP.drewN {P : Nat → Prop} {a w : World} (h : FrP P a w) (n : Nat) : FrP P a (w.drewN n) := ⟨h.os, h.tape, h.output, h.size, h.block⟩
theorem FrP.ofBelow {P : Nat → Prop} {w w' : World} (k : Below w.heap.size w w') : FrP P w w' := ⟨k.os, k.tape, k.output, k.size, fun i hi _ => k.block i hi⟩
theorem FrP.below {P : Nat → Prop} {a w w' : World} (h : FrP P a w) (k : Below w.heap.size w w') : FrP P a w' := h.trans (.ofBelow k)
theorem FrP.alloc {P : Nat → Prop} {a w : World} (h : FrP P a w) (o : Obj) : FrP P a (w.alloc o) := h.below ((Below.refl _ _).alloc (Nat.le_refl _) _)
theorem FrP.setCell {P : Nat → Prop} {a w : World} (h : FrP P a w) (B k : Nat) (u : Value) (hB : P B) : FrP P a (w.setCell ⟨B, k, none⟩ u) :=
  h.trans ⟨rfl, rfl, rfl, by simp [World.setCell], fun i _ hne => Below.heap_setCell w ⟨B, k, none⟩ u i (by rintro rfl; exact hne hB)⟩
/-- What is written there was named, or is new. -/
theorem FrP.wide {P Q : Nat → Prop} {a b c : World} (h : FrP P a b) (k : FrP Q b c) (hq : ∀ i, Q i → P i ∨ a.heap.size ≤ i) : FrP P a c :=
  ⟨k.os.trans h.os, k.tape.trans h.tape, k.output.trans h.output, Nat.le_trans h.size k.size, fun i hi hn => (k.block i (Nat.lt_of_lt_of_le hi h.size) (fun x => by rcases hq i x with y | y; exact hn y; omega)).trans (h.block i hi hn)⟩
theorem FrP.toBelow {P : Nat → Prop} {w w' : World} {B : Nat} (h : FrP P w w') (hB : B ≤ w.heap.size) (hP : ∀ i, P i → B ≤ i) : Below B w w' :=
  ⟨h.os, h.tape, h.output, h.size, fun k hk => h.block k (by omega) (fun x => by have := hP k x; omega)⟩
abbrev Fr (B : Nat) : World → World → Prop := FrP (fun k => k = B)

/-- The cursor as it lies in block B. -/
structure CAt (s : ByteArray) (B : Nat) (p : CS) (w : World) : Prop where
  hp : w.heap[B]? = some (.cells #[.string s, .int .i64 (p.pos : Int), .bool p.bad] 54 (0, 0))
  le : p.pos ≤ s.size
  sz : s.size ≤ 20000
def cPtr (B : Nat) : Value := .pointer (some ⟨B, 0, none⟩)
theorem CAt.parts {s : ByteArray} {B : Nat} {p : CS} {w : World} (h : CAt s B p w) :
    w.cell? ⟨B, 0, none⟩ = some (.string s) ∧ w.cell? ⟨B, 1, none⟩ = some (.int .i64 (p.pos : Int)) ∧ w.cell? ⟨B, 2, none⟩ = some (.bool p.bad) ∧
    w.frozen? ⟨B, 0, none⟩ = false ∧ w.frozen? ⟨B, 1, none⟩ = false ∧ w.frozen? ⟨B, 2, none⟩ = false :=
  ⟨by rw [Lib.cell_of_heap h.hp]; rfl, by rw [Lib.cell_of_heap h.hp]; rfl, by rw [Lib.cell_of_heap h.hp]; rfl, Lib.frozen_of_heap h.hp 0, Lib.frozen_of_heap h.hp 1, Lib.frozen_of_heap h.hp 2⟩
theorem CAt.lt {s : ByteArray} {B : Nat} {p : CS} {w : World} (h : CAt s B p w) : B < w.heap.size := (Array.getElem?_eq_some_iff.1 h.hp).1
theorem CAt.drew {s : ByteArray} {B : Nat} {p : CS} {w : World} (h : CAt s B p w) : CAt s B p w.drew := ⟨h.hp, h.le, h.sz⟩
theorem CAt.drewN {s : ByteArray} {B : Nat} {p : CS} {w : World} (h : CAt s B p w) (n : Nat) : CAt s B p (w.drewN n) := ⟨h.hp, h.le, h.sz⟩
theorem CAt.below {s : ByteArray} {B : Nat} {p : CS} {w w' : World} (h : CAt s B p w) (k : Below w.heap.size w w') : CAt s B p w' := ⟨(k.block B h.lt).trans h.hp, h.le, h.sz⟩
theorem CAt.alloc {s : ByteArray} {B : Nat} {p : CS} {w : World} (h : CAt s B p w) (o : Obj) : CAt s B p (w.alloc o) := ⟨(Below.heap_alloc w o B h.lt).trans h.hp, h.le, h.sz⟩
theorem CAt.frp {s : ByteArray} {B : Nat} {p : CS} {w w' : World} {P : Nat → Prop} (h : CAt s B p w) (k : FrP P w w') (hn : ¬ P B) : CAt s B p w' := ⟨(k.block B h.lt hn).trans h.hp, h.le, h.sz⟩
theorem CAt.setPos {s : ByteArray} {B : Nat} {p : CS} {w : World} (h : CAt s B p w) (k : Nat) (z : Int) (hz : z = (k : Int)) (hk : k ≤ s.size) : CAt s B ⟨k, p.bad⟩ (w.setCell ⟨B, 1, none⟩ (.int .i64 z)) := by
  subst hz
  have h0 := h.hp
  refine ⟨?_, hk, h.sz⟩
  simp only [World.setCell, Array.getElem?_modify, if_true, h0, Option.map_some]
  rfl
theorem CAt.setBad {s : ByteArray} {B : Nat} {p : CS} {w : World} (h : CAt s B p w) (e : Bool) : CAt s B ⟨p.pos, e⟩ (w.setCell ⟨B, 2, none⟩ (.bool e)) := by
  have h0 := h.hp
  refine ⟨?_, h.le, h.sz⟩
  simp only [World.setCell, Array.getElem?_modify, if_true, h0, Option.map_some]
  rfl
theorem CAt.new {s : ByteArray} (hs : s.size ≤ 20000) (w : World) : CAt s w.heap.size ⟨0, false⟩ (w.alloc (.cells #[.string s, .int .i64 0, .bool false] 54)) :=
  ⟨heap_alloc_new _ _, Nat.zero_le _, hs⟩

set_option maxRecDepth 100000 in
set_option maxHeartbeats 1000000 in
theorem peek_any (s : ByteArray) (B : Nat) (p : CS) (w : World) (h : CAt s B p w) :
    Calls Tryd.prog 69 #[cPtr B] w fun e w' => e = .returned (.int .u8 (byN s p.pos : Nat)) ∧ ∃ n, w' = w.drewN n := by
  obtain ⟨c0, c1, c2, -, -, -⟩ := h.parts
  have hp := h.le
  have hs := h.sz
  obtain ⟨k, er⟩ := p
  simp only at hp c1 c2
  unfold cPtr
  by_cases hk : k < s.size
  · have e1 : ((k : Int) == (s.size : Int)) = false := by rw [beq_eq_false_iff_ne]; omega
    have hv : byN s k = s[k].toNat := byN_in _ _ hk
    rw [hv]
    clear hv h
    go_enter Tryd.func69, Tryd.ntmps69
    go_wp2
    go_quiet (fail)
    go_wp2
    go_quiet (fail)
    go_wp2
    go_ret
    exact ⟨rfl, _, World.drewN_drewN _ _ _⟩
  · obtain rfl : k = s.size := by omega
    have hv : byN s s.size = 0 := byN_out _ _ hk
    rw [hv]
    clear hv h
    go_enter Tryd.func69, Tryd.ntmps69
    go_wp2
    go_quiet (fail)
    go_wp2
    go_ret
    exact ⟨rfl, _, rfl⟩
/-- The same, as the callers take it. -/
theorem peek_to (s : ByteArray) (B : Nat) (p : CS) (w : World) (h : CAt s B p w) :
    Calls Tryd.prog 69 #[cPtr B] w fun e w' => e = .returned (.int .u8 (byN s p.pos : Nat)) ∧ CAt s B p w' ∧ Fr B w w' :=
  (peek_any s B p w h).mono fun _ _ ⟨he, n, hn⟩ => ⟨he, by rw [hn]; exact h.drewN n, by rw [hn]; exact (FrP.refl _ w).drewN n⟩

set_option maxRecDepth 100000 in
set_option maxHeartbeats 1000000 in
theorem take_yes (s : ByteArray) (B : Nat) (p : CS) (c : Nat) (w : World) (h : CAt s B p w) (hc : byN s p.pos = c) (hc0 : c ≠ 0) :
    Calls Tryd.prog 55 #[cPtr B, .int .u8 (c : Int)] w fun e w' => e = .returned (.bool true) ∧ CAt s B p.next w' ∧ Fr B w w' := by
  have hpk := peek_to s B p w h
  have hlt : p.pos < s.size := byN_pos (by omega)
  rw [hc] at hpk
  have hs := h.sz
  clear hc h
  have HPK := Lib.hid hpk
  clear hpk
  unfold cPtr at HPK ⊢
  go_enter Tryd.func55, Tryd.ntmps55
  go_wp2_with fail
  refine (HPK.out).mono ?_
  rintro e w1 ⟨rfl, h1, hf1⟩
  obtain ⟨c0, c1, c2, f0, f1, f2⟩ := h1.parts
  go_wp2
  go_ret
  exact ⟨rfl, h1.setPos (p.pos + 1) _ (by push_cast; rfl) hlt, hf1.setCell B 1 _ rfl⟩
set_option maxRecDepth 100000 in
set_option maxHeartbeats 1000000 in
theorem take_no (s : ByteArray) (B : Nat) (p : CS) (c : Nat) (w : World) (h : CAt s B p w) (hc : byN s p.pos ≠ c) :
    Calls Tryd.prog 55 #[cPtr B, .int .u8 (c : Int)] w fun e w' => e = .returned (.bool false) ∧ CAt s B p w' ∧ Fr B w w' := by
  have hpk := peek_to s B p w h
  have e1 : ((byN s p.pos : Int) == (c : Int)) = false := by rw [beq_eq_false_iff_ne]; omega
  have e2 : ((byN s p.pos : Int) != (c : Int)) = true := by rw [bne_iff_ne]; omega
  clear hc h
  have HPK := Lib.hid hpk
  clear hpk
  unfold cPtr at HPK ⊢
  go_enter Tryd.func55, Tryd.ntmps55
  go_wp2_with fail
  refine (HPK.out).mono ?_
  rintro e w1 ⟨rfl, h1, hf1⟩
  go_wp2
  go_ret
  exact ⟨rfl, h1, hf1⟩
def tkB (s : ByteArray) (p : CS) (c : Nat) : Bool := decide (byN s p.pos = c)
theorem take_any (s : ByteArray) (B : Nat) (p : CS) (c : Nat) (hc0 : c ≠ 0) (w : World) (h : CAt s B p w) :
    Calls Tryd.prog 55 #[cPtr B, .int .u8 (c : Int)] w fun e w' => e = .returned (.bool (tkB s p c)) ∧ CAt s B (takeC s p c) w' ∧ Fr B w w' := by
  unfold tkB takeC
  by_cases hc : byN s p.pos = c
  · rw [if_pos hc, decide_eq_true hc]; exact take_yes s B p c w h hc hc0
  · rw [if_neg hc, decide_eq_false hc]; exact take_no s B p c w h hc

set_option maxRecDepth 100000 in
set_option maxHeartbeats 1000000 in
theorem expect_any (s : ByteArray) (B : Nat) (p : CS) (c : Nat) (hc0 : c ≠ 0) (w : World) (h : CAt s B p w) :
    Calls Tryd.prog 54 #[cPtr B, .int .u8 (c : Int)] w fun e w' => e = .returned (.tuple #[]) ∧ CAt s B (expectC s p c) w' ∧ Fr B w w' := by
  unfold expectC
  by_cases hc : byN s p.pos = c
  · rw [if_pos hc]
    have HT := Lib.hid (take_yes s B p c w h hc hc0)
    clear hc h
    unfold cPtr at HT ⊢
    go_enter Tryd.func54, Tryd.ntmps54
    go_wp2_with fail
    refine (HT.out).mono ?_
    rintro e w1 ⟨rfl, h1, hf1⟩
    go_wp2
    go_end0
    exact ⟨rfl, h1, hf1⟩
  · rw [if_neg hc]
    have HT := Lib.hid (take_no s B p c w h hc)
    clear hc h
    unfold cPtr at HT ⊢
    go_enter Tryd.func54, Tryd.ntmps54
    go_wp2_with fail
    refine (HT.out).mono ?_
    rintro e w1 ⟨rfl, h1, hf1⟩
    obtain ⟨c0, c1, c2, f0, f1, f2⟩ := h1.parts
    go_wp2
    go_end0
    exact ⟨rfl, h1.setBad true, hf1.setCell B 2 _ rfl⟩

theorem mk_list (x : ByteArray) : ByteArray.mk x.data.toList.toArray = x := by cases x; simp
theorem slice_two (s : ByteArray) (a k : Nat) (h2 : a + k ≤ s.size) (W : World) :
    (Instr.slice 9 (.string s) (some (.int .i64 (a : Int))) (some (.int .i64 ((a : Int) + (k : Int)))) none).run Tryd.prog W = .ok (.string (s.extract a (a + k))) W := by
  have e2 : ((a : Int) + (k : Int)).toNat = a + k := by omega
  have u := run_underlying Tryd.underlying9
  simp [go_sem, Instr.slice, u, e2]
  intro h
  exact absurd (h (by omega)) (by omega)
def posIn (B : Nat) (w : World) : Nat := match w.cell? ⟨B, 1, none⟩ with | some v => (intOf v).toNat | none => 0
theorem posIn_eq {s : ByteArray} {B : Nat} {p : CS} {w : World} (h : CAt s B p w) : posIn B w = p.pos := by
  unfold posIn; rw [h.parts.2.1]; simp [intOf]
/-- The state of the loop of digits. -/
structure DgAt (s : ByteArray) (B : Nat) (p : CS) (m : Nat) (w0 wr : World) (k : Nat) : Prop where
  hk : k ≤ m
  hr : dRun s m p.pos = k + dRun s (m - k) (p.pos + k)
  hp : CAt s B ⟨p.pos + k, p.bad⟩ wr
  fr : Fr B w0 wr
theorem dig_less {p : CS} {r a : Nat} (h : r < a) : (⟨p.pos + r, true⟩ : CS) = ⟨p.pos + r, p.bad || decide (r < a)⟩ := by simp [h]
theorem dig_more {p : CS} {r a : Nat} (h : ¬ r < a) : (⟨p.pos + r, p.bad⟩ : CS) = ⟨p.pos + r, p.bad || decide (r < a)⟩ := by simp [h]

set_option maxRecDepth 100000 in
set_option maxHeartbeats 4000000 in
theorem digits_any (s : ByteArray) (B : Nat) (p : CS) (a m : Nat) (ha : a ≤ 20) (hm : m ≤ 20) (w : World) (h : CAt s B p w) :
    Calls Tryd.prog 61 #[cPtr B, .int .i64 (a : Int), .int .i64 (m : Int)] w fun e w' => e = .returned (.string (s.extract p.pos (p.pos + dRun s m p.pos))) ∧ CAt s B (digitsC s p a m) w' ∧ Fr B w w' := by
  have hle := h.le
  have hsz := h.sz
  obtain ⟨c0, c1, c2, f0, f1, f2⟩ := h.parts
  have hpk := fun q W hW => peek_to s B q W hW
  have hdi := fun c hc W => digit_any c hc W
  have H := Lib.hid (And.intro hpk hdi)
  have HP := Lib.hid h
  clear hpk hdi h
  unfold digitsC
  obtain ⟨r, hr⟩ : ∃ r, dRun s m p.pos = r := ⟨_, rfl⟩
  have hin := dRun_in s m p.pos hle
  have HD := Lib.hid hr
  rw [hr] at hin ⊢
  have hsl := fun W => slice_two s p.pos r hin W
  obtain ⟨E, hE⟩ : ∃ E, s.extract p.pos (p.pos + r) = E := ⟨_, rfl⟩
  rw [hE] at hsl ⊢
  have KL := Lib.hid hsl
  clear hr hE hsl
  unfold cPtr at H ⊢
  go_enter Tryd.func61, Tryd.ntmps61
  go_wp2
  go_loopw [] (fun wr => ∃ k, DgAt s B p m w wr k) (fun wr => s.size - posIn B wr)
  case atStart => exact ⟨0, Nat.zero_le _, by simp, HP.out, FrP.refl _ _⟩
  case round =>
    obtain ⟨k, hk, hrk, hp, hfr⟩ := hrel
    rw [HD.out] at hrk
    have HR := Lib.hid hrk
    clear hrk
    obtain ⟨c0, c1, c2, f0, f1, f2⟩ := hp.parts
    simp only at c1 c2
    have hz := hp.le
    simp only at hz
    have hclt := byN_lt s (p.pos + k)
    have hpk := H.out.1 ⟨p.pos + k, p.bad⟩ wr hp
    simp only at hpk
    have hdi := fun W => H.out.2 _ hclt W
    by_cases hk2 : k < m
    · have d1 : decide (((p.pos + k : Nat) : Int) - (p.pos : Int) < (m : Int)) = true := by rw [decide_eq_true_iff]; push_cast; omega
      cases hdg : digB (byN s (p.pos + k)) with
      | true =>
        have hq := byN_dig hdg
        have hst := dRun_step HR.out hk2 hdg
        rw [hdg] at hdi
        obtain ⟨c, hc⟩ : ∃ c, byN s (p.pos + k) = c := ⟨_, rfl⟩
        rw [hc] at hclt hpk hdi
        have K := Lib.hid (And.intro hpk (And.intro hdi hst))
        have HPP := Lib.hid hp
        clear hpk hdi hst hc hdg hp
        go_wp2_with fail
        refine (K.out.1).mono ?_
        rintro e w1 ⟨rfl, h1, hf1⟩
        go_wp2_with fail
        refine (K.out.2.1 _).mono ?_
        rintro e w2 ⟨rfl, hb2⟩
        have h2 := h1.below hb2
        have hf2 := hf1.below hb2
        obtain ⟨e0, e1, e2, g0, g1, g2⟩ := h2.parts
        simp only at e1 e2
        go_wp2
        go_roundw
        case rel => exact ⟨k + 1, by omega, by rw [HD.out]; exact K.out.2.2, h2.setPos (p.pos + (k + 1)) _ (by push_cast; omega) (by omega), (hfr.trans hf2).setCell B 1 _ rfl⟩
        case measure =>
          rw [posIn_eq HPP.out, posIn_eq (h2.setPos (p.pos + (k + 1)) _ (by push_cast; omega) (by omega))]
          simp only
          omega
      | false =>
        obtain rfl : r = k := dRun_end HR.out (.inr hdg)
        rw [hdg] at hdi
        obtain ⟨c, hc⟩ : ∃ c, byN s (p.pos + r) = c := ⟨_, rfl⟩
        rw [hc] at hclt hpk hdi
        have K := Lib.hid (And.intro hpk hdi)
        clear hpk hdi hc hdg hp
        go_wp2_with fail
        refine (K.out.1).mono ?_
        rintro e w1 ⟨rfl, h1, hf1⟩
        go_wp2_with fail
        refine (K.out.2 _).mono ?_
        rintro e w2 ⟨rfl, hb2⟩
        have h2 := h1.below hb2
        have hf2 := hfr.trans (hf1.below hb2)
        obtain ⟨e0, e1, e2, g0, g1, g2⟩ := h2.parts
        simp only at e1 e2
        clear hfr h1 hf1 hb2 d1
        by_cases hra : r < a
        · have d2 : decide (((p.pos + r : Nat) : Int) - (p.pos : Int) < (a : Int)) = true := by rw [decide_eq_true_iff]; push_cast; omega
          have h3 := h2.setBad true
          have hf3 := hf2.setCell B 2 (.bool true) rfl
          obtain ⟨q0, q1, q2, q3, q4, q5⟩ := h3.parts
          simp only at q1 q2
          have HH := Lib.hid (And.intro h3 hf3)
          have hsl := KL.out
          clear h3 hf3 h2 hf2
          go_wp2
          go_quiet (fail)
          go_wp2
          go_ret
          exact ⟨rfl, by rw [← dig_less hra]; exact HH.out.1.drewN _, HH.out.2.drewN _⟩
        · have d2 : decide (((p.pos + r : Nat) : Int) - (p.pos : Int) < (a : Int)) = false := by rw [decide_eq_false_iff_not]; push_cast; omega
          have HH := Lib.hid (And.intro h2 hf2)
          have hsl := KL.out
          clear h2 hf2
          go_wp2
          go_quiet (fail)
          go_wp2
          go_ret
          exact ⟨rfl, by rw [← dig_more hra]; exact HH.out.1.drewN _, HH.out.2.drewN _⟩
    · obtain rfl : k = m := by omega
      obtain rfl : r = k := dRun_end HR.out (.inl rfl)
      have d1 : decide (((p.pos + r : Nat) : Int) - (p.pos : Int) < (r : Int)) = false := by rw [decide_eq_false_iff_not]; push_cast; omega
      clear hpk hdi hclt
      by_cases hra : r < a
      · have d2 : decide (((p.pos + r : Nat) : Int) - (p.pos : Int) < (a : Int)) = true := by rw [decide_eq_true_iff]; push_cast; omega
        have h3 := hp.setBad true
        have hf3 := hfr.setCell B 2 (.bool true) rfl
        obtain ⟨q0, q1, q2, q3, q4, q5⟩ := h3.parts
        simp only at q1 q2
        have HH := Lib.hid (And.intro h3 hf3)
        have hsl := KL.out
        clear h3 hf3 hp hfr
        go_wp2
        go_quiet (fail)
        go_wp2
        go_ret
        exact ⟨rfl, by rw [← dig_less hra]; exact HH.out.1.drewN _, HH.out.2.drewN _⟩
      · have d2 : decide (((p.pos + r : Nat) : Int) - (p.pos : Int) < (a : Int)) = false := by rw [decide_eq_false_iff_not]; push_cast; omega
        have HH := Lib.hid (And.intro hp hfr)
        have hsl := KL.out
        clear hp hfr
        go_wp2
        go_quiet (fail)
        go_wp2
        go_ret
        exact ⟨rfl, by rw [← dig_more hra]; exact HH.out.1.drewN _, HH.out.2.drewN _⟩

set_option maxRecDepth 100000 in
set_option maxHeartbeats 4000000 in
theorem cnumber_any (s : ByteArray) (B : Nat) (p : CS) (a m : Nat) (ha : a ≤ 18) (hm : m ≤ 18) (w : World) (h : CAt s B p w) :
    Calls Tryd.prog 53 #[cPtr B, .int .i64 (a : Int), .int .i64 (m : Int)] w fun e w' => e = .returned (.int .i64 (numC s p.pos m : Int)) ∧ CAt s B (digitsC s p a m) w' ∧ Fr B w w' := by
  have hn := numC_eq (s := s) (k := p.pos) (b := m) h.le hm
  have hd := digits_any s B p a m (by omega) (by omega) w h
  unfold subL at hn
  obtain ⟨E, hE⟩ : ∃ E, s.extract p.pos (p.pos + dRun s m p.pos) = E := ⟨_, rfl⟩
  rw [hE] at hn hd
  have hnn := fun W => number_any E.data.toList W
  rw [mk_list, hn] at hnn
  obtain ⟨b, hb⟩ : ∃ b, numB E.data.toList = b := ⟨_, rfl⟩
  rw [hb] at hnn
  have H := Lib.hid (And.intro hd hnn)
  clear hn hd hnn hE hb h
  unfold cPtr at H ⊢
  go_enter Tryd.func53, Tryd.ntmps53
  go_wp2_with fail
  refine (H.out.1).mono ?_
  rintro e w1 ⟨rfl, h1, hf1⟩
  go_wp2_with fail
  refine (H.out.2 _).mono ?_
  rintro e w2 ⟨rfl, hb2⟩
  go_wp2
  go_ret
  exact ⟨rfl, h1.below hb2, hf1.below hb2⟩
end Go.Proofs.YtpbfgafkoodeoaaDoor

namespace Go.Proofs.YtpbfgafkoodeoaaDoor
open Go.RowKit

def monL : List (List UInt8) := [[106, 97, 110], [102, 101, 98], [109, 97, 114], [97, 112, 114], [109, 97, 121], [106, 117, 110], [106, 117, 108], [97, 117, 103], [115, 101, 112], [111, 99, 116], [110, 111, 118], [100, 101, 99]]
def monB (k : Nat) : ByteArray := ⟨(monL.getD k []).toArray⟩
def monRow : Array Value := ((List.range 12).map fun i => Value.string (monB i)).toArray
/-- The number of a month, 0 for what is none. -/
def monthN (l : List UInt8) : Nat := (((List.range 12).find? fun i => decide (lowL l = monL.getD i [])).map (· + 1)).getD 0
theorem monthN_at {l : List UInt8} {k : Nat} (hk : k < 12) (h : ∀ j, j < k → lowL l ≠ monL.getD j []) (e : lowL l = monL.getD k []) : monthN l = k + 1 := by
  have : (List.range 12).find? (fun i => decide (lowL l = monL.getD i [])) = some k := by
    rw [List.find?_range_eq_some]
    exact ⟨by simpa using e, by simpa using hk, fun j hj => by simpa using h j hj⟩
  unfold monthN; rw [this]; rfl
theorem monthN_no {l : List UInt8} (h : ∀ j, j < 12 → lowL l ≠ monL.getD j []) : monthN l = 0 := by
  have : (List.range 12).find? (fun i => decide (lowL l = monL.getD i [])) = none := by
    rw [List.find?_eq_none]
    intro x hx
    simpa using h x (by simpa using hx)
  unfold monthN; rw [this]; rfl
theorem monthN_le (l : List UInt8) : monthN l ≤ 12 := by
  unfold monthN
  cases h : (List.range 12).find? (fun i => decide (lowL l = monL.getD i [])) with
  | none => simp
  | some k => have := List.mem_range.1 (List.mem_of_find?_eq_some h); simp; omega

/-- The name of a month at the cursor. -/
def monQ (s : ByteArray) (p : CS) : Nat := min (p.pos + 3) s.size
def cmonN (s : ByteArray) (p : CS) : Nat := monthN (s.extract p.pos (monQ s p)).data.toList
def monthC (s : ByteArray) (p : CS) : CS := ⟨monQ s p, p.bad || decide (cmonN s p = 0)⟩
def MonT (w : World) : Prop := w.var? Tryd.prog "logtide/timestamp.monthNames" = some monRow
theorem monG : Tryd.prog.globalNamed "logtide/timestamp.monthNames" = some 1 := by kernel_rfl
theorem MonT.heap {w : World} (h : MonT w) : ∃ t fz, w.heap[1]? = some (.cells monRow t fz) := by
  unfold MonT World.var? at h
  rw [monG] at h
  simp only [Option.bind_some] at h
  split at h
  · rename_i cs t fz hh
    obtain rfl := Option.some.inj h
    exact ⟨t, fz, hh⟩
  · cases h
theorem MonT.below {w w' : World} (h : MonT w) (hb : Below w.heap.size w w') : MonT w' := by
  obtain ⟨t, fz, hh⟩ := h.heap
  unfold MonT World.var?
  rw [monG]
  simp only [Option.bind_some]
  rw [hb.block _ (Array.getElem?_eq_some_iff.1 hh).1, hh]
theorem MonT.frp {w w' : World} {P : Nat → Prop} (h : MonT w) (k : FrP P w w') (hn : ¬ P 1) : MonT w' := by
  obtain ⟨t, fz, hh⟩ := h.heap
  unfold MonT World.var?
  rw [monG]
  simp only [Option.bind_some]
  rw [k.block _ (Array.getElem?_eq_some_iff.1 hh).1 hn, hh]
theorem monRow_get (i : Nat) (h : i < 12) : monRow[i]? = some (.string (monB i)) := by simp [monRow, h]
theorem sizeStr : (Tryd.prog.info? 9).map (·.size) = some 1 := by kernel_rfl
theorem sizeMon : (Tryd.prog.info? 101).map (·.size) = some monRow.size := by kernel_rfl
theorem run_index_mon (k : IntKind) (i : Nat) (h : i < 12) (w : World) :
    (Instr.index 101 (.agg monRow) (.int k i)).run Tryd.prog w = .ok (.string (monB i)) w := by
  have hg := monRow_get i h
  have hz := sizeStr
  unfold Instr.index
  cases hq : Tryd.prog.info? 9 with
  | none => simp [hq] at hz
  | some j =>
    have hj : j.size = 1 := by simpa [hq] using hz
    simp [go_sem, asIntOf, run_underlying Tryd.underlying101, sizeOf, typeInfo, hq, hj, h, hg]

theorem monB_toList (k : Nat) (h : k < 12) : (monB k).toList = monL.getD k [] :=
  (by decide +kernel : ∀ i : Fin 12, (monB i.1).toList = monL.getD i.1 []) ⟨k, h⟩
theorem lt_snoc {P : Nat → Prop} {k : Nat} (h : ∀ j, j < k → P j) (e : P k) : ∀ j, j < k + 1 → P j := fun j hj => by
  rcases Nat.lt_or_ge j k with l | l
  · exact h j l
  · obtain rfl : j = k := by omega
    exact e
theorem mk_eq {l m : List UInt8} : ((⟨l.toArray⟩ : ByteArray) = ⟨m.toArray⟩) ↔ l = m := by simp
set_option maxRecDepth 100000 in
set_option maxHeartbeats 4000000 in
theorem month_any (s : ByteArray) (hs : s.size ≤ 140737488351232) (w : World) (hM : MonT w) :
    Calls Tryd.prog 71 #[.string s] w fun e w' => e = .returned (.int .i64 (monthN s.data.toList : Nat)) ∧ Below w.heap.size w w' := by
  have hl := lower_any s hs w
  have hat := fun k (hk : k < 12) h e => monthN_at (l := s.data.toList) hk h e
  have hno := monthN_no (l := s.data.toList)
  obtain ⟨L, hL⟩ : ∃ L, lowL s.data.toList = L := ⟨_, rfl⟩
  obtain ⟨m, hm⟩ : ∃ m, monthN s.data.toList = m := ⟨_, rfl⟩
  rw [hL] at hl hat hno
  rw [hm] at hat hno ⊢
  have HL := Lib.hid hl
  have HA := Lib.hid (And.intro hat hno)
  have HM := Lib.hid hM
  clear hl hat hno hL hm hM hs
  go_enter Tryd.func71, Tryd.ntmps71
  go_wp2_with fail
  refine (HL.out).mono ?_
  rintro e w1 ⟨rfl, hb1⟩
  obtain ⟨t, fz, hh⟩ := (HM.out.below hb1).heap
  have HH := Lib.hid hh
  clear hh
  go_wp2_with (with_reducible refine wpList_load_row rfl 101 (.global 1) rfl 1 rfl t monRow fz _ HH.out Tryd.underlying101 rfl sizeMon ?_)
  go_loop [9] (fun i => ∃ k : Nat, k ≤ 12 ∧ i = .int .i64 k ∧ ∀ j, j < k → L ≠ monL.getD j []) (fun i => 12 - (intOf i).toNat)
  case atStart => exact ⟨0, by omega, rfl, fun j hj => by omega⟩
  case round =>
    obtain ⟨k, hk, rfl, hn⟩ := hrel
    have HN := Lib.hid hn
    clear hn
    by_cases hlt : k < 12
    · have hi := fun kk W => run_index_mon kk k hlt W
      have hd : decide ((k : Int) < 12) = true := by rw [decide_eq_true_iff]; omega
      by_cases he : L = monL.getD k []
      · have hv := HA.out.1 k hlt HN.out he
        have hN : monB k = ⟨L.toArray⟩ := by unfold monB; rw [he]
        rw [hN] at hi
        have HV := Lib.hid hv
        clear hv he hN
        go_wp2
        go_ret
        exact ⟨by rw [HV.out]; simp, hb1⟩
      · obtain ⟨X, hX⟩ : ∃ X, monB k = X := ⟨_, rfl⟩
        have hne : (L == X.toList) = false := by
          rw [beq_eq_false_iff_ne, ← hX, monB_toList k hlt]; exact he
        rw [hX] at hi
        have HE := Lib.hid he
        clear he hX
        go_wp2
        go_round
        case rel => exact ⟨k + 1, by omega, by simp, lt_snoc HN.out HE.out⟩
        case measure => simp [intOf]; omega
    · obtain rfl : k = 12 := by omega
      have hv := HA.out.2 HN.out
      have HV := Lib.hid hv
      clear hv hlt hk
      go_wp2
      go_ret
      exact ⟨by rw [HV.out]; rfl, hb1⟩
end Go.Proofs.YtpbfgafkoodeoaaDoor
