/- The contract of the generator that package ascii's Repair ranges over: it yields the UTF-8 sequences of the bytes, in order. -/
import Derived.RangeFuncNested
import Derived.RangeFuncBound
import Derived.RangeFuncCalls
import Derived.RangeFuncLeaves
import Derived.RangeFuncBox
import Derived.Shelf.Abstract
import Derived.Shelf.RegionOpen
import Derived.WalkKit
import Derived.OwnWalkIn
import Derived.TacticsInMore
import Derived.LoopNIn
import Derived.LoopIn
import Derived.Outline
import Derived.Lib.Hide
import Derived.Test.YtbpboghjgbgjfaaDoorProg
import Derived.Test.YtbpboghjgbgjfaaDoorShelf
import Derived.Test.YtbpboghjgbgjfaaDoorUtf
namespace Go.Proofs.YtbpboghjgbgjfaaDoor
open Go.RowKit Go.Shelf
attribute [local go_sem] Oper.semAt_some

abbrev Tabs (w : World) : Prop := Lib.Utf8Tabs 1 2 w

/-- The bytes l lie in memory from an address on. -/
def BytesAt (w : World) (bk off : Nat) (l : List UInt8) : Prop := ∀ j, j < l.length → w.cell? ⟨bk, off + j, none⟩ = some (.int .u8 (byteAt l j))
theorem BytesAt.below {w W : World} {n bk off : Nat} {l : List UInt8} (h : BytesAt w bk off l) (hb : Below n w W) (hbk : bk < n) : BytesAt W bk off l :=
  fun j hj => (hb.cell (p := ⟨bk, off + j, none⟩) hbk).trans (h j hj)

theorem decode_list (l : List UInt8) (k bk off cap : Nat) (w : World) (hk : k < l.length) (hT : Tabs w) (hc : BytesAt w bk off l) {z : Int} (hz : z = (l.length : Int) - k) {ad : Addr} (had : ad = ⟨bk, off + k, none⟩) {len : Nat} (hlen : len = l.length - k) :
    Calls Tryd.prog 40 #[.slice (some ad) len cap] w fun e w' => ∃ R : Nat, e = .returned (.tuple #[.int .i32 R, .int .i64 (stepL (l.drop k))]) ∧
      ((R ≠ 65533 ∨ 1 < stepL (l.drop k)) ↔ seqL (l.drop k) ≠ 0) ∧ Below w.heap.size w w' := by
  subst had hlen
  have hs : (ByteArray.mk (l.drop k).toArray).size = l.length - k := by simp [ByteArray.size]
  have h := Tryd.utf8_DecodeRune ⟨(l.drop k).toArray⟩ bk (off + k) cap w hT (fun j hj => by
    rw [hs] at hj
    have := hc (k + j) (by omega)
    rw [get_bytes, Nat.add_assoc, this]
    simp [byteAt])
  rw [hs] at h
  have hd := decodeGo_seq (l.drop k) (by simp; omega)
  refine h.mono ?_
  rintro e w' ⟨rfl, hb⟩
  have h2 : (Lib.decodeGo ⟨(l.drop k).toArray⟩).2 = stepL (l.drop k) := hd.1
  refine ⟨_, by rw [h2], ?_, hb⟩
  rw [← h2]
  exact hd.2

abbrev SegT (l : List UInt8) := { x : Nat × Nat × Bool // Fits l x }
def segEnc (l : List UInt8) (bk off cap : Nat) (x : SegT l) : Array Value := #[.slice (some ⟨bk, off + x.1.1, none⟩) x.1.2.1 (cap - x.1.1), .bool x.1.2.2]

/-- What the body of a round leaves: what lay below n, and the box. -/
def KeepS (n Bs : Nat) (W W' : World) : Prop := Below n W W' ∧ W'.heap[Bs]? = W.heap[Bs]?
theorem KeepS.t {n Bs : Nat} {A B C : World} (h : KeepS n Bs A B) (k : KeepS n Bs B C) : KeepS n Bs A C := ⟨h.1.trans k.1, k.2.trans h.2⟩
theorem KeepS.b {n Bs : Nat} {w : World} (hn : n ≤ w.heap.size) (hB : Bs < w.heap.size) (W : World) (l : Nat) (o o' : Obj) (hl : w.heap.size ≤ l) (h : W.heap[l]? = some o) (h1 : o.isCells = false) (h2 : o.isWalk = false) : KeepS n Bs W (W.putObj l o') :=
  ⟨belowK_b hn W l o o' hl h h1 h2, World.putObj_heap_other (by omega)⟩
theorem grown_of_below {w w' : World} (h : Below w.heap.size w w') (row : Option Nat) : w.grownBy w' row := ⟨h.os, h.tape, h.output, h.size, fun k hk _ => h.block k hk⟩

set_option maxRecDepth 100000 in
set_option maxHeartbeats 2000000 in
theorem seq1_in (n : Nat) (hn : 1 ≤ n) (lp Bs bk off cap : Nat) (l : List UInt8) (hcap : l.length ≤ cap) (hlen : l.length ≤ 4194304) (w0 : World) (hT : Tabs w0) (hbk : bk < w0.heap.size) (hc : BytesAt w0 bk off l) (J Jx : List (SegT l) → World → Prop)
    (hY : ∀ pre x W, J pre W → pre.length < l.length → YieldAt Fence.wide (n - 1) Tryd.prog lp (segEnc l bk off cap x) W fun e W' =>
      (e = .returned (.bool true) ∧ J (pre ++ [x]) W' ∧ KeepS w0.heap.size Bs W W') ∨ (e = .returned (.bool false) ∧ Jx (pre ++ [x]) W'))
    (W : World) (hW : Below w0.heap.size w0 W) (hbox : Boxed W Bs 22 (.slice (some ⟨bk, off, none⟩) l.length cap)) (hJ : AbidesFrom W.heap.size J) (h0 : J [] W) :
    CallsIn Fence.wide n Tryd.prog 39 #[.func (.yield lp) #[] #[], .pointer (some ⟨Bs, 0, none⟩)] W fun e W' => (∃ v, e = .returned v) ∧
      ((∃ ys : List (SegT l), ys.map (·.1) = segs l l.length 0 ∧ J ys W') ∨ (∃ pre, True ∧ Jx pre W')) := by
  refine callsIn_of_wp Tryd.func39 rfl trivial ?_ rfl
  simp only [Tryd.ntmps39, List.size_toArray, List.length_cons, List.length_nil, Nat.reduceAdd, Nat.reduceSub, Array.replicate_succ, Array.replicate_zero, List.push_toArray, List.append_toArray, List.nil_append, List.cons_append]
  gi_wp2
  gi_loopw [3] (fun i wr => ∃ (k f : Nat) (pre : List (SegT l)), k ≤ l.length ∧ i = .int .i64 k ∧ pre.map (·.1) ++ segs l f k = segs l l.length 0 ∧ l.length ≤ k + f ∧ J pre wr ∧ Below w0.heap.size w0 wr ∧ W.heap.size ≤ wr.heap.size ∧ Boxed wr Bs 22 (.slice (some ⟨bk, off, none⟩) l.length cap))
    (fun i _ => l.length - (intOf i).toNat)
  case atStart => exact ⟨0, l.length, [], by omega, rfl, by simp, by omega, h0, hW, Nat.le_refl _, hbox⟩
  case round =>
    obtain ⟨k, f, pre, hk, rfl, hs, hf, hJp, hWr, hsz, hbx⟩ := hrel
    have hcb := hbx.cell
    have HS := Lib.hid hs
    have HC := Lib.hid hc
    have HY := Lib.hid hY
    have HJ := Lib.hid hJ
    have HT := Lib.hid hT
    clear hs hc hY hJ hT
    by_cases hlt : k < l.length
    · obtain ⟨f', hf', hsg⟩ := segs_step l f k hlt hf
      have hst := stepL_bd (l.drop k) (by simp; omega)
      simp only [List.length_drop] at hst
      have hfit : Fits l (k, stepL (l.drop k), decide (seqL (l.drop k) ≠ 0)) := by unfold Fits; simp only; omega
      have HSG := Lib.hid hsg
      clear hsg
      gi_wp2_with (refine ⟨trivial, ?_⟩; gi_at_call 40; refine (callsIn_wide.2 (decode_list l k bk off _ _ hlt (Utf8Tabs_below HT.out hWr) (HC.out.below hWr hbk) rfl rfl rfl)).mono ?_)
      rintro e w1 ⟨R, rfl, hR, hb1⟩
      have hbelow := Nat.lt_of_lt_of_le hbk (Nat.le_trans hWr.size (Nat.le_refl wr.heap.size))
      have hbx1 : Boxed w1 Bs 22 (.slice (some ⟨bk, off, none⟩) l.length cap) := (hb1.block Bs hbx.lt).trans hbx
      have hcb1 := hbx1.cell
      have hJ1 : J pre w1 := HJ.out pre wr w1 none hJp (grown_of_below hb1 none) (fun r e => by cases e)
      have hpre : pre.length < l.length := by
        have h1 := congrArg List.length HS.out
        have h2 := segs_length l l.length 0
        have h3 := congrArg List.length HSG.out
        simp only [List.length_append, List.length_map, List.length_cons] at h1 h3
        omega
      have hW1 : Below w0.heap.size w0 w1 := hWr.trans (hb1.mono hWr.size)
      have hsz1 : W.heap.size ≤ w1.heap.size := Nat.le_trans hsz hb1.size
      obtain ⟨fn, tmps, assign, body, hy, hRd⟩ := HY.out pre ⟨(k, stepL (l.drop k), decide (seqL (l.drop k) ≠ 0)), hfit⟩ w1 hJ1 hpre
      have HRd := Lib.hid hRd
      have HR := Lib.hid hR
      clear hRd hR hcb hbx hJp hWr
      simp only [segEnc] at hy
      obtain ⟨S, hS⟩ : ∃ S, stepL (l.drop k) = S := ⟨_, rfl⟩
      have HV : Hid (S = if seqL (l.drop k) = 0 then 1 else seqL (l.drop k)) := hS.symm
      rw [hS] at hy hst ⊢
      have HSS := Lib.hid hS
      clear hS
      have hS1 := hst.1
      have hS2 := hst.2.1
      clear hst
      have hways : (decide (seqL (l.drop k) ≠ 0) = false ∧ R = 65533 ∧ decide ((1 : Int) < (S : Int)) = false) ∨ (decide (seqL (l.drop k) ≠ 0) = true ∧ ((R : Int) != 65533) = true) ∨
          (decide (seqL (l.drop k) ≠ 0) = true ∧ R = 65533 ∧ decide ((1 : Int) < (S : Int)) = true) := by
        have h1 := HR.out
        have h2 := HV.out
        rw [HSS.out] at h1
        by_cases hv : seqL (l.drop k) = 0
        · left; simp [hv] at h2 ⊢; omega
        · by_cases hr : R = 65533
          · right; right; refine ⟨by simp [hv], hr, ?_⟩; simp; omega
          · right; left; refine ⟨by simp [hv], ?_⟩; rw [bne_iff_ne]; omega
      rcases hways with ⟨hv, rfl, hd⟩ | ⟨hv, hd⟩ | ⟨hv, rfl, hd⟩
      all_goals
        rw [hv] at hy
        have HVD := Lib.hid hv
        clear hv
        gi_wp2
        refine HRd.out.mono ?_
        rintro e W3 (⟨rfl, hJ3, hk3⟩ | ⟨rfl, hJx3⟩)
        · have hbx3 : Boxed W3 Bs 22 (.slice (some ⟨bk, off, none⟩) l.length cap) := hk3.2.trans hbx1
          have hW3 := hW1.trans hk3.1
          have hsz3 := Nat.le_trans hsz1 hk3.1.size
          clear hJ1 hW1 hk3
          have HJ3 := Lib.hid hJ3
          clear hJ3
          gi_wp2
          go_roundw
          case rel => exact ⟨k + S, f', _, by omega, by simp, by rw [← HS.out, HSG.out, ← HSS.out]; simp, by have := HSS.out; omega, HJ3.out, hW3, hsz3, hbx3⟩
          case measure => simp [intOf]; omega
        · have HJx := Lib.hid hJx3
          clear hJx3
          gi_wp2
          refine bodyPost_ret (results_none rfl _ _ _) rfl ?_
          exact ⟨⟨_, rfl⟩, .inr ⟨_, trivial, HJx.out⟩⟩
    · obtain rfl : k = l.length := by omega
      gi_wp2
      go_end0
      exact ⟨⟨_, rfl⟩, .inl ⟨pre, by rw [← HS.out, segs_end _ _ _ (by omega)]; simp, hJp⟩⟩
end Go.Proofs.YtbpboghjgbgjfaaDoor
