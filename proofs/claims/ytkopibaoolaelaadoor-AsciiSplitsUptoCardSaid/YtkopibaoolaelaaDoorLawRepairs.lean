/- AsciiRepairs: the law returns true, where the bytes and the string are together of at most 1048576 bytes. -/
import Derived.Test.YtkopibaoolaelaaDoorAwake
import Derived.Test.YtkopibaoolaelaaDoorRefRep2
import Derived.Lib.AppendStr
import Derived.Laws.OwnMore
import Derived.Laws.AppendOwnNone
namespace Go.Proofs.YtkopibaoolaelaaDoor
open Go.RowKit

/-- How a slice of bytes that came in is known: nil; or its bytes lie at an address, below block n. -/
def ArgB (w : World) (n : Nat) (sv : Value) (l : List UInt8) : Prop :=
  (sv = .slice none 0 0 ∧ l = []) ∨ ∃ ad cap, sv = .slice (some ad) l.length cap ∧ l.length ≤ cap ∧ (∀ j u, (Lib.byteCells l)[j]? = some u → w.cell? (ad.add j) = some u) ∧ (0 < l.length → ∃ bk off, ad = ⟨bk, off, none⟩ ∧ bk < n)
theorem ArgB.slc {w : World} {n : Nat} {sv : Value} {l : List UInt8} (h : ArgB w n sv l) : SlcAt w n sv l := by
  rcases h with ⟨rfl, rfl⟩ | ⟨ad, cap, rfl, hcap, hc, hp⟩
  · exact .inl ⟨none, 0, rfl, rfl⟩
  · by_cases h0 : 0 < l.length
    · obtain ⟨bk, off, rfl, hbk⟩ := hp h0
      refine .inr ⟨bk, off, cap, rfl, hcap, hbk, fun j hj => ?_⟩
      have := hc j (.int .u8 (byteAt l j)) (by simp [Lib.byteCells, byteAt, hj])
      have hadd : (⟨bk, off, none⟩ : Addr).add j = ⟨bk, off + j, none⟩ := by unfold Addr.add; split <;> simp_all
      rw [hadd] at this
      exact this
    · obtain rfl : l = [] := List.eq_nil_of_length_eq_zero (by omega)
      exact .inl ⟨some ad, cap, rfl, rfl⟩

/-- What a string's bytes become as a slice of bytes. -/
def bytesCap (W : World) (s : ByteArray) : Nat := grownCap W s.size 0 5
def bytesWorld (W : World) (s : ByteArray) : World := W.drew.alloc (.cells (bytesRow s (bytesCap W s)) 5 ((bytesRow s (bytesCap W s)).size, (bytesRow s (bytesCap W s)).size + 1))
theorem conv_bytes (W : World) (s : ByteArray) : (convert 9 24 (.string s)).run Tryd.prog W = .ok (.slice (some ⟨W.heap.size, 0, none⟩) s.size (bytesCap W s)) (bytesWorld W s) :=
  run_bytes_of_string W 9 24 5 s Tryd.underlying9 Tryd.underlying24 Tryd.underlying5
theorem bytesWorld_size (W : World) (s : ByteArray) : (bytesWorld W s).heap.size = W.heap.size + 1 := by
  unfold bytesWorld
  rw [World.size_alloc]
  rfl
theorem bytesWorld_below (n : Nat) (W : World) (s : ByteArray) (h : n ≤ W.heap.size) : Below n W (bytesWorld W s) := ((Below.refl n W).drew).alloc h _
theorem bytesWorld_slc (W : World) (s : ByteArray) (n : Nat) (h : W.heap.size < n) : SlcAt (bytesWorld W s) n (.slice (some ⟨W.heap.size, 0, none⟩) s.size (bytesCap W s)) s.data.toList := by
  refine .inr ⟨W.heap.size, 0, bytesCap W s, by rw [sizeB], by rw [sizeB]; exact grownCap_ge _ _ _ _, h, fun j hj => ?_⟩
  rw [sizeB] at hj
  have hh : (bytesWorld W s).heap[W.heap.size]? = _ := World.alloc_heap_new W.drew _
  rw [Nat.zero_add, cell_of_row _ _ _ _ _ _ hh]
  simp [bytesRow, byteAt, Array.getElem?_append, hj]
theorem SlcAt.below {w W : World} {n n' : Nat} {sv : Value} {l : List UInt8} (h : SlcAt w n sv l) (hb : Below n w W) (hn : n ≤ n') : SlcAt W n' sv l := by
  rcases h with h | ⟨bk, off, cap, rfl, hcap, hbk, hc⟩
  · exact .inl h
  · exact .inr ⟨bk, off, cap, rfl, hcap, by omega, hc.below hb hbk⟩
theorem ownsRow_slc {W : World} {B g cap : Nat} {L : List UInt8} (h : W.ownsRow B 5 1 (.slice (some ⟨g, 0, none⟩) L.length cap) L.length (Lib.byteCells L)) : SlcAt W W.heap.size (.slice (some ⟨g, 0, none⟩) L.length cap) L := by
  have hlt := (h.lt g rfl).2
  have hcap : L.length ≤ cap := by
    rcases h.2 with ⟨h', _⟩ | ⟨g', cap', cur, h', _, _, hnc, _⟩
    · simp at h'
    · simp only [Value.slice.injEq] at h'
      omega
  refine .inr ⟨g, 0, cap, rfl, hcap, hlt, fun j hj => ?_⟩
  rw [Nat.zero_add, h.cellAt j (by omega)]
  simp [Lib.byteCells, byteAt, hj]

theorem xorB : ∀ b : Fin 256, bits BinOp.xor IntKind.u8 ((b.1 : Nat) : Int) 128 = ((b.1 ^^^ 128 : Nat) : Int) ∧ (UInt8.ofNat (b.1 ^^^ 128)).toNat = b.1 ^^^ 128 := by decide +kernel

/-- What the three looks of a round give. -/
structure Looks (w6 : World) (x : Value) (n : Nat) (P : ByteArray) (N : Nat) : Prop where
  size : P.size = n
  first : ∀ W, Below w6.heap.size w6 W → Calls Tryd.prog 18 #[x] W fun e w' => e = .returned (.tuple #[.string P, .int .i64 N]) ∧ Below W.heap.size W w'
  second : ∀ W, Below w6.heap.size w6 W → Calls Tryd.prog 19 #[x] W fun e w' => e = .returned (.tuple #[.string P, .int .i64 N]) ∧ Below W.heap.size W w'
  third : ∀ W, Below w6.heap.size w6 W → Calls Tryd.prog 18 #[.slice (some ⟨W.heap.size, 0, none⟩) P.size (bytesCap W P)] (bytesWorld W P) fun e w' => e = .returned (.tuple #[.string P, .int .i64 0]) ∧ Below W.heap.size W w'
theorem looks (w6 : World) (hT : Tabs w6) (sv : Value) (l : List UInt8) (hlen : l.length ≤ 2097152) (hS : SlcAt w6 w6.heap.size sv l) : ∃ P N, Looks w6 sv l.length P N := by
  obtain ⟨h1, h2⟩ := rep_again l
  have hsz : (ByteArray.mk (repB l).toArray).size = l.length := by
    have := repB_length l
    simpa [ByteArray.size] using this
  refine ⟨⟨(repB l).toArray⟩, repN l, hsz, fun W hW => ?_, fun W hW => ?_, fun W hW => ?_⟩
  · exact repair_any sv l (by omega) W (Utf8Tabs_below hT hW) (hS.below hW hW.size)
  · exact rrepair_any sv l (by omega) W (hS.below hW hW.size)
  · have hbw := bytesWorld_below W.heap.size W ⟨(repB l).toArray⟩ (Nat.le_refl _)
    have hsl := bytesWorld_slc W ⟨(repB l).toArray⟩ (bytesWorld W ⟨(repB l).toArray⟩).heap.size (by rw [bytesWorld_size]; omega)
    have h := repair_any _ (repB l) (by rw [repB_length]; omega) _ (Utf8Tabs_below hT (hW.trans (hbw.mono hW.size))) hsl
    rw [h1, h2] at h
    refine h.mono ?_
    rintro e w' ⟨rfl, hb⟩
    exact ⟨rfl, hbw.trans (hb.mono (by rw [bytesWorld_size]; omega))⟩

set_option maxRecDepth 100000 in
set_option maxHeartbeats 2000000 in
theorem lawRepairs_some (ad : Addr) (cap : Nat) (l : List UInt8) (s : ByteArray) (c : UInt8) (w : World) (hT : Tabs w) (hlen : l.length + s.size ≤ 1048576) (hN : 0 < s.size + l.length)
    (hc : ∀ j u, (Lib.byteCells l)[j]? = some u → w.cell? (ad.add j) = some u) (hS : SlcAt w w.heap.size (.slice (some ad) l.length cap) l) :
    Calls Tryd.prog 4 #[.slice (some ad) l.length cap, .string s, .int .u8 c.toNat] w fun e w' => e = .returned (.bool true) ∧ Below w.heap.size w w' := by
  obtain ⟨i0, hi, hz0, hz1, hz2⟩ := info_parts infoByte
  have HT := Lib.hid hT
  have HS := Lib.hid hS
  have HC := Lib.hid hc
  clear hT hS hc
  have hc2 : ∀ W, Below w.heap.size w W → ∀ j u, (Lib.byteCells l)[j]? = some u → W.cell? (ad.add j) = some u := fun W hW j u hj => (hW.cell (block_lt_of_cell (HC.out j u hj))).trans (HC.out j u hj)
  have HC2 := Lib.hid hc2
  clear hc2
  have hbl := Lib.byteCells_length l
  go_enter Tryd.func4, Tryd.ntmps4
  go_wp2_with (first
    | (go_at_call 9; refine (awake_any w HT.out).mono ?_; rintro e w1 ⟨rfl, hb1⟩)
    | (at_builtin; refine Lib.wpList_append_own_string _ rfl (.const (.slice none 0 0)) (.tmp 18) 24 9 rfl w.heap.size 5 i0 Tryd.underlying24 Tryd.underlying9 hi hz0 hz1 hz2 (.slice none 0 0) 0 [] rfl (World.ownsRow_nil _ _ _ _) s rfl ?s1 ?s2 hb1.size ?_))
  case s1 => unfold maxLen; omega
  case s2 => omega
  intro v2 w2 hown2 hgrow2 _
  have hb2 : Below w.heap.size w w2 := hb1.grown hgrow2 hb1.size (fun r e => by simp [Value.ownBlock] at e)
  go_wp2_with (at_builtin; refine wpList_append_own _ rfl (.tmp 19) (.tmp 20) 24 rfl w.heap.size 5 i0 (.int .u8 0) 1 1 Tryd.underlying24 hi hz0 hz1 hz2 rfl (by decide) _ _ _ rfl hown2 ad l.length cap (Lib.byteCells l) rfl ?t0 (HC2.out _ hb2) (oneCells _) ?t3 ?t4 hb2.size ?_)
  case t0 => omega
  case t3 => unfold maxLen; omega
  case t4 => omega
  intro v3 w3 hown3 hgrow3 _
  have hb3 : Below w.heap.size w w3 := hb2.grown hgrow3 hb2.size (fun r e => (hown2.lt r e).1)
  obtain ⟨M, hM⟩ : ∃ M, s.data.toList ++ l = M := ⟨_, rfl⟩
  have hML : M.length = s.size + l.length := by rw [← hM, List.length_append, sizeB]
  have hown4 : w3.ownsRow w.heap.size 5 1 v3 M.length (Lib.byteCells M) := by
    rw [hML, ← hM, byteCells_append]
    exact hown3
  obtain ⟨g, cap3, rfl⟩ : ∃ g cap3, v3 = .slice (some ⟨g, 0, none⟩) M.length cap3 := by
    rcases hown4.2 with ⟨_, h0⟩ | ⟨g, cap, cur, hv, _⟩
    · omega
    · exact ⟨g, cap, hv⟩
  clear hown2 hgrow2 hown3 hgrow3 hM
  have hm := UInt8.toNat_lt c
  obtain ⟨m, hmm⟩ : ∃ m, c.toNat = m := ⟨_, rfl⟩
  rw [hmm] at hm ⊢
  clear hmm
  have hm2 : (m : Int) < 256 := by omega
  have hM0 : 0 < M.length := by omega
  have hMb : M.length ≤ 1048576 := by omega
  have hix : m % M.length < M.length := Nat.mod_lt _ hM0
  obtain ⟨b, hb⟩ : ∃ b, byteAt M (m % M.length) = b := ⟨_, rfl⟩
  have hb256 : b < 256 := by rw [← hb]; exact byteAt_lt _ _
  have hcel : w3.cell? ⟨g, m % M.length, none⟩ = some (.int .u8 (b : Int)) := by
    rw [hown4.cellAt _ (by omega), ← hb]
    simp [Lib.byteCells, byteAt, hix]
  have hfro : w3.frozen? ⟨g, m % M.length, none⟩ = false := hown4.frozenAt _
  have HX := Lib.hid (xorB ⟨b, hb256⟩)
  clear hML
  go_wp2_with fail
  obtain ⟨w4, hw4⟩ : ∃ w4, w3.setCell ⟨g, m % M.length, none⟩ (.int .u8 (bits BinOp.xor IntKind.u8 (b : Int) 128)) = w4 := ⟨_, rfl⟩
  rw [hw4, conv_bytes]
  have hown5 := (hown4.stored (m % M.length) (.int .u8 (bits BinOp.xor IntKind.u8 (b : Int) 128))).1
  have hb4 : Below w.heap.size w w4 := by
    rw [← hw4]
    exact hb3.setCell (p := ⟨g, m % M.length, none⟩) (hown4.lt g rfl).1 _
  rw [hw4] at hown5
  obtain ⟨M', hM'⟩ : ∃ M', M.set (m % M.length) (UInt8.ofNat (b ^^^ 128)) = M' := ⟨_, rfl⟩
  have hML' : M'.length = M.length := by rw [← hM', List.length_set]
  have hown6 : w4.ownsRow w.heap.size 5 1 (.slice (some ⟨g, 0, none⟩) M'.length cap3) M'.length (Lib.byteCells M') := by
    have e : Lib.byteCells M' = (Lib.byteCells M).set (m % M.length) (.int .u8 (bits BinOp.xor IntKind.u8 (b : Int) 128)) := by
      rw [← hM']
      have h1 := HX.out.1
      have h2 := HX.out.2
      rw [h1]
      simp only [Lib.byteCells, List.map_set, h2]
    rw [hML', e]
    exact hown5
  have hslm := ownsRow_slc hown6
  rw [← hML'] at hMb hM0 ⊢
  simp only [Result.andThen]
  rw [Oper.upon_value]
  have hs5 := bytesWorld_size w4 s
  go_wp2_with fail
  have hw5b := bytesWorld_below w4.heap.size w4 s (Nat.le_refl _)
  have hsl5 := bytesWorld_slc w4 s (w4.heap.size + 1) (by omega)
  obtain ⟨w5, hw5⟩ : ∃ w5, bytesWorld w4 s = w5 := ⟨_, rfl⟩
  obtain ⟨cp5, hcp5⟩ : ∃ cp5, bytesCap w4 s = cp5 := ⟨_, rfl⟩
  rw [hw5] at hs5 hw5b hsl5 ⊢
  rw [hcp5] at hsl5 ⊢
  rw [← hML']
  obtain ⟨w6, hw6⟩ : ∃ w6, w5.alloc (Obj.cells #[Value.slice (some ad) l.length cap, Value.slice (some ⟨g, 0, none⟩) M'.length cap3, Value.slice (some ⟨w4.heap.size, 0, none⟩) s.size cp5] 24) = w6 := ⟨_, rfl⟩
  have hh6 : w6.heap[w4.heap.size + 1]? = some (Obj.cells #[Value.slice (some ad) l.length cap, Value.slice (some ⟨g, 0, none⟩) M'.length cap3, Value.slice (some ⟨w4.heap.size, 0, none⟩) s.size cp5] 24 (0, 0)) := by
    rw [← hw6, ← hs5]; exact heap_alloc_new w5 _
  have hb6 : Below w.heap.size w w6 := by
    rw [← hw6]
    exact (hb4.trans (hw5b.mono hb4.size)).alloc (by have := hb4.size; omega) _
  have hb46 : Below w4.heap.size w4 w6 := by rw [← hw6]; exact hw5b.alloc (by omega) _
  have hb56 : Below w5.heap.size w5 w6 := by rw [← hw6]; exact (Below.refl _ w5).alloc (Nat.le_refl _) _
  have hT6 := Utf8Tabs_below HT.out hb6
  have hlt6 : w4.heap.size + 1 < w6.heap.size := (Array.getElem?_eq_some_iff.1 hh6).1
  have hx : ∀ k, k < 3 → ∃ a cp n, w6.cell? ⟨w4.heap.size + 1, k, none⟩ = some (.slice a n cp) ∧ ∃ P N, Looks w6 (.slice a n cp) n P N := fun k hk => by
    match k, hk with
    | 0, _ => exact ⟨_, _, _, by rw [cell_of_row _ _ _ _ _ _ hh6]; rfl, looks w6 hT6 _ l (by omega) (HS.out.below hb6 hb6.size)⟩
    | 1, _ => exact ⟨_, _, _, by rw [cell_of_row _ _ _ _ _ _ hh6]; rfl, looks w6 hT6 _ M' (by omega) (hslm.below hb46 hb46.size)⟩
    | 2, _ =>
      have h := looks w6 hT6 _ s.data.toList (by rw [sizeB]; omega) (hsl5.below (n' := w6.heap.size) (hb56.mono (by omega)) (by omega))
      rw [sizeB] at h
      exact ⟨_, _, _, by rw [cell_of_row _ _ _ _ _ _ hh6]; rfl, h⟩
  rw [hw6]
  have HX2 := Lib.hid hx
  clear hx hw6 hT6 hsl5 hslm hown6 hML' hM' hcp5 hw5 hown5 hw4 hfro hcel hb hown4 hh6 hb46 hb56
  go_loopw [41] (fun i wr => ∃ k : Nat, k ≤ 3 ∧ i = .int .i64 k ∧ Below w6.heap.size w6 wr) (fun i _ => 3 - (intOf i).toNat)
  case atStart => exact ⟨0, by omega, rfl, Below.refl _ _⟩
  case round =>
    obtain ⟨k, hk, rfl, hbr⟩ := hrel
    by_cases hk3 : k < 3
    · obtain ⟨a, cp, n, hcx, P, N, hL⟩ := HX2.out k hk3
      have hcr : wr.cell? ⟨w4.heap.size + 1, k, none⟩ = some (.slice a n cp) := (hbr.cell (p := ⟨w4.heap.size + 1, k, none⟩) hlt6).trans hcx
      have hps : ((P.size : Int) != (n : Int)) = false := by rw [hL.size]; simp
      have HL := Lib.hid hL
      clear hcx hL
      go_wp2_with fail
      refine (HL.out.first _ hbr).mono ?_
      rintro e wa ⟨rfl, hba⟩
      go_wp2_with fail
      refine (HL.out.second _ (bstep hbr hba)).mono ?_
      rintro e wb ⟨rfl, hbb⟩
      go_wp2_with fail
      rw [conv_bytes]
      simp only [Result.andThen]
      rw [Oper.upon_value]
      go_wp2_with fail
      refine (HL.out.third _ (bstep (bstep hbr hba) hbb)).mono ?_
      rintro e wc ⟨rfl, hbc⟩
      go_wp2
      go_roundw
      case rel => exact ⟨k + 1, by omega, by simp, bstep (bstep (bstep hbr hba) hbb) hbc⟩
      case measure => simp [intOf]; omega
    · go_wp2
      go_ret
      exact ⟨rfl, hb6.trans (hbr.mono hb6.size)⟩

set_option maxRecDepth 100000 in
set_option maxHeartbeats 2000000 in
theorem lawRepairs_nil (s : ByteArray) (c : UInt8) (w : World) (hT : Tabs w) (hlen : s.size ≤ 1048576) (hN : 0 < s.size) :
    Calls Tryd.prog 4 #[.slice none 0 0, .string s, .int .u8 c.toNat] w fun e w' => e = .returned (.bool true) ∧ Below w.heap.size w w' := by
  obtain ⟨i0, hi, hz0, hz1, hz2⟩ := info_parts infoByte
  have HT := Lib.hid hT
  clear hT
  have HS := Lib.hid (show SlcAt w w.heap.size (.slice none 0 0) [] from .inl ⟨none, 0, rfl, rfl⟩)
  go_enter Tryd.func4, Tryd.ntmps4
  go_wp2_with (first
    | (go_at_call 9; refine (awake_any w HT.out).mono ?_; rintro e w1 ⟨rfl, hb1⟩)
    | (at_builtin; refine Lib.wpList_append_own_string _ rfl (.const (.slice none 0 0)) (.tmp 18) 24 9 rfl w.heap.size 5 i0 Tryd.underlying24 Tryd.underlying9 hi hz0 hz1 hz2 (.slice none 0 0) 0 [] rfl (World.ownsRow_nil _ _ _ _) s rfl ?s1 ?s2 hb1.size ?_))
  case s1 => unfold maxLen; omega
  case s2 => omega
  intro v2 w2 hown2 hgrow2 _
  have hb2 : Below w.heap.size w w2 := hb1.grown hgrow2 hb1.size (fun r e => by simp [Value.ownBlock] at e)
  go_wp2_with (at_builtin; refine wpList_append_own_none rfl (.tmp 19) (.tmp 20) 24 rfl w.heap.size 5 i0 1 Tryd.underlying24 hi _ _ _ rfl hown2 rfl ?_)
  obtain ⟨M, hM⟩ : ∃ M, s.data.toList = M := ⟨_, rfl⟩
  have hML : M.length = s.size := by rw [← hM, sizeB]
  have hown4 : w2.ownsRow w.heap.size 5 1 v2 M.length (Lib.byteCells M) := by
    rw [hML, ← hM]
    first | exact hown2 | (rw [Nat.zero_add] at hown2; exact hown2)
  obtain ⟨g, cap3, rfl⟩ : ∃ g cap3, v2 = .slice (some ⟨g, 0, none⟩) M.length cap3 := by
    rcases hown4.2 with ⟨_, h0⟩ | ⟨g, cap, cur, hv, _⟩
    · omega
    · exact ⟨g, cap, hv⟩
  clear hown2 hgrow2 hM
  have hm := UInt8.toNat_lt c
  obtain ⟨m, hmm⟩ : ∃ m, c.toNat = m := ⟨_, rfl⟩
  rw [hmm] at hm ⊢
  clear hmm
  have hm2 : (m : Int) < 256 := by omega
  have hM0 : 0 < M.length := by omega
  have hMb : M.length ≤ 1048576 := by omega
  have hix : m % M.length < M.length := Nat.mod_lt _ hM0
  obtain ⟨b, hb⟩ : ∃ b, byteAt M (m % M.length) = b := ⟨_, rfl⟩
  have hb256 : b < 256 := by rw [← hb]; exact byteAt_lt _ _
  have hcel : w2.cell? ⟨g, m % M.length, none⟩ = some (.int .u8 (b : Int)) := by
    rw [hown4.cellAt _ (by omega), ← hb]
    simp [Lib.byteCells, byteAt, hix]
  have hfro : w2.frozen? ⟨g, m % M.length, none⟩ = false := hown4.frozenAt _
  have HX := Lib.hid (xorB ⟨b, hb256⟩)
  clear hML
  go_wp2_with fail
  obtain ⟨w4, hw4⟩ : ∃ w4, w2.setCell ⟨g, m % M.length, none⟩ (.int .u8 (bits BinOp.xor IntKind.u8 (b : Int) 128)) = w4 := ⟨_, rfl⟩
  rw [hw4, conv_bytes]
  have hown5 := (hown4.stored (m % M.length) (.int .u8 (bits BinOp.xor IntKind.u8 (b : Int) 128))).1
  have hb4 : Below w.heap.size w w4 := by
    rw [← hw4]
    exact hb2.setCell (p := ⟨g, m % M.length, none⟩) (hown4.lt g rfl).1 _
  rw [hw4] at hown5
  obtain ⟨M', hM'⟩ : ∃ M', M.set (m % M.length) (UInt8.ofNat (b ^^^ 128)) = M' := ⟨_, rfl⟩
  have hML' : M'.length = M.length := by rw [← hM', List.length_set]
  have hown6 : w4.ownsRow w.heap.size 5 1 (.slice (some ⟨g, 0, none⟩) M'.length cap3) M'.length (Lib.byteCells M') := by
    have e : Lib.byteCells M' = (Lib.byteCells M).set (m % M.length) (.int .u8 (bits BinOp.xor IntKind.u8 (b : Int) 128)) := by
      rw [← hM']
      have h1 := HX.out.1
      have h2 := HX.out.2
      rw [h1]
      simp only [Lib.byteCells, List.map_set, h2]
    rw [hML', e]
    exact hown5
  have hslm := ownsRow_slc hown6
  rw [← hML'] at hMb hM0 ⊢
  simp only [Result.andThen]
  rw [Oper.upon_value]
  have hs5 := bytesWorld_size w4 s
  go_wp2_with fail
  have hw5b := bytesWorld_below w4.heap.size w4 s (Nat.le_refl _)
  have hsl5 := bytesWorld_slc w4 s (w4.heap.size + 1) (by omega)
  obtain ⟨w5, hw5⟩ : ∃ w5, bytesWorld w4 s = w5 := ⟨_, rfl⟩
  obtain ⟨cp5, hcp5⟩ : ∃ cp5, bytesCap w4 s = cp5 := ⟨_, rfl⟩
  rw [hw5] at hs5 hw5b hsl5 ⊢
  rw [hcp5] at hsl5 ⊢
  rw [← hML']
  obtain ⟨w6, hw6⟩ : ∃ w6, w5.alloc (Obj.cells #[Value.slice none 0 0, Value.slice (some ⟨g, 0, none⟩) M'.length cap3, Value.slice (some ⟨w4.heap.size, 0, none⟩) s.size cp5] 24) = w6 := ⟨_, rfl⟩
  have hh6 : w6.heap[w4.heap.size + 1]? = some (Obj.cells #[Value.slice none 0 0, Value.slice (some ⟨g, 0, none⟩) M'.length cap3, Value.slice (some ⟨w4.heap.size, 0, none⟩) s.size cp5] 24 (0, 0)) := by
    rw [← hw6, ← hs5]; exact heap_alloc_new w5 _
  have hb6 : Below w.heap.size w w6 := by
    rw [← hw6]
    exact (hb4.trans (hw5b.mono hb4.size)).alloc (by have := hb4.size; omega) _
  have hb46 : Below w4.heap.size w4 w6 := by rw [← hw6]; exact hw5b.alloc (by omega) _
  have hb56 : Below w5.heap.size w5 w6 := by rw [← hw6]; exact (Below.refl _ w5).alloc (Nat.le_refl _) _
  have hT6 := Utf8Tabs_below HT.out hb6
  have hlt6 : w4.heap.size + 1 < w6.heap.size := (Array.getElem?_eq_some_iff.1 hh6).1
  have hx : ∀ k, k < 3 → ∃ a cp n, w6.cell? ⟨w4.heap.size + 1, k, none⟩ = some (.slice a n cp) ∧ ∃ P N, Looks w6 (.slice a n cp) n P N := fun k hk => by
    match k, hk with
    | 0, _ => exact ⟨_, _, _, by rw [cell_of_row _ _ _ _ _ _ hh6]; rfl, looks w6 hT6 _ [] (by simp) (HS.out.below hb6 hb6.size)⟩
    | 1, _ => exact ⟨_, _, _, by rw [cell_of_row _ _ _ _ _ _ hh6]; rfl, looks w6 hT6 _ M' (by omega) (hslm.below hb46 hb46.size)⟩
    | 2, _ =>
      have h := looks w6 hT6 _ s.data.toList (by rw [sizeB]; omega) (hsl5.below (n' := w6.heap.size) (hb56.mono (by omega)) (by omega))
      rw [sizeB] at h
      exact ⟨_, _, _, by rw [cell_of_row _ _ _ _ _ _ hh6]; rfl, h⟩
  rw [hw6]
  have HX2 := Lib.hid hx
  clear hx hw6 hT6 hsl5 hslm hown6 hML' hM' hcp5 hw5 hown5 hw4 hfro hcel hb hown4 hh6 hb46 hb56
  go_loopw [41] (fun i wr => ∃ k : Nat, k ≤ 3 ∧ i = .int .i64 k ∧ Below w6.heap.size w6 wr) (fun i _ => 3 - (intOf i).toNat)
  case atStart => exact ⟨0, by omega, rfl, Below.refl _ _⟩
  case round =>
    obtain ⟨k, hk, rfl, hbr⟩ := hrel
    by_cases hk3 : k < 3
    · obtain ⟨a, cp, n, hcx, P, N, hL⟩ := HX2.out k hk3
      have hcr : wr.cell? ⟨w4.heap.size + 1, k, none⟩ = some (.slice a n cp) := (hbr.cell (p := ⟨w4.heap.size + 1, k, none⟩) hlt6).trans hcx
      have hps : ((P.size : Int) != (n : Int)) = false := by rw [hL.size]; simp
      have HL := Lib.hid hL
      clear hcx hL
      go_wp2_with fail
      refine (HL.out.first _ hbr).mono ?_
      rintro e wa ⟨rfl, hba⟩
      go_wp2_with fail
      refine (HL.out.second _ (bstep hbr hba)).mono ?_
      rintro e wb ⟨rfl, hbb⟩
      go_wp2_with fail
      rw [conv_bytes]
      simp only [Result.andThen]
      rw [Oper.upon_value]
      go_wp2_with fail
      refine (HL.out.third _ (bstep (bstep hbr hba) hbb)).mono ?_
      rintro e wc ⟨rfl, hbc⟩
      go_wp2
      go_roundw
      case rel => exact ⟨k + 1, by omega, by simp, bstep (bstep (bstep hbr hba) hbb) hbc⟩
      case measure => simp [intOf]; omega
    · go_wp2
      go_ret
      exact ⟨rfl, hb6.trans (hbr.mono hb6.size)⟩

set_option maxRecDepth 100000 in
set_option maxHeartbeats 2000000 in
theorem lawRepairs_some0 (ad : Addr) (cap : Nat) (s : ByteArray) (c : UInt8) (w : World) (hT : Tabs w) (hN : s.size = 0) :
    Calls Tryd.prog 4 #[.slice (some ad) 0 cap, .string s, .int .u8 c.toNat] w fun e w' => e = .returned (.bool true) ∧ Below w.heap.size w w' := by
  obtain ⟨i0, hi, hz0, hz1, hz2⟩ := info_parts infoByte
  have HT := Lib.hid hT
  have HN := Lib.hid hN
  have hle : s.size ≤ 1048576 := by omega
  clear hT hN
  have HS := Lib.hid (show SlcAt w w.heap.size (.slice (some ad) 0 cap) [] from .inl ⟨some ad, cap, rfl, rfl⟩)
  go_enter Tryd.func4, Tryd.ntmps4
  go_wp2_with (first
    | (go_at_call 9; refine (awake_any w HT.out).mono ?_; rintro e w1 ⟨rfl, hb1⟩)
    | (at_builtin; refine Lib.wpList_append_own_string _ rfl (.const (.slice none 0 0)) (.tmp 18) 24 9 rfl w.heap.size 5 i0 Tryd.underlying24 Tryd.underlying9 hi hz0 hz1 hz2 (.slice none 0 0) 0 [] rfl (World.ownsRow_nil _ _ _ _) s rfl ?s1 ?s2 hb1.size ?_))
  case s1 => unfold maxLen; omega
  case s2 => omega
  intro v2 w2 hown2 hgrow2 _
  have hb2 : Below w.heap.size w w2 := hb1.grown hgrow2 hb1.size (fun r e => by simp [Value.ownBlock] at e)
  go_wp2_with (at_builtin; refine wpList_append_own _ rfl (.tmp 19) (.tmp 20) 24 rfl w.heap.size 5 i0 (.int .u8 0) 1 1 Tryd.underlying24 hi hz0 hz1 hz2 rfl (by decide) _ _ _ rfl hown2 ad 0 cap [] rfl rfl (fun j u hj => by simp at hj) (fun u hu => by cases hu) ?t3 ?t4 hb2.size ?_)
  case t3 => unfold maxLen; omega
  case t4 => omega
  intro v3 w3 hown3 hgrow3 _
  have hb3 : Below w.heap.size w w3 := hb2.grown hgrow3 hb2.size (fun r e => (hown2.lt r e).1)
  obtain ⟨a3, n3, c3, rfl, hn3⟩ : ∃ a n c, v3 = .slice a n c ∧ n ≤ 0 := by
    have hz := HN.out
    rcases hown3.2 with ⟨hv, _⟩ | ⟨g, cap, cur, hv, _⟩
    · exact ⟨_, _, _, hv, Nat.le_refl _⟩
    · exact ⟨_, _, _, hv, by omega⟩
  have hb4 := hb3
  clear hown2 hgrow2 hown3 hgrow3 hb3
  have hslm : SlcAt w3 w3.heap.size (.slice a3 n3 c3) [] := by
    obtain rfl : n3 = 0 := by omega
    exact .inl ⟨a3, c3, rfl, rfl⟩
  go_wp2_with fail
  rw [conv_bytes]
  simp only [Result.andThen]
  rw [Oper.upon_value]
  have hs5 := bytesWorld_size w3 s
  go_wp2_with fail
  have hw5b := bytesWorld_below w3.heap.size w3 s (Nat.le_refl _)
  have hsl5 := bytesWorld_slc w3 s (w3.heap.size + 1) (by omega)
  obtain ⟨w5, hw5⟩ : ∃ w5, bytesWorld w3 s = w5 := ⟨_, rfl⟩
  obtain ⟨cp5, hcp5⟩ : ∃ cp5, bytesCap w3 s = cp5 := ⟨_, rfl⟩
  rw [hw5] at hs5 hw5b hsl5 ⊢
  rw [hcp5] at hsl5 ⊢
  obtain ⟨w6, hw6⟩ : ∃ w6, w5.alloc (Obj.cells #[Value.slice (some ad) 0 cap, Value.slice a3 n3 c3, Value.slice (some ⟨w3.heap.size, 0, none⟩) s.size cp5] 24) = w6 := ⟨_, rfl⟩
  have hh6 : w6.heap[w3.heap.size + 1]? = some (Obj.cells #[Value.slice (some ad) 0 cap, Value.slice a3 n3 c3, Value.slice (some ⟨w3.heap.size, 0, none⟩) s.size cp5] 24 (0, 0)) := by
    rw [← hw6, ← hs5]; exact heap_alloc_new w5 _
  have hb6 : Below w.heap.size w w6 := by
    rw [← hw6]
    exact (hb4.trans (hw5b.mono hb4.size)).alloc (by have := hb4.size; omega) _
  have hb46 : Below w3.heap.size w3 w6 := by rw [← hw6]; exact hw5b.alloc (by omega) _
  have hb56 : Below w5.heap.size w5 w6 := by rw [← hw6]; exact (Below.refl _ w5).alloc (Nat.le_refl _) _
  have hT6 := Utf8Tabs_below HT.out hb6
  have hlt6 : w3.heap.size + 1 < w6.heap.size := (Array.getElem?_eq_some_iff.1 hh6).1
  have hx : ∀ k, k < 3 → ∃ a cp n, w6.cell? ⟨w3.heap.size + 1, k, none⟩ = some (.slice a n cp) ∧ ∃ P N, Looks w6 (.slice a n cp) n P N := fun k hk => by
    match k, hk with
    | 0, _ => exact ⟨_, _, _, by rw [cell_of_row _ _ _ _ _ _ hh6]; rfl, looks w6 hT6 _ [] (by simp) (HS.out.below hb6 hb6.size)⟩
    | 1, _ =>
      have h := looks w6 hT6 _ [] (by simp) (hslm.below hb46 hb46.size)
      rw [show ([] : List UInt8).length = n3 from by simp; omega] at h
      exact ⟨_, _, _, by rw [cell_of_row _ _ _ _ _ _ hh6]; rfl, h⟩
    | 2, _ =>
      have h := looks w6 hT6 _ s.data.toList (by rw [sizeB]; omega) (hsl5.below (n' := w6.heap.size) (hb56.mono (by omega)) (by omega))
      rw [sizeB] at h
      exact ⟨_, _, _, by rw [cell_of_row _ _ _ _ _ _ hh6]; rfl, h⟩
  rw [hw6]
  have HX2 := Lib.hid hx
  clear hx hw6 hT6 hsl5 hslm hcp5 hw5 hh6 hb46 hb56
  go_loopw [41] (fun i wr => ∃ k : Nat, k ≤ 3 ∧ i = .int .i64 k ∧ Below w6.heap.size w6 wr) (fun i _ => 3 - (intOf i).toNat)
  case atStart => exact ⟨0, by omega, rfl, Below.refl _ _⟩
  case round =>
    obtain ⟨k, hk, rfl, hbr⟩ := hrel
    by_cases hk3 : k < 3
    · obtain ⟨a, cp, n, hcx, P, N, hL⟩ := HX2.out k hk3
      have hcr : wr.cell? ⟨w3.heap.size + 1, k, none⟩ = some (.slice a n cp) := (hbr.cell (p := ⟨w3.heap.size + 1, k, none⟩) hlt6).trans hcx
      have hps : ((P.size : Int) != (n : Int)) = false := by rw [hL.size]; simp
      have HL := Lib.hid hL
      clear hcx hL
      go_wp2_with fail
      refine (HL.out.first _ hbr).mono ?_
      rintro e wa ⟨rfl, hba⟩
      go_wp2_with fail
      refine (HL.out.second _ (bstep hbr hba)).mono ?_
      rintro e wb ⟨rfl, hbb⟩
      go_wp2_with fail
      rw [conv_bytes]
      simp only [Result.andThen]
      rw [Oper.upon_value]
      go_wp2_with fail
      refine (HL.out.third _ (bstep (bstep hbr hba) hbb)).mono ?_
      rintro e wc ⟨rfl, hbc⟩
      go_wp2
      go_roundw
      case rel => exact ⟨k + 1, by omega, by simp, bstep (bstep (bstep hbr hba) hbb) hbc⟩
      case measure => simp [intOf]; omega
    · go_wp2
      go_ret
      exact ⟨rfl, hb6.trans (hbr.mono hb6.size)⟩

set_option maxRecDepth 100000 in
set_option maxHeartbeats 2000000 in
theorem lawRepairs_nil0 (s : ByteArray) (c : UInt8) (w : World) (hT : Tabs w) (hN : s.size = 0) :
    Calls Tryd.prog 4 #[.slice none 0 0, .string s, .int .u8 c.toNat] w fun e w' => e = .returned (.bool true) ∧ Below w.heap.size w w' := by
  obtain ⟨i0, hi, hz0, hz1, hz2⟩ := info_parts infoByte
  have HT := Lib.hid hT
  have HN := Lib.hid hN
  have hle : s.size ≤ 1048576 := by omega
  clear hT hN
  have HS := Lib.hid (show SlcAt w w.heap.size (.slice none 0 0) [] from .inl ⟨none, 0, rfl, rfl⟩)
  go_enter Tryd.func4, Tryd.ntmps4
  go_wp2_with (first
    | (go_at_call 9; refine (awake_any w HT.out).mono ?_; rintro e w1 ⟨rfl, hb1⟩)
    | (at_builtin; refine Lib.wpList_append_own_string _ rfl (.const (.slice none 0 0)) (.tmp 18) 24 9 rfl w.heap.size 5 i0 Tryd.underlying24 Tryd.underlying9 hi hz0 hz1 hz2 (.slice none 0 0) 0 [] rfl (World.ownsRow_nil _ _ _ _) s rfl ?s1 ?s2 hb1.size ?_))
  case s1 => unfold maxLen; omega
  case s2 => omega
  intro v2 w2 hown2 hgrow2 _
  have hb2 : Below w.heap.size w w2 := hb1.grown hgrow2 hb1.size (fun r e => by simp [Value.ownBlock] at e)
  obtain ⟨a3, n3, c3, rfl, hn3⟩ : ∃ a n c, v2 = .slice a n c ∧ n ≤ 0 := by
    have hz := HN.out
    rcases hown2.2 with ⟨hv, _⟩ | ⟨g, cap, cur, hv, _⟩
    · exact ⟨_, _, _, hv, Nat.le_refl _⟩
    · exact ⟨_, _, _, hv, by omega⟩
  go_wp2_with (at_builtin; refine wpList_append_own_none rfl (.tmp 19) (.tmp 20) 24 rfl w.heap.size 5 i0 1 Tryd.underlying24 hi _ _ _ rfl hown2 rfl ?_)
  have hb4 := hb2
  clear hown2 hgrow2 hb2
  have hslm : SlcAt w2 w2.heap.size (.slice a3 n3 c3) [] := by
    obtain rfl : n3 = 0 := by omega
    exact .inl ⟨a3, c3, rfl, rfl⟩
  go_wp2_with fail
  rw [conv_bytes]
  simp only [Result.andThen]
  rw [Oper.upon_value]
  have hs5 := bytesWorld_size w2 s
  go_wp2_with fail
  have hw5b := bytesWorld_below w2.heap.size w2 s (Nat.le_refl _)
  have hsl5 := bytesWorld_slc w2 s (w2.heap.size + 1) (by omega)
  obtain ⟨w5, hw5⟩ : ∃ w5, bytesWorld w2 s = w5 := ⟨_, rfl⟩
  obtain ⟨cp5, hcp5⟩ : ∃ cp5, bytesCap w2 s = cp5 := ⟨_, rfl⟩
  rw [hw5] at hs5 hw5b hsl5 ⊢
  rw [hcp5] at hsl5 ⊢
  obtain ⟨w6, hw6⟩ : ∃ w6, w5.alloc (Obj.cells #[Value.slice none 0 0, Value.slice a3 n3 c3, Value.slice (some ⟨w2.heap.size, 0, none⟩) s.size cp5] 24) = w6 := ⟨_, rfl⟩
  have hh6 : w6.heap[w2.heap.size + 1]? = some (Obj.cells #[Value.slice none 0 0, Value.slice a3 n3 c3, Value.slice (some ⟨w2.heap.size, 0, none⟩) s.size cp5] 24 (0, 0)) := by
    rw [← hw6, ← hs5]; exact heap_alloc_new w5 _
  have hb6 : Below w.heap.size w w6 := by
    rw [← hw6]
    exact (hb4.trans (hw5b.mono hb4.size)).alloc (by have := hb4.size; omega) _
  have hb46 : Below w2.heap.size w2 w6 := by rw [← hw6]; exact hw5b.alloc (by omega) _
  have hb56 : Below w5.heap.size w5 w6 := by rw [← hw6]; exact (Below.refl _ w5).alloc (Nat.le_refl _) _
  have hT6 := Utf8Tabs_below HT.out hb6
  have hlt6 : w2.heap.size + 1 < w6.heap.size := (Array.getElem?_eq_some_iff.1 hh6).1
  have hx : ∀ k, k < 3 → ∃ a cp n, w6.cell? ⟨w2.heap.size + 1, k, none⟩ = some (.slice a n cp) ∧ ∃ P N, Looks w6 (.slice a n cp) n P N := fun k hk => by
    match k, hk with
    | 0, _ => exact ⟨_, _, _, by rw [cell_of_row _ _ _ _ _ _ hh6]; rfl, looks w6 hT6 _ [] (by simp) (HS.out.below hb6 hb6.size)⟩
    | 1, _ =>
      have h := looks w6 hT6 _ [] (by simp) (hslm.below hb46 hb46.size)
      rw [show ([] : List UInt8).length = n3 from by simp; omega] at h
      exact ⟨_, _, _, by rw [cell_of_row _ _ _ _ _ _ hh6]; rfl, h⟩
    | 2, _ =>
      have h := looks w6 hT6 _ s.data.toList (by rw [sizeB]; omega) (hsl5.below (n' := w6.heap.size) (hb56.mono (by omega)) (by omega))
      rw [sizeB] at h
      exact ⟨_, _, _, by rw [cell_of_row _ _ _ _ _ _ hh6]; rfl, h⟩
  rw [hw6]
  have HX2 := Lib.hid hx
  clear hx hw6 hT6 hsl5 hslm hcp5 hw5 hh6 hb46 hb56
  go_loopw [41] (fun i wr => ∃ k : Nat, k ≤ 3 ∧ i = .int .i64 k ∧ Below w6.heap.size w6 wr) (fun i _ => 3 - (intOf i).toNat)
  case atStart => exact ⟨0, by omega, rfl, Below.refl _ _⟩
  case round =>
    obtain ⟨k, hk, rfl, hbr⟩ := hrel
    by_cases hk3 : k < 3
    · obtain ⟨a, cp, n, hcx, P, N, hL⟩ := HX2.out k hk3
      have hcr : wr.cell? ⟨w2.heap.size + 1, k, none⟩ = some (.slice a n cp) := (hbr.cell (p := ⟨w2.heap.size + 1, k, none⟩) hlt6).trans hcx
      have hps : ((P.size : Int) != (n : Int)) = false := by rw [hL.size]; simp
      have HL := Lib.hid hL
      clear hcx hL
      go_wp2_with fail
      refine (HL.out.first _ hbr).mono ?_
      rintro e wa ⟨rfl, hba⟩
      go_wp2_with fail
      refine (HL.out.second _ (bstep hbr hba)).mono ?_
      rintro e wb ⟨rfl, hbb⟩
      go_wp2_with fail
      rw [conv_bytes]
      simp only [Result.andThen]
      rw [Oper.upon_value]
      go_wp2_with fail
      refine (HL.out.third _ (bstep (bstep hbr hba) hbb)).mono ?_
      rintro e wc ⟨rfl, hbc⟩
      go_wp2
      go_roundw
      case rel => exact ⟨k + 1, by omega, by simp, bstep (bstep (bstep hbr hba) hbb) hbc⟩
      case measure => simp [intOf]; omega
    · go_wp2
      go_ret
      exact ⟨rfl, hb6.trans (hbr.mono hb6.size)⟩

theorem lawRepairs (sv : Value) (l : List UInt8) (s : ByteArray) (c : UInt8) (w : World) (hT : Tabs w) (hlen : l.length + s.size ≤ 1048576) (h : ArgB w w.heap.size sv l) :
    Calls Tryd.prog 4 #[sv, .string s, .int .u8 c.toNat] w fun e w' => e = .returned (.bool true) ∧ Below w.heap.size w w' := by
  have hS := h.slc
  by_cases hN : 0 < s.size + l.length
  · rcases h with ⟨rfl, rfl⟩ | ⟨ad, cap, rfl, hcap, hc, hp⟩
    · exact lawRepairs_nil s c w hT (by simpa using hlen) (by simpa using hN)
    · exact lawRepairs_some ad cap l s c w hT hlen hN hc hS
  · obtain rfl : l = [] := List.eq_nil_of_length_eq_zero (by omega)
    rcases h with ⟨rfl, _⟩ | ⟨ad, cap, rfl, hcap, hc, hp⟩
    · exact lawRepairs_nil0 s c w hT (by omega)
    · exact lawRepairs_some0 ad cap s c w hT (by omega)
end Go.Proofs.YtkopibaoolaelaaDoor
