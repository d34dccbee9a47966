/- The contract of package ascii's Fields, at at most 2097152 bytes: a slice of the fields, new; nothing that lay before has turned. -/
import Derived.Test.YtkopibaoolaelaaDoorRepairSeq
import Derived.Test.YtkopibaoolaelaaDoorFieldsB
import Derived.Test.YtkopibaoolaelaaDoorCut
namespace Go.Proofs.YtkopibaoolaelaaDoor
open Go.RowKit Go.Shelf
attribute [local go_sem] Oper.semAt_some

def fEnc (x : List UInt8) : Value := .string ⟨x.toArray⟩
theorem fEnc_cut (s : ByteArray) (a b : Nat) : fEnc ((s.data.toList.take b).drop a) = .string (s.extract a b) := by
  unfold fEnc
  congr 1
  apply bext
  rw [extract_list]

theorem wpListIn_store_row {F : Fence} {n : Nat} {P : Program} {ops : Array Oper} {rest : List Oper} {o : Oper} {a : Act} {w : World} {Q : Exit → Act → World → Prop} (hgd : o.guard = none) (ty : TypeId) (x y : Operand) (ho : o.op = .store ty x y)
    (g : Nat) (cells : Array Value) (hx : a.eval x = .pointer (some ⟨g, 0, none⟩)) (hy : a.eval y = .agg cells)
    (t : TypeId) (old : Array Value) (hg : w.heap[g]? = some (.cells old t (0, 0))) (hi : (P.info? ty).map (·.size) = some cells.size)
    (hold : old.size = cells.size) (h1 : cells.all (·.oneCell') = true)
    (h : wpListIn F n P ops Q rest (a.put o.dst undef) (w.setRow g cells)) : wpListIn F n P ops Q (o :: rest) a w := by
  refine wpListIn_plain hgd fun K hK => ?_
  unfold Oper.wpIn
  refine ⟨?_, ?_⟩
  · simp [Oper.about, ho]
  · rw [Oper.semAt_plain F _ _ (by rw [ho]; intro c hc'; cases hc')]
    unfold execOp
    simp only [ho, hx, hy, Instr.storeAt, Instr.sureAddr, Sem.run_bind, Sem.run_pure, Result.andThen_ok, run_storeVar_row w g t ty old cells hg hi hold h1]
    exact hK _ _ h

/-- What the body of a round leaves: what lay below n, and the tables of classes. -/
def KeepT (n : Nat) (W W' : World) : Prop := Below n W W' ∧ ∀ (k : Nat) (cs : Array Value) (fr : Nat × Nat), W.heap[k]? = some (Obj.cells cs 43 fr) → W'.heap[k]? = some (Obj.cells cs 43 fr)
theorem KeepT.t {n : Nat} {A B C : World} (h : KeepT n A B) (k : KeepT n B C) : KeepT n A C := ⟨h.1.trans k.1, fun i cs fr hi => k.2 i cs fr (h.2 i cs fr hi)⟩
theorem KeepT.b {n : Nat} {w : World} (hn : n ≤ w.heap.size) (W : World) (l : Nat) (o o' : Obj) (hl : w.heap.size ≤ l) (h : W.heap[l]? = some o) (h1 : o.isCells = false) (h2 : o.isWalk = false) : KeepT n W (W.putObj l o') :=
  ⟨belowK_b hn W l o o' hl h h1 h2, fun k cs fr hk => by
    rw [World.putObj_heap_other (fun e => by subst e; rw [h] at hk; cases hk; cases h1)]
    exact hk⟩

set_option maxRecDepth 100000 in
set_option maxHeartbeats 2000000 in
theorem seqF_in (n : Nat) (hn : 1 ≤ n) (lp Bs : Nat) (s : ByteArray) (hlen : s.size ≤ 2097152) (w0 : World) (hbox : Boxed w0 Bs 9 (.string s)) (J Jx : List (List UInt8) → World → Prop)
    (hY : ∀ pre x W, J pre W → pre.length < s.size + 1 → YieldAt Fence.wide (n - 1) Tryd.prog lp #[fEnc x] W fun e W' =>
      (e = .returned (.bool true) ∧ J (pre ++ [x]) W' ∧ KeepT w0.heap.size W W') ∨ (e = .returned (.bool false) ∧ Jx (pre ++ [x]) W'))
    (W : World) (hW : Below w0.heap.size w0 W) (hJ : AbidesFrom W.heap.size J) (h0 : J [] W) :
    CallsIn Fence.wide n Tryd.prog 52 #[.func (.yield lp) #[] #[], .pointer (some ⟨Bs, 0, none⟩)] W fun e W' => (∃ v, e = .returned v) ∧
      ((∃ ys : List (List UInt8), ys = fieldsB s.data.toList ∧ J ys W') ∨ (∃ pre, True ∧ Jx pre W')) := by
  refine callsIn_of_wp Tryd.func52 rfl trivial ?_ rfl
  simp only [Tryd.ntmps52, List.size_toArray, List.length_cons, List.length_nil, Nat.reduceAdd, Nat.reduceSub, Array.replicate_succ, Array.replicate_zero, List.push_toArray, List.append_toArray, List.nil_append, List.cons_append]
  have HY := Lib.hid hY
  have HJ := Lib.hid hJ
  clear hY hJ
  have hbt : ∀ V : World, Below w0.heap.size w0 V → Boxed V Bs 9 (.string s) := fun V h => (h.block Bs hbox.lt).trans hbox
  have hb0 := (hbt W hW).cell
  have HBT := Lib.hid hbt
  clear hbt
  gi_wp2_with (first
    | (refine ⟨trivial, ?_⟩; gi_at_call 33; refine (callsIn_wide.2 (classes_any _)).mono ?_; rintro e w1 ⟨rfl, hb1⟩)
    | (with_reducible refine wpListIn_store_row rfl 43 (.tmp 3) (.tmp 6) rfl w1.heap.size (rowOf cls) rfl rfl 43 (rowOf fun _ => 0) (by rw [← zeroRow]; exact heap_alloc_new _ _) (by rw [rowOf_size]; exact size43) (by rw [rowOf_size, rowOf_size]) (rowOf_one _) ?_
       obtain ⟨w2, hw2⟩ : ∃ w2, (w1.alloc (Obj.cells Tryd.zeroCells43 43)).setRow w1.heap.size (rowOf cls) = w2 := ⟨_, rfl⟩
       have htab : w2.heap[w1.heap.size]? = some (Obj.cells (rowOf cls) 43 (0, 0)) := by
         rw [← hw2]
         exact setRow_heap _ _ _ _ _ _ (heap_alloc_new _ _)
       have hbel : Below W.heap.size W w2 := by
         rw [← hw2]
         exact below_setRow (hb1.alloc hb1.size _) hb1.size _
       rw [hw2]
       have h02 : J [] w2 := HJ.out [] W w2 none h0 (grown_of_below hbel none) (fun r e => by cases e)
       have hW2 : Below w0.heap.size w0 w2 := hW.trans (hbel.mono hW.size)
       obtain ⟨T, hTT⟩ : ∃ T, w1.heap.size = T := ⟨_, rfl⟩
       rw [hTT] at htab ⊢
       have hb2 := (HBT.out w2 hW2).cell
       clear hw2 hTT h0)
    | fail)
  gi_loopw [4, 9] (fun v i wr => ∃ (k f : Nat) (pre : List (List UInt8)), k ≤ s.size ∧ f ≤ k ∧ v = .int .i64 f ∧ i = .int .i64 k ∧ fscan (s.data.toList.take k) = (pre, (s.data.toList.take k).drop f) ∧ J pre wr ∧ Below w0.heap.size w0 wr ∧ W.heap.size ≤ wr.heap.size ∧ wr.heap[T]? = some (Obj.cells (rowOf cls) 43 (0, 0)))
    (fun _ i _ => s.size - (intOf i).toNat)
  case atStart => exact ⟨0, 0, [], by omega, by omega, rfl, rfl, by simp [fscan_nil], h02, hW2, hbel.size, htab⟩
  case round =>
    obtain ⟨k, f, pre, hk, hfk, rfl, rfl, hsc, hJp, hWr, hsz, htb⟩ := hrel
    have hcb := (HBT.out wr hWr).cell
    have hL := sizeB s
    have hpl := fscan_len (s.data.toList.take k)
    rw [hsc, List.length_take, hL] at hpl
    simp only [] at hpl
    have hpre : pre.length < s.size + 1 := by omega
    have HSC := Lib.hid hsc
    clear hsc hpl hL
    by_cases hlt : k < s.size
    · have hclt := UInt8.toNat_lt s[k]
      have hct : wr.cell? ⟨T, s[k].toNat, none⟩ = some (.int .u8 (cls s[k].toNat)) := by
        rw [cell_of_row _ _ _ _ _ _ htb, rowOf_get cls _ hclt]
      have hbits := spcB_bits ⟨s[k].toNat, hclt⟩
      simp only [] at hbits
      have hsn := take_snocB s k hlt
      by_cases hsp : isSp s[k] = true
      · have hb2 : (bits BinOp.and IntKind.u8 (↑(cls s[k].toNat)) 8 == 0) = false := by
          rw [show spcB s[k].toNat = true from hsp, bne_iff_ne] at hbits
          rw [beq_eq_false_iff_ne]
          exact hbits
        have hdr : (s.data.toList.take (k + 1)).drop (k + 1) = [] := List.drop_eq_nil_of_le (by rw [List.length_take]; omega)
        by_cases hf : f < k
        · obtain ⟨x, hx⟩ : ∃ x, (s.data.toList.take k).drop f = x := ⟨_, rfl⟩
          have hxe : fEnc x = .string (s.extract f k) := by rw [← hx, fEnc_cut]
          have hxn : x ≠ [] := by
            intro e
            have := congrArg List.length hx
            rw [e, List.length_drop, List.length_take, sizeB, List.length_nil] at this
            omega
          have hnx : fscan (s.data.toList.take (k + 1)) = (pre ++ [x], (s.data.toList.take (k + 1)).drop (k + 1)) := by
            rw [hdr, hsn, fscan_snoc, HSC.out, fstep_sp hsp, hx, fclose_ne hxn]
          have HNX := Lib.hid hnx
          obtain ⟨fn, tmps, assign, body, hy, hRd⟩ := HY.out pre x wr hJp hpre
          rw [hxe] at hy
          have HRd := Lib.hid hRd
          clear hRd hbits hsn hnx hsp hdr hx hxe hxn
          gi_wp2
          refine HRd.out.mono ?_
          rintro e W3 (⟨rfl, hJ3, hk3⟩ | ⟨rfl, hJx3⟩)
          · have HJ3 := Lib.hid hJ3
            have HK3 := Lib.hid hk3
            clear hJ3 hk3
            gi_wp2
            go_roundw
            case rel => exact ⟨k + 1, k + 1, pre ++ [x], by omega, by omega, by simp, by simp, HNX.out, HJ3.out, hWr.trans HK3.out.1, Nat.le_trans hsz HK3.out.1.size, HK3.out.2 _ _ _ htb⟩
            case measure => simp [intOf]; omega
          · have HJx := Lib.hid hJx3
            clear hJx3
            gi_wp2
            refine bodyPost_ret (results_none rfl _ _ _) rfl ?_
            exact ⟨⟨_, rfl⟩, .inr ⟨_, trivial, HJx.out⟩⟩
        · obtain rfl : f = k := by omega
          have hnx : fscan (s.data.toList.take (f + 1)) = (pre, (s.data.toList.take (f + 1)).drop (f + 1)) := by
            rw [hdr, hsn, fscan_snoc, HSC.out, fstep_sp hsp, List.drop_eq_nil_of_le (by rw [List.length_take]; omega), fclose_nil]
          have HNX := Lib.hid hnx
          clear hbits hsn hnx hsp hdr
          gi_wp2_with (refine wpListIn_skip (by rfl) (by rfl) ?_)
          go_roundw
          case rel => exact ⟨f + 1, f + 1, pre, by omega, by omega, by simp, by simp, HNX.out, hJp, hWr, hsz, htb⟩
          case measure => simp [intOf]; omega
      · have hsf : isSp s[k] = false := by simpa using hsp
        have hb2 : (bits BinOp.and IntKind.u8 (↑(cls s[k].toNat)) 8 == 0) = true := by
          rw [show spcB s[k].toNat = false from hsf, bne_eq_false_iff_eq] at hbits
          rw [beq_iff_eq]
          exact hbits
        have hnx : fscan (s.data.toList.take (k + 1)) = (pre, (s.data.toList.take (k + 1)).drop f) := by
          rw [hsn, fscan_snoc, HSC.out, fstep_no hsf, List.drop_append_of_le_length (by rw [List.length_take, sizeB]; omega)]
        have HNX := Lib.hid hnx
        clear hbits hsn hnx hsp hsf
        gi_wp2
        go_roundw
        case rel => exact ⟨k + 1, f, pre, by omega, by omega, rfl, by simp, HNX.out, hJp, hWr, hsz, htb⟩
        case measure => simp [intOf]; omega
    · obtain rfl : k = s.size := by omega
      have htk : s.data.toList.take s.size = s.data.toList := by rw [← sizeB, List.take_length]
      by_cases hf : f < s.size
      · obtain ⟨x, hx⟩ : ∃ x, (s.data.toList.take s.size).drop f = x := ⟨_, rfl⟩
        have hxe : fEnc x = .string (s.extract f s.size) := by rw [← hx, fEnc_cut]
        have hxn : x ≠ [] := by
          intro e
          have := congrArg List.length hx
          rw [e, List.length_drop, List.length_take, sizeB, List.length_nil] at this
          omega
        have hnx : fieldsB s.data.toList = pre ++ [x] := by
          rw [htk] at hx
          rw [← htk, fieldsB, HSC.out, htk, hx, fclose_ne hxn]
        have HNX := Lib.hid hnx
        obtain ⟨fn, tmps, assign, body, hy, hRd⟩ := HY.out pre x wr hJp hpre
        rw [hxe] at hy
        have HRd := Lib.hid hRd
        clear hRd hnx hx hxe hxn htk
        gi_wp2
        refine HRd.out.mono ?_
        rintro e W3 (⟨rfl, hJ3, hk3⟩ | ⟨rfl, hJx3⟩)
        · have HJ3 := Lib.hid hJ3
          clear hJ3 hk3
          gi_wp2
          go_end0
          exact ⟨⟨_, rfl⟩, .inl ⟨_, HNX.out.symm, HJ3.out⟩⟩
        · have HJx := Lib.hid hJx3
          clear hJx3
          gi_wp2
          go_end0
          exact ⟨⟨_, rfl⟩, .inr ⟨_, trivial, HJx.out⟩⟩
      · have hnx : fieldsB s.data.toList = pre := by
          rw [← htk, fieldsB, HSC.out, List.drop_eq_nil_of_le (by rw [List.length_take]; omega), fclose_nil]
        have HNX := Lib.hid hnx
        clear hnx htk
        gi_wp2
        go_end0
        exact ⟨⟨_, rfl⟩, .inl ⟨_, HNX.out.symm, hJp⟩⟩

/-- **What fields hands back yields the fields.** -/
theorem seqF_stops (n : Nat) (hn : 1 ≤ n) (Bs : Nat) (s : ByteArray) (hlen : s.size ≤ 2097152) (w0 : World) (hbox : Boxed w0 Bs 9 (.string s)) :
    SeqStopsK Fence.wide n Tryd.prog 52 #[.pointer (some ⟨Bs, 0, none⟩)] (fun x => #[fEnc x]) (KeepT w0.heap.size) (fun ys => ys = fieldsB s.data.toList) (fun _ => True) (s.size + 1) w0 :=
  fun lp J Jx W hb hJ _ hY h0 => seqF_in n hn lp Bs s hlen w0 hbox J Jx hY W hb hJ h0

theorem fields_seq (s : ByteArray) (w : World) :
    Calls Tryd.prog 41 #[.string s] w fun e w' => e = .returned (.func (.func 52) #[] #[.pointer (some ⟨w.heap.size, 0, none⟩)]) ∧ w' = w.alloc (.cells #[.string s] 9) := by
  go_enter Tryd.func41, Tryd.ntmps41
  go_wp2
  go_ret
  exact ⟨rfl, rfl⟩
end Go.Proofs.YtkopibaoolaelaaDoor
