/- Package matcher: emit. Package matcher: a node without kids is compiled; a sequence of one node. -/
import Derived.Test.YtfkgicakiapmaaaMnVa
import Derived.Test.YtfkgicakiapmaaaMlVa
import Derived.RangeFuncNested
import Derived.RangeFuncLeaves
import Derived.OwnWalkIn
import Derived.LoopIn
namespace Go.Proofs.Ytfkgicakiapmaaa
open Go Go.RowKit

def codeC (l : List InsV) : List Value := (l.map insC).flatten
theorem codeC_snoc (l : List InsV) (x : InsV) : codeC (l ++ [x]) = codeC l ++ insC x := by unfold codeC; simp
theorem infoIns : (Try.prog.info? 129).map (fun i => (i.zero, i.size, i.bytes)) = some (some (.agg #[.int .i64 0, .int .i64 0, .int .i64 0, .int .u64 0, .int .u64 0, .int .u64 0, .int .u64 0, .int .i64 0]), 8, 64) := by kernel_rfl
theorem one_insC (x : InsV) : ∀ u ∈ insC x, u.oneCell' = true := by
  intro u hu
  simp only [insC, List.mem_cons, List.not_mem_nil, or_false] at hu
  rcases hu with rfl | rfl | rfl | rfl | rfl | rfl | rfl | rfl <;> rfl
/-- A program that is being compiled. -/
structure PrAt (pb base : Nat) (code : List InsV) (cv : Value) (st : Int) (w : World) : Prop where
  p : BkAt pb 115 #[cv, .int .i64 st, .slice none 0 0] w
  r : w.ownsRow base 129 8 cv code.length (codeC code)
theorem PrAt.below {pb base : Nat} {code : List InsV} {cv : Value} {st : Int} {w w' : World} (h : PrAt pb base code cv st w) (k : Below w.heap.size w w') : PrAt pb base code cv st w' := ⟨h.p.below k, row_below h.r k⟩

set_option maxRecDepth 100000 in
set_option maxHeartbeats 2000000 in
theorem emit_any (pb base : Nat) (code : List InsV) (cv : Value) (st : Int) (o n t s0 s1 s2 s3 c : Int) (x : InsV) (hx : insC x = [.int .i64 o, .int .i64 n, .int .i64 t, .int .u64 s0, .int .u64 s1, .int .u64 s2, .int .u64 s3, .int .i64 c]) (w : World) (h : PrAt pb base code cv st w) (hl : code.length ≤ 4001) (hb : base ≤ w.heap.size) :
    Calls Try.prog 54 #[.pointer (some ⟨pb, 0, none⟩), .agg #[.int .i64 o, .int .i64 n, .int .i64 t, .int .u64 s0, .int .u64 s1, .int .u64 s2, .int .u64 s3, .int .i64 c]] w fun e w' => ∃ cv', e = .returned (.int .i64 (code.length : Int)) ∧ PrAt pb base (code ++ [x]) cv' st w' ∧ ChP (fun k => k = pb ∨ cv.ownBlock = some k) w w' ∧ (cv'.ownBlock = cv.ownBlock ∨ ∃ k, cv'.ownBlock = some k ∧ w.heap.size ≤ k) := by
  obtain ⟨i0, hi, hz0, hz1, hz2⟩ := info_parts infoIns
  obtain ⟨va, vn, vc, hve⟩ := row_slice h.r
  obtain ⟨O1, hO1⟩ : ∃ y, Obj.cells #[.int .i64 o, .int .i64 n, .int .i64 t, .int .u64 s0, .int .u64 s1, .int .u64 s2, .int .u64 s3, .int .i64 c] 129 = y := ⟨_, rfl⟩
  have hk1 : BkAt w.heap.size 129 #[.int .i64 o, .int .i64 n, .int .i64 t, .int .u64 s0, .int .u64 s1, .int .u64 s2, .int .u64 s3, .int .i64 c] (w.alloc O1) := by rw [← hO1]; exact BkAt.new _ _ _
  have hk2 : BkAt (w.heap.size + 1) 129 #[.int .i64 o, .int .i64 n, .int .i64 t, .int .u64 s0, .int .u64 s1, .int .u64 s2, .int .u64 s3, .int .i64 c] ((w.alloc O1).alloc (.cells #[.int .i64 o, .int .i64 n, .int .i64 t, .int .u64 s0, .int .u64 s1, .int .u64 s2, .int .u64 s3, .int .i64 c] 129)).drew := by
    have q := BkAt.new 129 #[.int .i64 o, .int .i64 n, .int .i64 t, .int .u64 s0, .int .u64 s1, .int .u64 s2, .int .u64 s3, .int .i64 c] (w.alloc O1)
    rw [World.size_alloc] at q
    exact q
  have hB : Below w.heap.size w ((w.alloc O1).alloc (.cells #[.int .i64 o, .int .i64 n, .int .i64 t, .int .u64 s0, .int .u64 s1, .int .u64 s2, .int .u64 s3, .int .i64 c] 129)).drew := (bl_trans' (below_new _ _) (below_new _ _)).drew
  have hpl := h.p.lt
  have c0 : (w.alloc O1).cell? ⟨pb, 0, none⟩ = some cv := ((below_new w O1).cell (p := ⟨pb, 0, none⟩) hpl).trans (h.p.cell 0)
  have k0 : (w.alloc O1).cell? ⟨w.heap.size, 0, none⟩ = some (.int .i64 o) := hk1.cell 0
  have k1 : (w.alloc O1).cell? ⟨w.heap.size, 1, none⟩ = some (.int .i64 n) := hk1.cell 1
  have k2 : (w.alloc O1).cell? ⟨w.heap.size, 2, none⟩ = some (.int .i64 t) := hk1.cell 2
  have k3 : (w.alloc O1).cell? ⟨w.heap.size, 3, none⟩ = some (.int .u64 s0) := hk1.cell 3
  have k4 : (w.alloc O1).cell? ⟨w.heap.size, 4, none⟩ = some (.int .u64 s1) := hk1.cell 4
  have k5 : (w.alloc O1).cell? ⟨w.heap.size, 5, none⟩ = some (.int .u64 s2) := hk1.cell 5
  have k6 : (w.alloc O1).cell? ⟨w.heap.size, 6, none⟩ = some (.int .u64 s3) := hk1.cell 6
  have k7 : (w.alloc O1).cell? ⟨w.heap.size, 7, none⟩ = some (.int .i64 c) := hk1.cell 7
  have hrun : ∃ v' w', (Builtin.append_ #[113, 113] 113 #[cv, .slice (some ⟨w.heap.size + 1, 0, none⟩) 1 1]).run Try.prog ((w.alloc O1).alloc (.cells #[.int .i64 o, .int .i64 n, .int .i64 t, .int .u64 s0, .int .u64 s1, .int .u64 s2, .int .u64 s3, .int .i64 c] 129)).drew = .ok v' w' ∧
      (w'.ownsRow base 129 8 v' (code.length + 1) (codeC (code ++ [x])) ∧ ((w.alloc O1).alloc (.cells #[.int .i64 o, .int .i64 n, .int .i64 t, .int .u64 s0, .int .u64 s1, .int .u64 s2, .int .u64 s3, .int .i64 c] 129)).drew.grownBy w' cv.ownBlock ∧ (v'.ownBlock = cv.ownBlock ∨ ∃ k, v'.ownBlock = some k ∧ w.heap.size ≤ k)) := by
    obtain ⟨v', w', hr, h1, h2, -, h4⟩ := run_append_own_at (P := Try.prog) ((w.alloc O1).alloc (.cells #[.int .i64 o, .int .i64 n, .int .i64 t, .int .u64 s0, .int .u64 s1, .int .u64 s2, .int .u64 s3, .int .i64 c] 129)).drew base 113 113 129 i0 _ 8 64 Try.underlying113 hi hz0 hz1 hz2 rfl (by decide) cv code.length (codeC code) (row_below h.r hB) ⟨w.heap.size + 1, 0, none⟩ 1 1 (insC x) rfl
      (fun j u hj => by rw [Addr.add_lit, Nat.zero_add]; refine (hk2.cell j).trans ?_; rw [hx] at hj; simpa using hj) (one_insC x) (by unfold maxLen; omega) (by omega) (Nat.le_trans hb hB.size)
    refine ⟨v', w', hr, by rw [codeC_snoc]; exact h1, h2, ?_⟩
    rcases h4 with e | e
    · exact .inl e
    · exact .inr ⟨_, e, hB.size⟩
  have hst : ∀ v' w', (w'.ownsRow base 129 8 v' (code.length + 1) (codeC (code ++ [x])) ∧ ((w.alloc O1).alloc (.cells #[.int .i64 o, .int .i64 n, .int .i64 t, .int .u64 s0, .int .u64 s1, .int .u64 s2, .int .u64 s3, .int .i64 c] 129)).drew.grownBy w' cv.ownBlock ∧ (v'.ownBlock = cv.ownBlock ∨ ∃ k, v'.ownBlock = some k ∧ w.heap.size ≤ k)) →
      (∃ g k, v' = .slice (some ⟨g, 0, none⟩) (code.length + 1) k) ∧ w'.cell? ⟨pb, 0, none⟩ = some cv ∧ w'.frozen? ⟨pb, 0, none⟩ = false ∧ PrAt pb base (code ++ [x]) v' st (w'.setCell ⟨pb, 0, none⟩ v') ∧ ChP (fun k => k = pb ∨ cv.ownBlock = some k) w (w'.setCell ⟨pb, 0, none⟩ v') := fun v' w' hq => by
    obtain ⟨h1, h2, h3⟩ := hq
    have hp1 := h.p.below hB
    have hch : ChP (fun k => k = pb ∨ cv.ownBlock = some k) w w' := (ChP.ofBelow hB : ChP (fun k => k = pb ∨ cv.ownBlock = some k) w _).trans (ChP.grown h2) (fun i _ e => .inr e)
    have hp2 : BkAt pb 115 #[cv, .int .i64 st, .slice none 0 0] w' := hp1.ch (ChP.grown h2) (fun e => row_ne h.r h.p (by decide) e rfl)
    refine ⟨ownsRow_succ h1, hp2.cell 0, hp2.free 0, ⟨hp2.set 0 v', ?_⟩, hch.set pb 0 v' (.inl rfl)⟩
    have h5 : w'.ownsRow base 129 8 v' (code ++ [x]).length (codeC (code ++ [x])) := by rw [List.length_append]; exact h1
    exact row_ch h5 ((ChP.refl (fun k => k = pb) w').set pb 0 v' rfl) (fun g hg e => row_ne h5 hp2 (by decide) hg e)
  have H := Lib.hid (And.intro hrun hst)
  subst hve
  have hl2 : (code.length : Int) ≤ 4001 := by omega
  have hw1 : IntKind.i64.wrap ((code.length : Int) + 1 - 1) = (code.length : Int) := by rw [show (code.length : Int) + 1 - 1 = (code.length : Int) by omega]; exact IntWalk.i64_in _ (by omega)
  have hw2 : IntKind.i64.wrap (code.length : Int) = (code.length : Int) := IntWalk.i64_in _ (by omega)
  clear hrun hst h hk1 hk2 hB hl hx
  go_enter Try.func54, Try.ntmps54
  go_wp2_with fail
  clear hO1
  go_region_law ((first
    | (refine step_append_run rfl (.tmp 9) (.tmp 11) 113 rfl rfl rfl H.out.1 ?_
       rintro v' w3 hq
       obtain ⟨⟨g3, e3, rfl⟩, d0, f0, hp3, hc3⟩ := H.out.2 _ _ hq
       have HH := Lib.hid (And.intro hp3 (And.intro hc3 hq.2.2))
       clear hq hp3 hc3)
    | fail))
  all_goals
    have q0 : (w3.setCell ⟨pb, 0, none⟩ (.slice (some ⟨g3, 0, none⟩) (code.length + 1) e3)).cell? ⟨pb, 0, none⟩ = some (.slice (some ⟨g3, 0, none⟩) (code.length + 1) e3) := HH.out.1.p.cell 0
    obtain ⟨W4, hW4⟩ : ∃ y, w3.setCell ⟨pb, 0, none⟩ (.slice (some ⟨g3, 0, none⟩) (code.length + 1) e3) = y := ⟨_, rfl⟩
    rw [hW4] at HH q0 ⊢
    clear hW4 d0 f0 H
    go_wp2_with fail
    go_ret
    refine ⟨_, ?_, HH.out.1, HH.out.2.1, HH.out.2.2⟩
    simp
end Go.Proofs.Ytfkgicakiapmaaa

namespace Go.Proofs.Ytfkgicakiapmaaa
open Go Go.RowKit
attribute [local go_sem] Oper.semAt_some

/-- The instruction of a node without kids. -/
def InsLf (op : Int) (rs : List (Nat × Nat)) (next : Nat) (x : InsV) : Prop :=
  x.next = next ∧ set64 x.set ∧ ((op = 1 ∧ x.op = 1 ∧ ∀ c, c < 256 → hasT x.set c = anyRg rs c) ∨ (op = 6 ∧ x.op = 2) ∨ (op = 7 ∧ x.op = 3))
/-- What node leaves. -/
def NdOut (pb base : Nat) (code : List InsV) (cv : Value) (st : Int) (op : Int) (rs : List (Nat × Nat)) (next : Nat) (w : World) (e : Ending) (w' : World) : Prop :=
  ∃ cv' x, e = .returned (.int .i64 (code.length : Int)) ∧ InsLf op rs next x ∧ PrAt pb base (code ++ [x]) cv' st w' ∧ ChP (fun k => k = pb ∨ cv.ownBlock = some k) w w'

set_option maxRecDepth 100000 in
set_option maxHeartbeats 2000000 in
theorem node_leaf (pb base : Nat) (code : List InsV) (cv : Value) (st : Int) (op : Int) (ho : op = 1 ∨ op = 6 ∨ op = 7) (rs : List (Nat × Nat)) (ra : Option Addr) (rc next : Nat) (w : World) (h : PrAt pb base code cv st w) (hl : code.length ≤ 4001) (hb : base ≤ w.heap.size) (hr : RangesIn 0 w (.slice ra rs.length rc) rs) :
    Calls Try.prog 63 #[.pointer (some ⟨pb, 0, none⟩), .agg (ndA op ra rs.length rc), .int .i64 (next : Int)] w (NdOut pb base code cv st op rs next w) := by
  have hb1 := below_new w (.cells (ndA op ra rs.length rc) 27)
  have h1 := h.below hb1
  have hr1 := hr.keeps (keeps_below (lo := 0) hb1)
  rcases ho with rfl | rfl | rfl
  · have hs := setOf_any rs _ _ hr1
    have H := Lib.hid (And.intro hs (And.intro h1 (And.intro hb1 (And.intro hl hb))))
    clear hs h1 hb1 hl hb h hr hr1
    unfold ndA at H ⊢
    go_enter Try.func63, Try.ntmps63
    go_wp2_with fail
    refine H.out.1.mono ?_
    rintro e w1 ⟨s, rfl, h64, hset, hb2⟩
    have HE := Lib.hid (emit_any pb base code cv st 1 (next : Int) 0 (s 0 : Int) (s 1 : Int) (s 2 : Int) (s 3 : Int) 0 ⟨1, next, 0, s, 0⟩ rfl w1 (H.out.2.1.below hb2) H.out.2.2.2.1 (Nat.le_trans H.out.2.2.2.2 (Nat.le_trans H.out.2.2.1.size hb2.size)))
    have HB := Lib.hid (And.intro h64 (And.intro hset (bl_trans' H.out.2.2.1 hb2)))
    clear h64 hset hb2
    unfold wdA
    go_wp2_with fail
    refine HE.out.mono ?_
    rintro e w2 ⟨cv', rfl, hp, hc, hv⟩
    have HP := Lib.hid (And.intro hp hc)
    clear hp hc hv
    go_wp2
    go_ret
    exact ⟨cv', ⟨1, next, 0, s, 0⟩, rfl, ⟨rfl, HB.out.1, .inl ⟨rfl, rfl, HB.out.2.1⟩⟩, HP.out.1, (ChP.ofBelow HB.out.2.2 : ChP (fun k => k = pb ∨ cv.ownBlock = some k) w w1).trans HP.out.2 (fun i _ q => q)⟩
  · have hs := emit_any pb base code cv st 2 (next : Int) 0 0 0 0 0 0 ⟨2, next, 0, fun _ => 0, 0⟩ rfl _ h1 hl (Nat.le_trans hb hb1.size)
    have H := Lib.hid (And.intro hs hb1)
    clear hs h1 hb1 hl hb h hr hr1
    unfold ndA at H ⊢
    go_enter Try.func63, Try.ntmps63
    go_wp2_with fail
    refine H.out.1.mono ?_
    rintro e w2 ⟨cv', rfl, hp, hc, hv⟩
    have HP := Lib.hid (And.intro hp hc)
    clear hp hc hv
    go_wp2
    go_ret
    exact ⟨cv', ⟨2, next, 0, fun _ => 0, 0⟩, rfl, ⟨rfl, fun _ => by show (0 : Nat) < _; decide, .inr (.inl ⟨rfl, rfl⟩)⟩, HP.out.1, (ChP.ofBelow H.out.2 : ChP (fun k => k = pb ∨ cv.ownBlock = some k) w _).trans HP.out.2 (fun i _ q => q)⟩
  · have hs := emit_any pb base code cv st 3 (next : Int) 0 0 0 0 0 0 ⟨3, next, 0, fun _ => 0, 0⟩ rfl _ h1 hl (Nat.le_trans hb hb1.size)
    have H := Lib.hid (And.intro hs hb1)
    clear hs h1 hb1 hl hb h hr hr1
    unfold ndA at H ⊢
    go_enter Try.func63, Try.ntmps63
    go_wp2_with fail
    refine H.out.1.mono ?_
    rintro e w2 ⟨cv', rfl, hp, hc, hv⟩
    have HP := Lib.hid (And.intro hp hc)
    clear hp hc hv
    go_wp2
    go_ret
    exact ⟨cv', ⟨3, next, 0, fun _ => 0, 0⟩, rfl, ⟨rfl, fun _ => by show (0 : Nat) < _; decide, .inr (.inr ⟨rfl, rfl⟩)⟩, HP.out.1, (ChP.ofBelow H.out.2 : ChP (fun k => k = pb ∨ cv.ownBlock = some k) w _).trans HP.out.2 (fun i _ q => q)⟩

/-- What a round of the sequence keeps. -/
def KpS (bs gn : Nat) (W W' : World) : Prop := W'.heap[bs]? = W.heap[bs]? ∧ W'.heap[gn]? = W.heap[gn]?
def bwE (op : Int) (ra : Option Addr) (rn rc : Nat) (_ : Unit) : Array Value := #[.int .i64 0, .agg (ndA op ra rn rc)]
set_option maxRecDepth 100000 in
set_option maxHeartbeats 2000000 in
theorem backward_one (n : Nat) (hn : 1 ≤ n) (bs gn cap : Nat) (op : Int) (ra : Option Addr) (rn rc : Nat) (w : World) (hs : Boxed w bs 25 (.slice (some ⟨gn, 0, none⟩) 1 cap)) (hg : BkAt gn 27 (ndA op ra rn rc) w) :
    SeqStopsK Fence.wide n Try.prog 74 #[.pointer (some ⟨bs, 0, none⟩)] (bwE op ra rn rc) (KpS bs gn) (fun xs => xs = [()]) (fun _ => True) 1 w := by
  intro l J Jx W hW hJ hJx hY h0
  have hsW : Boxed W bs 25 (.slice (some ⟨gn, 0, none⟩) 1 cap) := (hW.block _ hs.lt).trans hs
  have hgW := hg.below hW
  obtain ⟨fn, tm, u1, bo, hy, hRd⟩ := hY [] () W h0 (by simp)
  have H := Lib.hid (And.intro hRd (And.intro hsW hgW))
  have b0 : W.cell? ⟨bs, 0, none⟩ = some (.slice (some ⟨gn, 0, none⟩) 1 cap) := hsW.cell
  have g0 : W.cell? ⟨gn, 0, none⟩ = some (.int .i64 op) := hgW.cell 0
  have g1 : W.cell? ⟨gn, 1, none⟩ = some (.slice ra rn rc) := hgW.cell 1
  have g2 : W.cell? ⟨gn, 2, none⟩ = some (.string ⟨#[]⟩) := hgW.cell 2
  have g3 : W.cell? ⟨gn, 3, none⟩ = some (.slice none 0 0) := hgW.cell 3
  have g4 : W.cell? ⟨gn, 4, none⟩ = some (.int .i64 0) := hgW.cell 4
  have g5 : W.cell? ⟨gn, 5, none⟩ = some (.int .i64 0) := hgW.cell 5
  clear hs hg hW hJ hJx hY hRd hsW hgW
  refine callsIn_of_wp Try.func74 rfl trivial ?_ rfl
  simp only [Try.ntmps74, List.size_toArray, List.length_cons, List.length_nil, Nat.reduceAdd, Nat.reduceSub, Array.replicate_succ, Array.replicate_zero, List.push_toArray, List.append_toArray, List.nil_append, List.cons_append]
  unfold bwE ndA at hy
  gi_wp2_with fail
  gi_loopw [3] (fun i wr => (i = .int .i64 0 ∧ wr = W) ∨ (i = .int .i64 (-1) ∧ J [()] wr)) (fun i _ => (intOf i + 1).toNat)
  case atStart => exact .inl ⟨rfl, rfl⟩
  case round =>
    rcases hrel with ⟨rfl, rfl⟩ | ⟨rfl, hj⟩
    · gi_wp2_with fail
      refine H.out.1.mono ?_
      rintro e W3 (⟨rfl, hj, hk⟩ | ⟨rfl, hj⟩)
      · have HJ := Lib.hid hj
        clear hj hk
        gi_wp2
        go_roundw
        case rel => exact .inr ⟨by simp, HJ.out⟩
        case measure => simp [intOf]
      · have HJ := Lib.hid hj
        clear hj
        gi_wp2
        refine bodyPost_ret (results_none rfl _ _ _) rfl ?_
        exact ⟨⟨_, rfl⟩, .inr ⟨_, trivial, HJ.out⟩⟩
    · have HJ := Lib.hid hj
      clear hj
      gi_wp2
      go_end0
      exact ⟨⟨_, rfl⟩, .inl ⟨[()], rfl, HJ.out⟩⟩
end Go.Proofs.Ytfkgicakiapmaaa
