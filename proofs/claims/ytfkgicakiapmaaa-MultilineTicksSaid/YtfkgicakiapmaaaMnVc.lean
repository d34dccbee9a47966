/- Package matcher: a sequence of one node without kids. Package matcher: the program of one node without kids. -/
import Derived.Test.YtfkgicakiapmaaaMnVb
import Derived.Test.YtfkgicakiapmaaaMlVa
namespace Go.Proofs.Ytfkgicakiapmaaa
open Go Go.RowKit
attribute [local go_sem] Oper.semAt_some

theorem bk_gr {W W' : World} {row : Option Nat} {b : Nat} {T : TypeId} {cs : Array Value} (h : BkAt b T cs W) (hg : W.grownBy W' row) (hr : ∀ r, row = some r → ∃ o : Obj, W.heap[r]? = some o ∧ o.isCells = false) : BkAt b T cs W' := by
  refine (hg.block b h.lt (fun e => ?_)).trans h
  obtain ⟨o, h1, h2⟩ := hr b e.symm
  have h : W.heap[b]? = _ := h
  rw [h] at h1
  cases h1
  cases h2
theorem row_gr {W W' : World} {row : Option Nat} {base : Nat} {e : TypeId} {size : Nat} {v : Value} {n : Nat} {xs : List Value} (h : W.ownsRow base e size v n xs) (hg : W.grownBy W' row) (hr : ∀ r, row = some r → ∃ o : Obj, W.heap[r]? = some o ∧ o.isCells = false) : W'.ownsRow base e size v n xs := by
  refine h.kept hg ?_
  rcases h.2 with ⟨rfl, _⟩ | ⟨g, cap, cur, rfl, _, hgb, _⟩
  · exact .inl rfl
  · refine .inr fun e => ?_
    obtain ⟨o, h1, h2⟩ := hr g (by simpa [Value.ownBlock] using e.symm)
    rw [hgb] at h1
    cases h1
    cases h2
theorem PrAt.gr {pb base : Nat} {code : List InsV} {cv : Value} {st : Int} {W W' : World} {row : Option Nat} (h : PrAt pb base code cv st W) (hg : W.grownBy W' row) (hr : ∀ r, row = some r → ∃ o : Obj, W.heap[r]? = some o ∧ o.isCells = false) : PrAt pb base code cv st W' := ⟨bk_gr h.p hg hr, row_gr h.r hg hr⟩
theorem ChP.gr {P : Nat → Prop} {a b c : World} {row : Option Nat} (h : ChP P a b) (hg : b.grownBy c row) (hr : ∀ r, row = some r → a.heap.size ≤ r) : ChP P a c :=
  ⟨hg.os.trans h.os, hg.tape.trans h.tape, hg.output.trans h.output, Nat.le_trans h.size hg.size, fun i hi hn => (hg.block i (Nat.lt_of_lt_of_le hi h.size) (fun e => by have := hr i e.symm; omega)).trans (h.block i hi hn)⟩
theorem PrAt.ne {pb base : Nat} {code : List InsV} {cv : Value} {st : Int} {W : World} (h : PrAt pb base code cv st W) {b : Nat} {T : TypeId} {cs : Array Value} (k : BkAt b T cs W) (h1 : T ≠ 115) (h2 : T ≠ 129) : ¬ (b = pb ∨ cv.ownBlock = some b) := by
  rintro (e | e)
  · exact bk_ne k h.p h1 e
  · exact row_ne h.r k h2 e rfl
theorem PrAt.ner {pb base base' : Nat} {code : List InsV} {cv : Value} {st : Int} {W : World} (h : PrAt pb base code cv st W) {e : TypeId} {size n : Nat} {v : Value} {xs : List Value} (k : W.ownsRow base' e size v n xs) (h1 : 115 ≠ e) (h2 : 129 ≠ e) : ∀ g, v.ownBlock = some g → ¬ (g = pb ∨ cv.ownBlock = some g) := by
  rintro g hg (q | q)
  · exact row_ne k h.p h1 hg q
  · obtain ⟨c1, f1, q1, -⟩ := row_type k hg
    obtain ⟨c2, f2, q2, -⟩ := row_type h.r q
    rw [q1] at q2
    injection q2 with q3
    injection q3 with q4 q5
    exact h2 q5.symm
/-- Between the rounds of the sequence. -/
structure SqI (pb base nb qb bs gn cap : Nat) (code : List InsV) (cv : Value) (st op : Int) (rs : List (Nat × Nat)) (ra : Option Addr) (rc next : Nat) (w : World) (pre : List Unit) (W : World) : Prop where
  q : Boxed W qb 137 (.pointer (some ⟨pb, 0, none⟩))
  s : Boxed W bs 25 (.slice (some ⟨gn, 0, none⟩) 1 cap)
  g : BkAt gn 27 (ndA op ra rs.length rc) W
  e : pre = [] → PrAt pb base code cv st W ∧ Boxed W nb 3 (.int .i64 (next : Int))
  y : pre ≠ [] → ∃ cv' x, InsLf op rs next x ∧ PrAt pb base (code ++ [x]) cv' st W ∧ Boxed W nb 3 (.int .i64 (code.length : Int))
  c : ChP (fun k => k = pb ∨ cv.ownBlock = some k) w W
  r : NdAt rs ra rc W
theorem SqI.gr {pb base nb qb bs gn cap : Nat} {code : List InsV} {cv : Value} {st op : Int} {rs : List (Nat × Nat)} {ra : Option Addr} {rc next : Nat} {w W W' : World} {pre : List Unit} {row : Option Nat} (h : SqI pb base nb qb bs gn cap code cv st op rs ra rc next w pre W) (hg : W.grownBy W' row) (hr : ∀ r, row = some r → w.heap.size ≤ r ∧ ∃ o : Obj, W.heap[r]? = some o ∧ o.isCells = false) : SqI pb base nb qb bs gn cap code cv st op rs ra rc next w pre W' := by
  have h2 : ∀ r, row = some r → ∃ o : Obj, W.heap[r]? = some o ∧ o.isCells = false := fun r e => (hr r e).2
  exact ⟨bk_gr h.q hg h2, bk_gr h.s hg h2, bk_gr h.g hg h2, fun e => ⟨(h.e e).1.gr hg h2, bk_gr (h.e e).2 hg h2⟩, fun e => by obtain ⟨cv', x, a, b, c⟩ := h.y e; exact ⟨cv', x, a, b.gr hg h2, bk_gr c hg h2⟩, h.c.gr hg (fun r e => (hr r e).1), row_gr h.r hg h2⟩
def sqF (pb qb nb bs gn cap : Nat) (next : Int) (b y z : Value) : Act :=
  { tmps := #[.pointer (some ⟨pb, 0, none⟩), .slice (some ⟨gn, 0, none⟩) 1 cap, .int .i64 next, .pointer (some ⟨qb, 0, none⟩), undef, .pointer (some ⟨nb, 0, none⟩), .int .i64 0, undef, b, .slice (some ⟨gn, 0, none⟩) 1 cap,
      .func (.func 74) #[] #[.pointer (some ⟨bs, 0, none⟩)], y, z, undef, undef, undef, undef, undef], defers := [] }

set_option maxRecDepth 100000 in
theorem backward_ret (v : Value) (a : Option Addr) (n c : Nat) (hv : v = .slice a n c) (w : World) : Calls Try.prog 62 #[v] w fun e w' => e = .returned (.func (.func 74) #[] #[.pointer (some ⟨w.heap.size, 0, none⟩)]) ∧ w' = w.alloc (.cells #[v] 25) := by
  subst hv
  go_enter Try.func62, Try.ntmps62
  go_wp2
  go_ret
  exact ⟨rfl, rfl⟩

set_option maxRecDepth 100000 in
set_option maxHeartbeats 4000000 in
theorem seq_one (pb base gn cap : Nat) (code : List InsV) (cv : Value) (st : Int) (op : Int) (ho : op = 1 ∨ op = 6 ∨ op = 7) (rs : List (Nat × Nat)) (ra : Option Addr) (rc next : Nat) (w : World) (h : PrAt pb base code cv st w) (hl : code.length ≤ 4001) (hb : base ≤ w.heap.size) (hr : NdAt rs ra rc w) (h256 : ∀ x ∈ rs, x.1 < 256 ∧ x.2 < 256) (hg : BkAt gn 27 (ndA op ra rs.length rc) w) :
    Calls Try.prog 53 #[.pointer (some ⟨pb, 0, none⟩), .slice (some ⟨gn, 0, none⟩) 1 cap, .int .i64 (next : Int)] w (NdOut pb base code cv st op rs next w) := by
  refine (callsIn_wide (n := 4)).1 ?_
  refine callsIn_of_wp_marks Try.func53 rfl trivial ?_ rfl
  simp only [Try.ntmps53, List.size_toArray, List.length_cons, List.length_nil, Nat.reduceAdd, Nat.reduceSub, Array.replicate_succ, Array.replicate_zero, List.push_toArray, List.append_toArray, List.nil_append, List.cons_append]
  have H := Lib.hid (And.intro h (And.intro hl (And.intro hb (And.intro hr hg))))
  clear h hl hb hr hg
  gi_wp2_with (refine ⟨trivial, ?_⟩; gi_at_call 62; refine (callsIn_wide.2 (backward_ret _ _ _ _ rfl _)).mono ?_)
  rintro e w3 ⟨rfl, rfl⟩
  gi_wp2_with fail
  obtain ⟨W0, hW0⟩ : ∃ y, ((w.alloc (.cells #[.pointer (some ⟨pb, 0, none⟩)] 137)).alloc (.cells #[.int .i64 (next : Int)] 3)).alloc (.cells #[.slice (some ⟨gn, 0, none⟩) 1 cap] 25) = y := ⟨_, rfl⟩
  have hb0 : Below w.heap.size w W0 := by rw [← hW0]; exact bl_trans' (bl_trans' (below_new _ _) (below_new _ _)) (below_new _ _)
  have hq0 : Boxed W0 w.heap.size 137 (.pointer (some ⟨pb, 0, none⟩)) := by rw [← hW0]; exact ((Boxed.new _ _ _).alloc _).alloc _
  have hn0 : Boxed W0 (w.heap.size + 1) 3 (.int .i64 (next : Int)) := by
    have q := Boxed.new (w.alloc (.cells #[.pointer (some ⟨pb, 0, none⟩)] 137)) 3 (.int .i64 (next : Int))
    rw [World.size_alloc] at q
    rw [← hW0]
    exact q.alloc _
  have hs0 : Boxed W0 (w.heap.size + 1 + 1) 25 (.slice (some ⟨gn, 0, none⟩) 1 cap) := by
    have q := Boxed.new ((w.alloc (.cells #[.pointer (some ⟨pb, 0, none⟩)] 137)).alloc (.cells #[.int .i64 (next : Int)] 3)) 25 (.slice (some ⟨gn, 0, none⟩) 1 cap)
    rw [World.size_alloc, World.size_alloc] at q
    rw [← hW0]
    exact q
  rw [hW0]
  clear hW0
  obtain ⟨qb, hqb⟩ : ∃ q, w.heap.size = q := ⟨_, rfl⟩
  have hqw : w.heap.size ≤ qb := by omega
  simp only [hqb] at hq0 hn0 hs0 ⊢
  clear hqb
  obtain ⟨nb, hnb⟩ : ∃ q, qb + 1 = q := ⟨_, rfl⟩
  have hnw : w.heap.size ≤ nb := by omega
  have hne1 : nb ≠ qb := by omega
  simp only [hnb] at hn0 hs0 ⊢
  clear hnb
  obtain ⟨bs, hbs⟩ : ∃ q, nb + 1 = q := ⟨_, rfl⟩
  have hne2 : nb ≠ bs := by omega
  simp only [hbs] at hs0 ⊢
  clear hbs
  have hg0 := H.out.2.2.2.2.below hb0
  have hp0 := H.out.1.below hb0
  have hI0 : SqI pb base nb qb bs gn cap code cv st op rs ra rc next w [] W0 := ⟨hq0, hs0, hg0, fun _ => ⟨hp0, hn0⟩, fun e => absurd rfl e, ChP.ofBelow hb0, H.out.2.2.2.1.below hb0⟩
  have hgl := hg0.lt
  have hsl := hs0.lt
  have H0 := Lib.hid (And.intro hI0 (And.intro hb0.size (And.intro hnw hqw)))
  have hst := backward_one 3 (by omega) bs gn cap op ra rs.length rc W0 hs0 hg0
  clear hq0 hn0 hs0 hg0 hp0 hI0 hb0 hnw hqw
  refine wpIn_rangeFunc_ownH rfl (by omega) (gf := 74) (lb := #[.pointer (some ⟨bs, 0, none⟩)]) rfl trivial (enters_of Try.func74 (by kernel_rfl) rfl)
    hst (fun h k => ⟨k.1.trans h.1, k.2.trans h.2⟩) (fun V l o o' hl h1 h2 _ => ⟨World.putObj_heap_other (by omega), World.putObj_heap_other (by omega)⟩) (Below.refl _ _) (fun _ => rfl)
    (fun pre V => SqI pb base nb qb bs gn cap code cv st op rs ra rc next w pre V) (fun _ _ _ => False) (fun s A B row hs hg hr => hs.gr hg (fun r e => ⟨Nat.le_trans H0.out.2.1 (hr r e).1, (hr r e).2⟩)) (fun _ _ _ _ _ hs _ _ => hs) H0.out.1
    (fun _ a' V => ∃ b, a' = sqF pb qb nb bs gn cap (next : Int) (.pointer (some ⟨b, 0, none⟩)) (.int .i64 0) (.agg (ndA op ra rs.length rc)) ∧ BkAt b 27 (ndA op ra rs.length rc) V) ?own ?assign ?body ?done ?stop
  case own =>
    rintro x a' s A B row ⟨b, e, hb⟩ hg hr
    exact ⟨b, e, bk_gr hb hg (fun r e => (hr r e).2)⟩
  case assign =>
    rintro lp pre x V K hv hK
    have HV := Lib.hid (And.intro hv hK)
    clear hv hK
    unfold bwE ndA
    gi_wp2
    refine HV.out.2 _ _ ((KeepsOthers.alloc V _).from _) ⟨Below.heap_alloc _ _ _ HV.out.1.s.lt, Below.heap_alloc _ _ _ HV.out.1.g.lt⟩ (HV.out.1.gr (World.grownBy_alloc V _ none) (fun r e => by cases e)) ⟨V.heap.size, ?_, BkAt.new _ _ _⟩
    unfold sqF ndA
    rfl
  case body =>
    rintro lp pre x a' V hlp hlr hv ⟨b, rfl, hb⟩ hlt
    obtain rfl : pre = [] := List.length_eq_zero_iff.1 (by simpa using hlt)
    obtain ⟨hp, hnx⟩ := hv.e rfl
    have r0 : V.cell? ⟨qb, 0, none⟩ = some (.pointer (some ⟨pb, 0, none⟩)) := hv.q.cell
    have r1 : V.cell? ⟨nb, 0, none⟩ = some (.int .i64 (next : Int)) := hnx.cell
    have k0 : V.cell? ⟨b, 0, none⟩ = some (.int .i64 op) := hb.cell 0
    have k1 : V.cell? ⟨b, 1, none⟩ = some (.slice ra rs.length rc) := hb.cell 1
    have k2 : V.cell? ⟨b, 2, none⟩ = some (.string ⟨#[]⟩) := hb.cell 2
    have k3 : V.cell? ⟨b, 3, none⟩ = some (.slice none 0 0) := hb.cell 3
    have k4 : V.cell? ⟨b, 4, none⟩ = some (.int .i64 0) := hb.cell 4
    have k5 : V.cell? ⟨b, 5, none⟩ = some (.int .i64 0) := hb.cell 5
    have hrg : RangesIn 0 V (.slice ra rs.length rc) rs := hv.r.rg h256
    have hnd := node_leaf pb base code cv st op ho rs ra rc next V hp H.out.2.1 (Nat.le_trans H.out.2.2.1 hv.c.size) hrg
    unfold ndA at hnd
    have HN := Lib.hid hnd
    have HV := Lib.hid (And.intro hv (And.intro hp hnx))
    clear hv hp hnx hb hlr hlt hrg hnd
    unfold sqF ndA
    gi_wp2_with (refine ⟨trivial, ?_⟩; gi_at_call 63; refine (CallsIn.inRound lp (callsIn_wide.2 HN.out)).mono ?_)
    rintro e V2 ⟨cv', y, rfl, hins, hp2, hc2⟩
    have hn2 : Boxed V2 nb 3 (.int .i64 (next : Int)) := BkAt.ch HV.out.2.2 hc2 (HV.out.2.1.ne HV.out.2.2 (by decide) (by decide))
    have hq2 : Boxed V2 qb 137 (.pointer (some ⟨pb, 0, none⟩)) := BkAt.ch HV.out.1.q hc2 (HV.out.2.1.ne HV.out.1.q (by decide) (by decide))
    have hs2 : Boxed V2 bs 25 (.slice (some ⟨gn, 0, none⟩) 1 cap) := BkAt.ch HV.out.1.s hc2 (HV.out.2.1.ne HV.out.1.s (by decide) (by decide))
    have hg2 : BkAt gn 27 (ndA op ra rs.length rc) V2 := BkAt.ch HV.out.1.g hc2 (HV.out.2.1.ne HV.out.1.g (by decide) (by decide))
    have hr2 : NdAt rs ra rc V2 := row_ch HV.out.1.r hc2 (HV.out.2.1.ner HV.out.1.r (by decide) (by decide))
    have n1 : V2.cell? ⟨nb, 0, none⟩ = some (.int .i64 (next : Int)) := hn2.cell
    have f1 : V2.frozen? ⟨nb, 0, none⟩ = false := hn2.frozen
    have hnw2 : w.heap.size ≤ nb := H0.out.2.2.1
    have hfin : KeepsFrom W0.heap.size V (V2.setCell ⟨nb, 0, none⟩ (.int .i64 (code.length : Int))) := by
      refine ⟨by simpa [World.setCell] using hc2.size, fun k o hk h1 h2 => ?_⟩
      have h3 : V2.heap[k]? = some o := by
        refine (hc2.block k (lt_of_some h1) ?_).trans h1
        rintro (e | e)
        · have h4 : V.heap[pb]? = _ := HV.out.2.1.p
          rw [e, h4] at h1
          cases h1
          cases h2
        · obtain ⟨cur, fz, h4, -⟩ := row_type HV.out.2.1.r e
          rw [h4] at h1
          cases h1
          cases h2
      refine (Below.heap_setCell V2 ⟨nb, 0, none⟩ _ k ?_).trans h3
      intro e
      have h4 : V2.heap[nb]? = _ := hn2
      rw [show k = nb from e, h4] at h3
      cases h3
      cases h2
    have hks : KpS bs gn V (V2.setCell ⟨nb, 0, none⟩ (.int .i64 (code.length : Int))) :=
      ⟨((Below.heap_setCell V2 ⟨nb, 0, none⟩ _ bs (Ne.symm hne2)).trans hs2).trans (show V.heap[bs]? = _ from HV.out.1.s).symm,
       ((Below.heap_setCell V2 ⟨nb, 0, none⟩ _ gn (fun e => bk_ne hg2 hn2 (by decide) e)).trans hg2).trans (show V.heap[gn]? = _ from HV.out.1.g).symm⟩
    have hIn : SqI pb base nb qb bs gn cap code cv st op rs ra rc next w [()] (V2.setCell ⟨nb, 0, none⟩ (.int .i64 (code.length : Int))) :=
      ⟨hq2.other (Ne.symm hne1) _, hs2.other (Ne.symm hne2) _, BkAt.other hg2 0 _ (fun e => bk_ne hg2 hn2 (by decide) e), fun e => absurd e (by simp), fun _ => ⟨cv', y, hins, ⟨BkAt.other hp2.p 0 _ (fun e => bk_ne hp2.p hn2 (by decide) e), row_ch hp2.r ((ChP.refl (fun k => k = nb) V2).set nb 0 _ rfl) (fun g hg e => row_ne hp2.r hn2 (by decide) hg e)⟩, hn2.set _⟩,
       (HV.out.1.c.trans hc2 (fun i _ q => q)).setNew nb 0 _ (.inr hnw2), row_ch hr2 ((ChP.refl (fun k => k = nb) V2).set nb 0 _ rfl) (fun g hg e => row_ne hr2 hn2 (by decide) hg e)⟩
    have HZ := Lib.hid (And.intro hfin (And.intro hks hIn))
    clear hfin hks hIn hins hp2 hc2 hn2 hq2 hs2 hg2 hr2
    gi_wp2
    exact ⟨HZ.out.1, HZ.out.2.1, HZ.out.2.2⟩
  case done =>
    rintro D ys V hD hys hv hDd
    obtain rfl := hys
    obtain ⟨cv', y, hins, hp2, hn2⟩ := hv.y (by simp)
    have r1 : V.cell? ⟨nb, 0, none⟩ = some (.int .i64 (code.length : Int)) := hn2.cell
    have HV := Lib.hid (And.intro hins (And.intro hp2 (And.intro hv.c (And.intro hDd hD))))
    clear hv hins hp2 hn2 hDd
    gi_wp2
    refine ⟨by simp, .inl ⟨_, _, rfl, run_takeDeferred HV.out.2.2.2.1, ?_⟩⟩
    refine ⟨.int .i64 (code.length : Int), by simp [results, Try.f53, go_sem], cv', y, rfl, HV.out.1, ⟨bk_putO HV.out.2.1.p _ HV.out.2.2.2.1 rfl, row_putO HV.out.2.1.r _ HV.out.2.2.2.1 rfl⟩, HV.out.2.2.1.put _ (Nat.le_trans H0.out.2.1 HV.out.2.2.2.2)⟩
  case stop =>
    rintro D c pre W _ _ h _
    exact h.elim
end Go.Proofs.Ytfkgicakiapmaaa

namespace Go.Proofs.Ytfkgicakiapmaaa
open Go Go.RowKit

def accI : InsV := ⟨0, 0, 0, fun _ => 0, 0⟩
theorem sizePr : (Try.prog.info? 115).map (·.size) = some 3 := by kernel_rfl
structure CmI (pb rb gn : Nat) (op : Int) (rs : List (Nat × Nat)) (ra : Option Addr) (rc : Nat) (w W : World) : Prop where
  p : BkAt pb 115 #[.slice none 0 0, .int .i64 0, .slice none 0 0] W
  z : BkAt rb 115 #[.slice none 0 0, .int .i64 0, .slice none 0 0] W
  g : BkAt gn 27 (ndA op ra rs.length rc) W
  r : NdAt rs ra rc W
  b : Below w.heap.size w W
theorem CmI.below {pb rb gn : Nat} {op : Int} {rs : List (Nat × Nat)} {ra : Option Addr} {rc : Nat} {w W W' : World} (h : CmI pb rb gn op rs ra rc w W) (k : Below W.heap.size W W') : CmI pb rb gn op rs ra rc w W' :=
  ⟨h.p.below k, h.z.below k, h.g.below k, h.r.below k, bl_trans' h.b k⟩

set_option maxRecDepth 100000 in
set_option maxHeartbeats 4000000 in
theorem compile_leaf (gn cap : Nat) (op : Int) (ho : op = 1 ∨ op = 6 ∨ op = 7) (rs : List (Nat × Nat)) (h256 : ∀ x ∈ rs, x.1 < 256 ∧ x.2 < 256) (ra : Option Addr) (rc : Nat) (w : World) (hr : NdAt rs ra rc w) (hg : BkAt gn 27 (ndA op ra rs.length rc) w) :
    Calls Try.prog 48 #[.slice (some ⟨gn, 0, none⟩) 1 cap] w fun e w' => ∃ cv x, e = .returned (.agg #[cv, .int .i64 1, .slice none 0 0]) ∧ InsLf op rs 0 x ∧ w'.ownsRow w.heap.size 129 8 cv 2 (codeC [accI, x]) ∧ Below w.heap.size w w' := by
  obtain ⟨W, hW⟩ : ∃ y, (w.alloc (.cells #[.slice none 0 0, .int .i64 0, .slice none 0 0] 115)).alloc (.cells #[.slice none 0 0, .int .i64 0, .slice none 0 0] 115) = y := ⟨_, rfl⟩
  obtain ⟨rb, hrb⟩ : ∃ q, w.heap.size = q := ⟨_, rfl⟩
  obtain ⟨pb, hpb⟩ : ∃ q, w.heap.size + 1 = q := ⟨_, rfl⟩
  have hI : CmI pb rb gn op rs ra rc w W := by
    have hb : Below w.heap.size w W := by rw [← hW]; exact bl_trans' (below_new _ _) (below_new _ _)
    refine ⟨?_, ?_, hg.below hb, hr.below hb, hb⟩
    · have q := BkAt.new 115 #[.slice none 0 0, .int .i64 0, .slice none 0 0] (w.alloc (.cells #[.slice none 0 0, .int .i64 0, .slice none 0 0] 115))
      rw [World.size_alloc, hpb, hW] at q
      exact q
    · rw [← hW, ← hrb]
      exact (BkAt.new _ _ _).below (below_new _ _)
  have hpr : w.heap.size ≤ rb ∧ w.heap.size < pb ∧ rb ≠ pb := by omega
  have hop5 : op ≠ 5 := by omega
  have HW := Lib.hid (And.intro hW (And.intro hrb hpb))
  have HI := Lib.hid hI
  clear hW hrb hpb hI hr hg
  go_enter Try.func48, Try.ntmps48
  go_wp2_with fail
  rw [HW.out.1, HW.out.2.2, HW.out.2.1]
  go_loopw [8] (fun i wr => ∃ k : Nat, k ≤ 1 ∧ i = .int .i64 k ∧ CmI pb rb gn op rs ra rc w wr) (fun i _ => 1 - (intOf i).toNat)
  case atStart => exact ⟨0, by omega, rfl, HI.out⟩
  case round =>
    obtain ⟨k, hk, rfl, hI⟩ := hrel
    obtain ⟨W1, rfl⟩ : ∃ W1, W1 = wr := ⟨_, rfl⟩
    have h01 : k = 0 ∨ k = 1 := by omega
    rcases h01 with rfl | rfl
    · have g0 : W1.cell? ⟨gn, 0, none⟩ = some (.int .i64 op) := hI.g.cell 0
      have g1 : W1.cell? ⟨gn, 1, none⟩ = some (.slice ra rs.length rc) := hI.g.cell 1
      have g2 : W1.cell? ⟨gn, 2, none⟩ = some (.string ⟨#[]⟩) := hI.g.cell 2
      have g3 : W1.cell? ⟨gn, 3, none⟩ = some (.slice none 0 0) := hI.g.cell 3
      have g4 : W1.cell? ⟨gn, 4, none⟩ = some (.int .i64 0) := hI.g.cell 4
      have g5 : W1.cell? ⟨gn, 5, none⟩ = some (.int .i64 0) := hI.g.cell 5
      have p2 : W1.cell? ⟨pb, 2, none⟩ = some (.slice none 0 0) := hI.p.cell 2
      have hpl := hI.p.lt
      have HN := Lib.hid (fun W => names_leaf op hop5 ra rs.length rc W)
      have H1 := Lib.hid hI
      clear hI
      unfold ndA at HN
      go_wp2_with fail
      refine (HN.out _).mono ?_
      rintro e w2 ⟨rfl, hb2⟩
      have hb3 := bl_trans' (below_new _ _) hb2
      have hI2 := H1.out.below hb3
      have q2 : w2.cell? ⟨pb, 2, none⟩ = some (.slice none 0 0) := hI2.p.cell 2
      have f2 : w2.frozen? ⟨pb, 2, none⟩ = false := hI2.p.free 2
      have hp3 : BkAt pb 115 #[.slice none 0 0, .int .i64 0, .slice none 0 0] (w2.setCell ⟨pb, 2, none⟩ (.slice none 0 0)) := hI2.p.set 2 _
      have hI3 : CmI pb rb gn op rs ra rc w (w2.setCell ⟨pb, 2, none⟩ (.slice none 0 0)) := ⟨hp3, hI2.z.other 2 _ hpr.2.2, BkAt.other hI2.g 2 _ (fun e => bk_ne hI2.g hI2.p (by decide) e), row_ch hI2.r ((ChP.refl (fun k => k = pb) w2).set pb 2 _ rfl) (fun g hg e => row_ne hI2.r hI2.p (by decide) hg e), hI2.b.setCell (p := ⟨pb, 2, none⟩) (by show _ ≤ pb; omega) _⟩
      have H3 := Lib.hid hI3
      clear hb2 hb3 hI2 hp3 hI3
      go_wp2
      go_roundw
      case rel => exact ⟨1, by omega, by simp, H3.out⟩
      case measure => simp [intOf]
    · have hP : PrAt pb w.heap.size [] (.slice none 0 0) 0 W1 := ⟨hI.p, World.ownsRow_nil _ _ _ _⟩
      have hE := emit_any pb w.heap.size [] (.slice none 0 0) 0 0 0 0 0 0 0 0 0 accI rfl W1 hP (by simp) hI.b.size
      have HE := Lib.hid hE
      have H1 := Lib.hid hI
      clear hI hP hE
      go_wp2_with fail
      refine HE.out.mono ?_
      rintro e w2 ⟨cv, rfl, hp2, hc2, hv2⟩
      have hg2 : BkAt gn 27 (ndA op ra rs.length rc) w2 := BkAt.ch H1.out.g hc2 (by rintro (e | e); exact bk_ne H1.out.g H1.out.p (by decide) e; cases e)
      have hr2 : NdAt rs ra rc w2 := row_ch H1.out.r hc2 (by rintro g hg (e | e); exact row_ne H1.out.r H1.out.p (by decide) hg e; cases e)
      have hz2 : BkAt rb 115 #[.slice none 0 0, .int .i64 0, .slice none 0 0] w2 := BkAt.ch H1.out.z hc2 (by rintro (e | e); exact hpr.2.2 e; cases e)
      have hb2 : Below w.heap.size w w2 := (H1.out.b.trans (hc2.toBelow H1.out.b.size (by rintro i (e | e); omega; cases e)))
      have hS := seq_one pb w.heap.size gn cap [accI] cv 0 op ho rs ra rc 0 w2 hp2 (by simp) hb2.size hr2 h256 hg2
      have H2 := Lib.hid (And.intro hS (And.intro hp2 (And.intro hz2 (And.intro hb2 hv2))))
      clear hp2 hc2 hg2 hr2 hz2 hb2 hS hv2
      go_wp2_with fail
      refine H2.out.1.mono ?_
      rintro e w3 ⟨cv3, x, rfl, hins, hp3, hc3⟩
      have hrl : rb < W1.heap.size := H1.out.z.lt
      have hz3 : BkAt rb 115 #[.slice none 0 0, .int .i64 0, .slice none 0 0] w3 := BkAt.ch H2.out.2.2.1 hc3 (by
        rintro (e | e)
        · exact hpr.2.2 e
        · rcases H2.out.2.2.2.2 with q | ⟨k, q, hk2⟩
          · rw [q] at e; cases e
          · rw [q] at e
            cases e
            omega)
      have hb3 : Below w.heap.size w w3 := H2.out.2.2.2.1.trans (hc3.toBelow H2.out.2.2.2.1.size (by
        rintro i (e | e)
        · omega
        · obtain ⟨-, -, -, q⟩ := row_type H2.out.2.1.r e
          exact q))
      obtain ⟨ca, cn, cc, rfl⟩ := row_slice hp3.r
      have m0 : w3.cell? ⟨pb, 0, none⟩ = some (.slice ca cn cc) := hp3.p.cell 0
      have m1 : w3.cell? ⟨pb, 1, none⟩ = some (.int .i64 0) := hp3.p.cell 1
      have m2 : w3.cell? ⟨pb, 2, none⟩ = some (.slice none 0 0) := hp3.p.cell 2
      have e1 : w3.frozen? ⟨pb, 1, none⟩ = false := hp3.p.free 1
      have r0 : w3.cell? ⟨rb, 0, none⟩ = some (.slice none 0 0) := hz3.cell 0
      have r1 : w3.cell? ⟨rb, 1, none⟩ = some (.int .i64 0) := hz3.cell 1
      have r2 : w3.cell? ⟨rb, 2, none⟩ = some (.slice none 0 0) := hz3.cell 2
      have f0 : w3.frozen? ⟨rb, 0, none⟩ = false := hz3.free 0
      have f1 : w3.frozen? ⟨rb, 1, none⟩ = false := hz3.free 1
      have f2 : w3.frozen? ⟨rb, 2, none⟩ = false := hz3.free 2
      have hz4 : BkAt rb 115 #[.slice none 0 0, .int .i64 0, .slice none 0 0] (w3.setCell ⟨pb, 1, none⟩ (.int .i64 1)) := hz3.other 1 _ hpr.2.2
      have hz5 : BkAt rb 115 #[.slice ca cn cc, .int .i64 1, .slice none 0 0] ((((w3.setCell ⟨pb, 1, none⟩ (.int .i64 1)).setCell ⟨rb, 0, none⟩ (.slice ca cn cc)).setCell ⟨rb, 1, none⟩ (.int .i64 1)).setCell ⟨rb, 2, none⟩ (.slice none 0 0)) := ((hz4.set 0 _).set 1 _).set 2 _
      have hb5 : Below w.heap.size w ((((w3.setCell ⟨pb, 1, none⟩ (.int .i64 1)).setCell ⟨rb, 0, none⟩ (.slice ca cn cc)).setCell ⟨rb, 1, none⟩ (.int .i64 1)).setCell ⟨rb, 2, none⟩ (.slice none 0 0)) := (((hb3.setCell (p := ⟨pb, 1, none⟩) (by show _ ≤ pb; omega) _).setCell (p := ⟨rb, 0, none⟩) hpr.1 _).setCell (p := ⟨rb, 1, none⟩) hpr.1 _).setCell (p := ⟨rb, 2, none⟩) hpr.1 _
      have hr5 : ((((w3.setCell ⟨pb, 1, none⟩ (.int .i64 1)).setCell ⟨rb, 0, none⟩ (.slice ca cn cc)).setCell ⟨rb, 1, none⟩ (.int .i64 1)).setCell ⟨rb, 2, none⟩ (.slice none 0 0)).ownsRow w.heap.size 129 8 (.slice ca cn cc) 2 (codeC [accI, x]) :=
        row_ch hp3.r (((((ChP.refl (fun k => k = pb ∨ k = rb) w3).set pb 1 _ (.inl rfl)).set rb 0 _ (.inr rfl)).set rb 1 _ (.inr rfl)).set rb 2 _ (.inr rfl)) (by
          rintro g hg (e | e)
          · exact row_ne hp3.r hp3.p (by decide) hg e
          · exact row_ne hp3.r hz3 (by decide) hg e)
      have HZ := Lib.hid (And.intro hz5 (And.intro hb5 (And.intro hr5 hins)))
      have hne : pb ≠ rb := Ne.symm hpr.2.2
      clear hz3 hb3 hp3 hc3 hz4 hz5 hb5 hr5 hins
      rw [show (([accI].length : Nat) : Int) = 1 from rfl]
      go_wp2_with fail
      refine bodyPost_ret (results_cell_row rfl _ _ rb 115 #[.slice ca cn cc, .int .i64 1, .slice none 0 0] (0, 0) _ rfl HZ.out.1 Try.underlying115 rfl sizePr) rfl ?_
      exact ⟨_, x, rfl, HZ.out.2.2.2, HZ.out.2.2.1, HZ.out.2.1⟩
end Go.Proofs.Ytfkgicakiapmaaa
