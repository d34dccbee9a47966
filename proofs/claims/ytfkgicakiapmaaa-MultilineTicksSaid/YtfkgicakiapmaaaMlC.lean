/- slices.AppendSeq and slices.Collect over an iterator of blocks that writes memory of its own. -/
import Derived.Test.YtfkgicakiapmaaaMlB
import Derived.BigQuiet
import Derived.OwnWalkIn
namespace Go.Proofs.Ytfkgicakiapmaaa
open Go Go.RowKit
attribute [local go_sem] Oper.semAt_some

structure CoI (PI : Nat → Prop) (w0 : World) (pre : List BkV) (v : Value) (W : World) : Prop where
  box : Boxed W w0.heap.size 36 v
  row : W.ownsRow w0.heap.size 44 4 v pre.length (bksC pre)
  ch : ChP PI w0 W
theorem ChP.belowAt {P : Nat → Prop} {a b c : World} (h : ChP P a b) (k : Below a.heap.size b c) : ChP P a c :=
  ⟨k.os.trans h.os, k.tape.trans h.tape, k.output.trans h.output, Nat.le_trans h.size k.size, fun i hi hn => (k.block i hi).trans (h.block i hi hn)⟩
theorem ChP.put {P : Nat → Prop} {a b : World} (h : ChP P a b) {l : Nat} (o : Obj) (hl : a.heap.size ≤ l) : ChP P a (b.putObj l o) :=
  ⟨h.os, h.tape, h.output, by simpa using h.size, fun i hi hn => (World.putObj_heap_other (by omega)).trans (h.block i hi hn)⟩
theorem row_putO {W : World} {base size m : Nat} {e : TypeId} {v : Value} {xs : List Value} (h : W.ownsRow base e size v m xs) {l : Nat} {o : Obj} (o' : Obj) (hl : W.heap[l]? = some o) (ho : o.isCells = false) : (W.putObj l o').ownsRow base e size v m xs := by
  refine ⟨h.1, ?_⟩
  rcases h.2 with q | ⟨g, cap, cur, q1, q2, q3, q4, q5, q6⟩
  · exact .inl q
  · exact .inr ⟨g, cap, cur, q1, q2, (World.putObj_heap_other (by rintro rfl; rw [q3] at hl; cases hl; cases ho)).trans q3, q4, q5, q6⟩
theorem bk_putO {W : World} {b : Nat} {T : TypeId} {cs : Array Value} (h : BkAt b T cs W) {l : Nat} {o : Obj} (o' : Obj) (hl : W.heap[l]? = some o) (ho : o.isCells = false) : BkAt b T cs (W.putObj l o') :=
  (World.putObj_heap_other (by rintro rfl; have h : W.heap[b]? = _ := h; rw [h] at hl; cases hl; cases ho)).trans h
theorem CoI.put {PI : Nat → Prop} {w0 : World} {pre : List BkV} {v : Value} {W : World} (h : CoI PI w0 pre v W) {l : Nat} {o : Obj} (o' : Obj) (hw : w0.heap.size ≤ l) (hl : W.heap[l]? = some o) (ho : o.isCells = false) : CoI PI w0 pre v (W.putObj l o') :=
  ⟨bk_putO h.box o' hl ho, row_putO h.row o' hl ho, h.ch.put o' hw⟩
theorem CoI.it {PI : Nat → Prop} {w0 : World} {pre : List BkV} {v : Value} {A B : World} {n : Nat} (hn : w0.heap.size < n) (hp : ∀ k, PI k → k < w0.heap.size) (h : CoI PI w0 pre v A) (k : ItP n PI A B) : CoI PI w0 pre v B := by
  refine ⟨(k.low _ hn (fun q => by have := hp _ q; omega)).trans h.box, ⟨h.row.1, ?_⟩, ⟨k.os.trans h.ch.os, k.tape.trans h.ch.tape, k.output.trans h.ch.output, Nat.le_trans h.ch.size k.size, fun i hi hq => (k.low i (by omega) hq).trans (h.ch.block i hi hq)⟩⟩
  rcases h.row.2 with q | ⟨g, cap, cur, q1, q2, q3, q4, q5, q6⟩
  · exact .inl q
  · exact .inr ⟨g, cap, cur, q1, q2, k.rows g _ _ q3, q4, q5, q6⟩
theorem bksC_snoc (l : List BkV) (x : BkV) : bksC (l ++ [x]) = bksC l ++ bkC x := by unfold bksC; simp
theorem infoBk : (Try.prog.info? 44).map (fun i => (i.zero, i.size, i.bytes)) = some (some (.agg #[.int .i64 0, .int .i64 0, .slice none 0 0, .string ⟨#[]⟩]), 4, 56) := by kernel_rfl
def coF (w0 : World) (sq : Value) (b y : Value) : Act :=
  { tmps := #[.slice none 0 0, sq, .pointer (some ⟨w0.heap.size, 0, none⟩), undef, .slice none 0 0, b, sq, y, undef, undef, undef, undef, undef], defers := [] }

set_option maxRecDepth 100000 in
set_option maxHeartbeats 4000000 in
theorem appendSeq_any {N gf : Nat} {la lb : Array Value} {PI : Nat → Prop} {S : List BkV → World → Prop} (hN : N ≤ 1000) (eg : ∀ args w, (callFunc gf args).run Try.prog w = .ok (.enter gf args) w) (w : World)
    (hseq : ∀ n0, w.heap.size ≤ n0 → SeqM N n0 gf la lb PI S w) (hPI : ∀ k, PI k → k < w.heap.size) (hS : ∀ xs W l o o', S xs W → W.heap[l]? = some o → o.isCells = false → S xs (W.putObj l o')) :
    Calls Try.prog 29 #[.slice none 0 0, .func (.func gf) la lb] w fun e w' => ∃ v xs, e = .returned v ∧ S xs w' ∧ w'.ownsRow w.heap.size 44 4 v xs.length (bksC xs) ∧ ChP PI w w' := by
  obtain ⟨i0, hi, hz0, hz1, hz2⟩ := info_parts infoBk
  refine (callsIn_wide (n := 4)).1 ?_
  refine callsIn_of_wp_marks Try.func29 rfl trivial ?_ rfl
  simp only [Try.ntmps29, List.size_toArray, List.length_cons, List.length_nil, Nat.reduceAdd, Nat.reduceSub, Array.replicate_succ, Array.replicate_zero, List.push_toArray, List.append_toArray, List.nil_append, List.cons_append]
  obtain ⟨sq, hsq⟩ : ∃ sq, Value.func (.func gf) la lb = sq := ⟨_, rfl⟩
  rw [hsq]
  have H := Lib.hid (And.intro hseq (And.intro hPI hS))
  clear hseq hPI hS
  gi_wp2_with fail
  refine wpIn_rangeM (by omega) (gf := gf) (la := la) (lb := lb) hsq.symm eg rfl (PI := PI) (S := S) (N := N) ?_ (fun pre W => ∃ v, CoI PI w pre v W) ?_ ?_ ?_ ?_
    (fun x a' W => ∃ b, a' = coF w sq (.pointer (some ⟨b, 0, none⟩)) (.agg #[.int .i64 x.p.fr, .int .i64 x.p.en, x.sl, .string x.p.rule]) ∧ BkAt b 44 #[.int .i64 x.p.fr, .int .i64 x.p.en, x.sl, .string x.p.rule] W ∧ ∃ c n k, x.sl = .slice c n k) ?_ ?assign ?body ?done
  · exact (H.out.1 _ (by simp; omega)).later (below_new _ _)
  · rintro s A B ⟨v, h⟩ hab
    exact ⟨v, h.it (by simp; omega) H.out.2.1 hab⟩
  · rintro s W l o o' ⟨v, h⟩ hl h1 h2
    exact ⟨v, h.put o' (by simp at hl; omega) h1 h2⟩
  · intro W1 hb1
    have hb2 := (Boxed.new w 36 (.slice none 0 0)).lt
    exact ⟨_, (hb1.block _ hb2).trans (Boxed.new w 36 (.slice none 0 0)), World.ownsRow_nil _ _ _ _, ChP.ofBelow ((below_new w _).trans (hb1.mono (by simp)))⟩
  · intro k hk
    have := H.out.2.1 k hk
    simp
    omega
  · rintro x a' W l o o' ⟨b, rfl, hb, hx⟩ hl h1 h2
    exact ⟨b, rfl, bk_putO hb o' h1 h2, hx⟩
  case assign =>
    rintro l m pre ⟨xs, fr, en, rule, ls⟩ W K hi hel hlen hK
    obtain ⟨v, hv⟩ := hi
    obtain ⟨c, n, k, hxe⟩ : ∃ c n k, xs = .slice c n k := row_slice hel
    subst hxe
    clear hel
    dsimp only [bkE]
    have HV := Lib.hid (And.intro hv hK)
    clear hv hK
    gi_wp2
    refine HV.out.2 _ _ (KpB.alloc _ _ _) ⟨v, ⟨Boxed.alloc HV.out.1.box _, HV.out.1.row.alloc _, HV.out.1.ch.below (below_new _ _)⟩⟩ ⟨W.heap.size, ?_, BkAt.new _ _ _, c, n, k, rfl⟩
    unfold coF
    rfl
  case body =>
    rintro l m pre ⟨xs, fr, en, rule, ls⟩ a' W hl hlr ⟨v, hv⟩ ⟨b, rfl, hb, c, n, k, hxe⟩ hlen
    obtain rfl : xs = .slice c n k := hxe
    simp only at hb
    have q1 : ∀ u ∈ ([.int .i64 fr, .int .i64 en, .slice c n k, .string rule] : List Value), u.oneCell' = true := by
      intro u hu
      simp only [List.mem_cons, List.not_mem_nil, or_false] at hu
      rcases hu with rfl | rfl | rfl | rfl <;> rfl
    have q2 : ∀ (j : Nat) (u : Value), ([.int .i64 fr, .int .i64 en, .slice c n k, .string rule] : List Value)[j]? = some u → (W.alloc (.cells #[.int .i64 fr, .int .i64 en, .slice c n k, .string rule] 44)).cell? ((⟨W.heap.size, 0, none⟩ : Addr).add j) = some u := fun j u hj => by
      rw [Addr.add_lit, Nat.zero_add, Lib.cell_of_heap (heap_alloc_new W _)]
      simpa using hj
    have q3 : pre.length + 1 ≤ maxLen := by unfold maxLen; omega
    have q4 : (pre.length + 1) * 56 ≤ 140737488355328 := by omega
    have hsz : w.heap.size ≤ W.heap.size := hv.ch.size
    have q5 : w.heap.size ≤ (W.alloc (.cells #[.int .i64 fr, .int .i64 en, .slice c n k, .string rule] 44)).heap.size := by simp; omega
    have e1 : W.cell? ⟨w.heap.size, 0, none⟩ = some v := Boxed.cell hv.box
    have e2 : W.cell? ⟨b, 0, none⟩ = some (.int .i64 fr) := hb.cell 0
    have e3 : W.cell? ⟨b, 1, none⟩ = some (.int .i64 en) := hb.cell 1
    have e4 : W.cell? ⟨b, 2, none⟩ = some (.slice c n k) := hb.cell 2
    have e5 : W.cell? ⟨b, 3, none⟩ = some (.string rule) := hb.cell 3
    obtain ⟨va, vm, vc, rfl⟩ := row_slice hv.row
    have HV := Lib.hid hv
    have HQ := Lib.hid (And.intro q2 (And.intro q3 (And.intro q4 (And.intro q5 (And.intro hsz q1)))))
    clear hv hb q1 q2 q3 q4 q5 hlr hsz hlen hl hsq eg hN
    unfold coF
    dsimp only
    gi_wp2_with (first
      | (gi_at_builtin; refine wpListIn_append_own _ rfl _ _ 36 rfl w.heap.size 44 i0 (.agg #[.int .i64 0, .int .i64 0, .slice none 0 0, .string ⟨#[]⟩]) 4 56 Try.underlying36 hi hz0 hz1 hz2 rfl (by decide) _ _ _ rfl (HV.out.row.alloc _) ⟨W.heap.size, 0, none⟩ 1 1 [.int .i64 fr, .int .i64 en, .slice c n k, .string rule] rfl rfl HQ.out.1 HQ.out.2.2.2.2.2 HQ.out.2.1 HQ.out.2.2.1 HQ.out.2.2.2.1 ?_; intro v' w4 hown' hg4 hnil
         obtain ⟨hv1, hv2, hrow2, hko, hb4⟩ := Boxed.appended HV.out.box (by decide) HV.out.row HQ.out.2.2.2.2.1 (Nat.le_refl _) hown' hg4
         have hc4 := Boxed.cell hv1
         have hf4 := Boxed.frozen hv1
         obtain ⟨g', cap', rfl⟩ := ownsRow_succ hown'
         have HW4 := Lib.hid (And.intro hown' (And.intro hg4 (And.intro hv1 (And.intro hv2 (And.intro hrow2 hb4)))))
         clear hown' hg4 hv2 hrow2 hko hb4 hnil hv1)
      | fail)
    have hk1 : KpB (w.alloc (.cells #[.slice none 0 0] 36)).heap.size W w4 := (KpB.alloc _ _ _).trans (KpB.grown (HV.out.row.alloc _) HW4.out.2.1)
    refine ⟨hk1.trans (KpB.setB HW4.out.2.2.1), _, HW4.out.2.2.2.1, ?_, HV.out.ch.belowAt HW4.out.2.2.2.2.2⟩
    have hr := HW4.out.2.2.2.2.1
    rw [List.length_append, bksC_snoc]
    exact hr
  case done =>
    rintro D l o o' xs W hD hl h1 h2 hxs ⟨v, hv⟩ hDd
    have e1 : (W.putObj l o').cell? ⟨w.heap.size, 0, none⟩ = some v := Boxed.cell hv.box
    obtain ⟨va, vm, vc, rfl⟩ := row_slice hv.row
    have HV := Lib.hid (And.intro hv (And.intro (H.out.2.2 xs W l o o' hxs h1 h2) (And.intro hDd hD)))
    clear hv hxs hDd
    obtain ⟨W2, hW2⟩ : ∃ W2, W.putObj l o' = W2 := ⟨_, rfl⟩
    rw [hW2] at HV e1 ⊢
    gi_wp2
    refine ⟨by simp, .inl ⟨_, _, rfl, run_takeDeferred HV.out.2.2.1, ?_⟩⟩
    refine ⟨.slice va vm vc, by simp [results, Try.f29, go_sem], _, xs, rfl, ?_, ?_, ?_⟩
    · exact H.out.2.2 xs W2 _ _ _ HV.out.2.1 HV.out.2.2.1 rfl
    · exact row_putO HV.out.1.row _ HV.out.2.2.1 rfl
    · exact HV.out.1.ch.put _ (by have := HV.out.2.2.2; simp at this; omega)
set_option maxRecDepth 100000 in
set_option maxHeartbeats 1000000 in
theorem collect_any {N gf : Nat} {la lb : Array Value} {PI : Nat → Prop} {S : List BkV → World → Prop} (hN : N ≤ 1000) (eg : ∀ args w, (callFunc gf args).run Try.prog w = .ok (.enter gf args) w) (w : World)
    (hseq : ∀ n0, w.heap.size ≤ n0 → SeqM N n0 gf la lb PI S w) (hPI : ∀ k, PI k → k < w.heap.size) (hS : ∀ xs W l o o', S xs W → W.heap[l]? = some o → o.isCells = false → S xs (W.putObj l o')) :
    Calls Try.prog 17 #[.func (.func gf) la lb] w fun e w' => ∃ v xs, e = .returned v ∧ S xs w' ∧ w'.ownsRow w.heap.size 44 4 v xs.length (bksC xs) ∧ ChP PI w w' := by
  have H := Lib.hid (appendSeq_any hN eg w hseq hPI hS)
  clear hseq hPI hS eg
  obtain ⟨sq, hsq⟩ : ∃ sq, Value.func (.func gf) la lb = sq := ⟨_, rfl⟩
  rw [hsq] at H ⊢
  go_enter Try.func17, Try.ntmps17
  go_wp2_with fail
  refine H.out.mono ?_
  rintro e w' ⟨v, xs, rfl, h1, h2, h3⟩
  obtain ⟨va, vm, vc, rfl⟩ := row_slice h2
  have H2 := Lib.hid (And.intro h1 (And.intro h2 h3))
  clear h1 h2 h3
  go_wp2
  go_ret
  exact ⟨_, xs, rfl, H2.out⟩
end Go.Proofs.Ytfkgicakiapmaaa
