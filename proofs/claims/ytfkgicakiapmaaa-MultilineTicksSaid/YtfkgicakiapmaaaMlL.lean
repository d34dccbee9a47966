/- Package multiline: Add, Flush. -/
import Derived.Test.YtfkgicakiapmaaaMlVb
import Derived.Laws.Rows
namespace Go.Proofs.Ytfkgicakiapmaaa
open Go Go.RowKit
variable {d : Nat} {v : Value} {s now : Int} {opn : List LnV} {x : LnV} {dmg op : Int} {tl : Bool} {rs : List (Nat × Nat)} {ra : Option Addr} {rc : Nat} {w : World} {m : ByteArray → Bool}

theorem add1_seq {Bl Ba Bs Bn : Nat} (hM : op ≠ 0 → MtC op rs ra rc m) (h : AdW d Bl Ba Bs Bn v s now opn x dmg tl op rs ra rc w) (n0 : Nat) :
    SeqM 2 n0 30 #[] #[.pointer (some ⟨Bl, 0, none⟩), .pointer (some ⟨Ba, 0, none⟩), .pointer (some ⟨Bs, 0, none⟩), .pointer (some ⟨Bn, 0, none⟩)] (fun k => k = d) (AdS d (addB m (decide (op = 0)) opn x tl) (addO m (decide (op = 0)) opn x tl) (addT (decide (op = 0)) s now tl)) w := by
  cases tl with
  | true =>
    have e1 : addB m (decide (op = 0)) opn x true = flB opn ++ [mkB tlR [⟨x.off, x.len, ⟨#[]⟩⟩]] := by unfold addB; rw [if_pos rfl]
    have e2 : addO m (decide (op = 0)) opn x true = [] := by unfold addO; rw [if_pos rfl]
    have e3 : addT (decide (op = 0)) s now true = s := by unfold addT; rw [if_pos rfl]
    rw [e1, e2, e3]
    exact add1_tl h n0
  | false =>
    by_cases ho : op = 0
    · subst ho
      have e1 : addB m (decide ((0 : Int) = 0)) opn x false = [mkB ⟨#[]⟩ [x]] := by unfold addB; rw [if_neg (by simp), if_pos (by simp)]
      have e2 : addO m (decide ((0 : Int) = 0)) opn x false = opn := by unfold addO; rw [if_neg (by simp), if_pos (by simp)]
      have e3 : addT (decide ((0 : Int) = 0)) s now false = s := by unfold addT; rw [if_neg (by simp), if_pos (by simp)]
      rw [e1, e2, e3]
      exact add1_emp h n0
    · rw [decide_eq_false ho]
      have e3 : addT false s now false = now := by unfold addT; rw [if_neg (by simp), if_neg (by simp)]
      rw [e3]
      exact add1_def (hM ho) ho h n0
theorem AdS.put {bs : List PBk} {os : List LnV} {t : Int} {xs : List BkV} {W : World} (h : AdS d bs os t xs W) {l : Nat} {o : Obj} (o' : Obj) (h1 : W.heap[l]? = some o) (h2 : o.isCells = false) : AdS d bs os t xs (W.putObj l o') := by
  obtain ⟨a, ⟨v', b1, b2, b3⟩, c⟩ := h
  exact ⟨a, ⟨v', bk_putO b1 o' h1 h2, row_putO b2 o' h1 h2, b3⟩, fun b hb => row_putO (c b hb) o' h1 h2⟩

set_option maxRecDepth 100000 in
set_option maxHeartbeats 1000000 in
theorem add_ret (d : Nat) (op : Int) (ra : Option Addr) (rn rc : Nat) (off len : Int) (txt : ByteArray) (dmg : Int) (tl : Bool) (now : Int) (w : World) :
    Calls Try.prog 18 #[.pointer (some ⟨d, 0, none⟩), .agg (ndA op ra rn rc), .agg #[.int .i64 off, .int .i64 len, .string txt, .int .i64 dmg, .bool tl], .int .i64 now] w fun e w' => ∃ Bl Ba Bs Bn, e = .returned (.func (.func 30) #[] #[.pointer (some ⟨Bl, 0, none⟩), .pointer (some ⟨Ba, 0, none⟩), .pointer (some ⟨Bs, 0, none⟩), .pointer (some ⟨Bn, 0, none⟩)]) ∧
      BkAt Bl 38 #[.int .i64 off, .int .i64 len, .string txt, .int .i64 dmg, .bool tl] w' ∧ BkAt Ba 85 #[.pointer (some ⟨d, 0, none⟩)] w' ∧ BkAt Bs 27 (ndA op ra rn rc) w' ∧ BkAt Bn 3 #[.int .i64 now] w' ∧ Below w.heap.size w w' := by
  unfold ndA
  go_enter Try.func18, Try.ntmps18
  go_wp2
  go_ret
  have h0 := BkAt.new 85 #[.pointer (some ⟨d, 0, none⟩)] w
  have h1 := BkAt.new 27 #[.int .i64 op, .slice ra rn rc, .string ⟨#[]⟩, .slice none 0 0, .int .i64 0, .int .i64 0] (w.alloc (.cells #[.pointer (some ⟨d, 0, none⟩)] 85))
  have h2 := BkAt.new 38 #[.int .i64 off, .int .i64 len, .string txt, .int .i64 dmg, .bool tl] ((w.alloc (.cells #[.pointer (some ⟨d, 0, none⟩)] 85)).alloc (.cells #[.int .i64 op, .slice ra rn rc, .string ⟨#[]⟩, .slice none 0 0, .int .i64 0, .int .i64 0] 27))
  have h3 := BkAt.new 3 #[.int .i64 now] (((w.alloc (.cells #[.pointer (some ⟨d, 0, none⟩)] 85)).alloc (.cells #[.int .i64 op, .slice ra rn rc, .string ⟨#[]⟩, .slice none 0 0, .int .i64 0, .int .i64 0] 27)).alloc (.cells #[.int .i64 off, .int .i64 len, .string txt, .int .i64 dmg, .bool tl] 38))
  simp only [World.size_alloc] at h1 h2 h3
  exact ⟨_, _, _, _, rfl, h2.below (below_new _ _), ((h0.below (below_new _ _)).below (below_new _ _)).below (below_new _ _), (h1.below (below_new _ _)).below (below_new _ _), h3, bl_trans' (bl_trans' (bl_trans' (below_new _ _) (below_new _ _)) (below_new _ _)) (below_new _ _)⟩

theorem results_ct {P : Program} {fn : Func} {p u : Tmp} {ty : TypeId} (h : fn.results = #[.cell p ty, .tmp u]) (tmps : Array Value) (w : World) (g : Nat) (t : TypeId) (cs : Array Value) (fr : Nat × Nat) (d : TypeDesc)
    (hp : tmps.getD p undef = .pointer (some ⟨g, 0, none⟩)) (hg : w.heap[g]? = some (.cells cs t fr))
    (hu : P.underlying ty = some d) (hd : (match d with | .struct _ | .array _ _ => true | _ => false) = true) (hi : (P.info? ty).map (·.size) = some cs.size) :
    (results fn tmps).run P w = .ok (.tuple #[.agg cs, tmps.getD u undef]) w := by
  have hp' : tmps[p]?.getD undef = .pointer (some ⟨g, 0, none⟩) := by simpa using hp
  simp [results, h, hp', asAddr, run_loadVar_row w g t ty cs fr d hg hu hd hi]
theorem sizeAs : (Try.prog.info? 35).map (·.size) = some 2 := by kernel_rfl
set_option maxRecDepth 100000 in
set_option maxHeartbeats 2000000 in
theorem add_any (hM : op ≠ 0 → MtC op rs ra rc m) (hl : LnsAt v opn w) (hnl : opn = [] → v = .slice none 0 0) (hok : OkS opn) (hox : OkL x) (hsz : x.txt.size ≤ 20000) (hnd : NdAt rs ra rc w) :
    Calls Try.prog 9 #[.agg #[v, .int .i64 s], .agg (ndA op ra rs.length rc), .agg #[.int .i64 x.off, .int .i64 x.len, .string x.txt, .int .i64 dmg, .bool tl], .int .i64 now] w fun e w' => ∃ v' sl xs, e = .returned (.tuple #[.agg #[v', .int .i64 (addT (decide (op = 0)) s now tl)], sl]) ∧
      LnsAt v' (addO m (decide (op = 0)) opn x tl) w' ∧ (addO m (decide (op = 0)) opn x tl = [] → v' = .slice none 0 0) ∧ w'.ownsRow w.heap.size 44 4 sl xs.length (bksC xs) ∧ xs.map (·.p) = addB m (decide (op = 0)) opn x tl ∧ (∀ b ∈ xs, ElB b w') ∧ Below w.heap.size w w' := by
  obtain ⟨off, len, txt⟩ := x
  obtain ⟨bs, hbs⟩ : ∃ y, addB m (decide (op = 0)) opn ⟨off, len, txt⟩ tl = y := ⟨_, rfl⟩
  obtain ⟨os, hos⟩ : ∃ y, addO m (decide (op = 0)) opn ⟨off, len, txt⟩ tl = y := ⟨_, rfl⟩
  obtain ⟨t, ht⟩ : ∃ y, addT (decide (op = 0)) s now tl = y := ⟨_, rfl⟩
  have hsq := fun (Bl Ba Bs Bn d : Nat) (W : World) (n0 : Nat) (h : AdW d Bl Ba Bs Bn v s now opn ⟨off, len, txt⟩ dmg tl op rs ra rc W) => add1_seq hM h n0
  rw [hbs, hos, ht] at hsq
  rw [hbs, hos, ht]
  obtain ⟨va, vn, vc, hve⟩ := row_slice hl
  subst hve
  have hnd6 : ndA op ra rs.length rc = #[.int .i64 op, .slice ra rs.length rc, .string ⟨#[]⟩, .slice none 0 0, .int .i64 0, .int .i64 0] := rfl
  have H := Lib.hid (And.intro hsq (And.intro hl (And.intro hnl (And.intro hok (And.intro hox (And.intro hsz hnd))))))
  clear hsq hl hnl hok hox hsz hnd hbs hos ht hM
  have HA := fun d w => add_ret d op ra rs.length rc off len txt dmg tl now w
  rw [hnd6] at HA ⊢
  have HA := Lib.hid HA
  clear hnd6
  go_enter Try.func9, Try.ntmps9
  go_wp2_with fail
  obtain ⟨W0, hW0⟩ : ∃ y, ((((w.alloc (.cells #[.slice va vn vc, .int .i64 s] 35)).alloc (.cells #[.int .i64 op, .slice ra rs.length rc, .string ⟨#[]⟩, .slice none 0 0, .int .i64 0, .int .i64 0] 27)).alloc (.cells #[.int .i64 off, .int .i64 len, .string txt, .int .i64 dmg, .bool tl] 38)).alloc (.cells #[.slice none 0 0, .int .i64 0] 35)).alloc (.cells #[.slice va vn vc, .int .i64 s] 65) = y := ⟨_, rfl⟩
  have hb0 : Below w.heap.size w W0 := by rw [← hW0]; exact bl_trans' (bl_trans' (bl_trans' (bl_trans' (below_new _ _) (below_new _ _)) (below_new _ _)) (below_new _ _)) (below_new _ _)
  have hd0 : AsAt (w.heap.size + 1 + 1 + 1 + 1) (.slice va vn vc) s W0 := by
    have q := BkAt.new 65 #[.slice va vn vc, .int .i64 s] ((((w.alloc (.cells #[.slice va vn vc, .int .i64 s] 35)).alloc (.cells #[.int .i64 op, .slice ra rs.length rc, .string ⟨#[]⟩, .slice none 0 0, .int .i64 0, .int .i64 0] 27)).alloc (.cells #[.int .i64 off, .int .i64 len, .string txt, .int .i64 dmg, .bool tl] 38)).alloc (.cells #[.slice none 0 0, .int .i64 0] 35))
    simp only [World.size_alloc] at q
    rw [← hW0]
    exact q
  have hr0 : BkAt (w.heap.size + 1 + 1 + 1) 35 #[.slice none 0 0, .int .i64 0] W0 := by
    have q := BkAt.new 35 #[.slice none 0 0, .int .i64 0] (((w.alloc (.cells #[.slice va vn vc, .int .i64 s] 35)).alloc (.cells #[.int .i64 op, .slice ra rs.length rc, .string ⟨#[]⟩, .slice none 0 0, .int .i64 0, .int .i64 0] 27)).alloc (.cells #[.int .i64 off, .int .i64 len, .string txt, .int .i64 dmg, .bool tl] 38))
    simp only [World.size_alloc] at q
    rw [← hW0]
    exact q.below (below_new _ _)
  rw [hW0]
  clear hW0
  obtain ⟨R, hR⟩ : ∃ R, w.heap.size + 1 + 1 + 1 = R := ⟨_, rfl⟩
  have hDw : w.heap.size ≤ R + 1 ∧ w.heap.size ≤ R := by omega
  simp only [hR] at hd0 hr0 ⊢
  clear hR
  obtain ⟨D, hD⟩ : ∃ D, R + 1 = D := ⟨_, rfl⟩
  have hDR : R ≠ D := by omega
  rw [hD] at hDw
  simp only [hD] at hd0 ⊢
  clear hD
  refine (HA.out _ _).mono ?_
  rintro e w1 ⟨Bl, Ba, Bs, Bn, rfl, h1, h2, h3, h4, hb1⟩
  have hb01 := bl_trans' hb0 hb1
  have hA1 : AdW D Bl Ba Bs Bn (.slice va vn vc) s now opn ⟨off, len, txt⟩ dmg tl op rs ra rc w1 := ⟨h1, h2, h3, h4, hd0.below hb1, H.out.2.1.below hb01, H.out.2.2.1, H.out.2.2.2.1, H.out.2.2.2.2.1, H.out.2.2.2.2.2.1, H.out.2.2.2.2.2.2.below hb01⟩
  have hr1 := hr0.below hb1
  have HC := Lib.hid (And.intro hA1 (And.intro hr1 (And.intro hb01 (And.intro hDR hDw))))
  clear h1 h2 h3 h4 hb0 hb1 hb01 hA1 hr1 hd0 hr0 hDw
  go_wp2_with fail
  refine (collect_any (N := 2) (by omega) (enters_of Try.func30 (by kernel_rfl) rfl) w1 (fun n0 _ => H.out.1 Bl Ba Bs Bn D w1 n0 HC.out.1) (fun k hk => by rw [hk]; exact HC.out.1.st.lt) (fun xs W l o o' h a b => AdS.put h o' a b)).mono ?_
  rintro e w2 ⟨sl, xs, rfl, ⟨hxp, ⟨v', hs2, hl2, hn2⟩, hel⟩, hrow, hch⟩
  obtain ⟨pa, pn, pc, rfl⟩ := row_slice hl2
  obtain ⟨sa, sn, sc, rfl⟩ := row_slice hrow
  have hr2 := HC.out.2.1.ch hch HC.out.2.2.2.1
  have hw2 : ChP (fun k => k = D) w w2 := (ChP.ofBelow HC.out.2.2.1 : ChP (fun k => k = D) w w1).trans hch (fun _ _ h => h)
  have hb2 : Below w.heap.size w w2 := hw2.toBelow (Nat.le_refl _) (fun i hi => by rw [hi]; exact HC.out.2.2.2.2.1)
  have d0 : w2.cell? ⟨D, 0, none⟩ = some (.slice pa pn pc) := hs2.cell 0
  have d1 : w2.cell? ⟨D, 1, none⟩ = some (.int .i64 t) := hs2.cell 1
  have r0 : w2.cell? ⟨R, 0, none⟩ = some (.slice none 0 0) := hr2.cell 0
  have r1 : w2.cell? ⟨R, 1, none⟩ = some (.int .i64 0) := hr2.cell 1
  have f0 : w2.frozen? ⟨R, 0, none⟩ = false := hr2.free 0
  have f1 : w2.frozen? ⟨R, 1, none⟩ = false := hr2.free 1
  have hr4 : BkAt R 35 #[.slice pa pn pc, .int .i64 t] ((w2.setCell ⟨R, 0, none⟩ (.slice pa pn pc)).setCell ⟨R, 1, none⟩ (.int .i64 t)) := (hr2.set 0 _).set 1 _
  have hc4 : ChP (fun k => k = R) w2 ((w2.setCell ⟨R, 0, none⟩ (.slice pa pn pc)).setCell ⟨R, 1, none⟩ (.int .i64 t)) := ((ChP.refl (fun k => k = R) w2).set R 0 _ rfl).set R 1 _ rfl
  have hb4 : Below w.heap.size w ((w2.setCell ⟨R, 0, none⟩ (.slice pa pn pc)).setCell ⟨R, 1, none⟩ (.int .i64 t)) := (hb2.setCell (p := ⟨R, 0, none⟩) HC.out.2.2.2.2.2 _).setCell (p := ⟨R, 1, none⟩) HC.out.2.2.2.2.2 _
  have hl4 : LnsAt (.slice pa pn pc) os ((w2.setCell ⟨R, 0, none⟩ (.slice pa pn pc)).setCell ⟨R, 1, none⟩ (.int .i64 t)) := row_ch hl2 hc4 (fun g hg e => row_ne hl2 hr2 (by decide) hg e)
  have hw4 := ownsRow_base (row_ch hrow hc4 (fun g hg e => row_ne hrow hr2 (by decide) hg e)) HC.out.2.2.1.size
  have he4 : ∀ b ∈ xs, ElB b ((w2.setCell ⟨R, 0, none⟩ (.slice pa pn pc)).setCell ⟨R, 1, none⟩ (.int .i64 t)) := fun b hb => row_ch (hel b hb) hc4 (fun g hg e => row_ne (hel b hb) hr2 (by decide) hg e)
  have HZ := Lib.hid (And.intro hr4 (And.intro hl4 (And.intro hn2 (And.intro hw4 (And.intro hxp (And.intro he4 hb4))))))
  clear hr4 hl4 hn2 hw4 hxp he4 hb4 hs2 hl2 hel hrow hch hr2 hw2 hb2 hc4
  go_wp2_with fail
  refine bodyPost_ret (results_ct rfl _ _ R 35 #[.slice pa pn pc, .int .i64 t] (0, 0) _ rfl HZ.out.1 Try.underlying35 rfl sizeAs) rfl ?_
  exact ⟨.slice pa pn pc, .slice sa sn sc, xs, rfl, HZ.out.2.1, HZ.out.2.2.1, HZ.out.2.2.2.1, HZ.out.2.2.2.2.1, HZ.out.2.2.2.2.2.1, HZ.out.2.2.2.2.2.2⟩
end Go.Proofs.Ytfkgicakiapmaaa
