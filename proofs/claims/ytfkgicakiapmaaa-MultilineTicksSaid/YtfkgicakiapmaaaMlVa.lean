/- Package multiline: Clip, append. Package multiline: the iterator add$1. Package multiline: the iterator add$1, where a line is taken to the open ones. -/
import Derived.Test.YtfkgicakiapmaaaMlVe
import Derived.ArgAppend
import Derived.Maps.AppendAt
import Derived.Deep.RegionLaw
import Derived.Shelf.RegionOpen
namespace Go.Proofs.Ytfkgicakiapmaaa
open Go Go.RowKit

theorem step_append_run {P : Program} {ops : Array Oper} {o : Oper} {a : Act} {w : World} {K : Act → World → Prop} {Q : Exit → Act → World → Prop} {E : Prop}
    (hg : o.guard = none) (s x : Operand) (t : TypeId) (hop : o.op = Op.call { callee := Callee.builtin Builtin.append, args := #[s, x], argTypes := #[t, t] })
    {sv xv : Value} (hs : a.eval s = sv) (hx : a.eval x = xv) {R : Value → World → Prop} (hr : ∃ v' w', (Builtin.append_ #[t, t] o.type #[sv, xv]).run P w = .ok v' w' ∧ R v' w') (hK : ∀ v' w', R v' w' → K (a.put o.dst v') w') :
    if Region.wanted o (yielded ops a.tmps) = true then Oper.wp P o a w K Q else E := by
  have hw : Region.wanted o (yielded ops a.tmps) = true := by simp [Region.wanted, hg]
  rw [if_pos hw]
  obtain ⟨v', w', hrun, r1⟩ := hr
  unfold Oper.wp
  simp [execOp, hop, resolve, invoke, builtin, hs, hx, hrun, Result.andThen]
  exact hK v' w' r1

set_option maxRecDepth 100000 in
theorem clip_some (g n c : Nat) (h : n ≤ c) (w : World) : Calls Try.prog 42 #[.slice (some ⟨g, 0, none⟩) n c] w fun e w' => e = .returned (.slice (some ⟨g, 0, none⟩) n n) ∧ w' = w := by
  have h1 : (n : Int) ≤ (c : Int) := by omega
  have h0 : (0 : Int) ≤ (n : Int) := by omega
  go_enter Try.func42, Try.ntmps42
  go_wp2
  go_ret
  exact ⟨rfl, rfl⟩
set_option maxRecDepth 100000 in
theorem clip_nil (w : World) : Calls Try.prog 42 #[.slice none 0 0] w fun e w' => e = .returned (.slice none 0 0) ∧ w' = w := by
  go_enter Try.func42, Try.ntmps42
  go_wp2
  go_ret
  exact ⟨rfl, rfl⟩
theorem infoLn : (Try.prog.info? 46).map (fun i => (i.zero, i.size, i.bytes)) = some (some (.agg #[.int .i64 0, .int .i64 0, .string ⟨#[]⟩]), 3, 32) := by kernel_rfl
/-- The slice that Clip makes of the open lines. -/
def clipV (v : Value) : Value := match v with
  | .slice a n _ => .slice a n n
  | u => u
theorem clip_any (v : Value) (opn : List LnV) (hnl : opn = [] → v = .slice none 0 0) (w : World) (hv : LnsAt v opn w) : Calls Try.prog 42 #[v] w fun e w' => e = .returned (clipV v) ∧ w' = w := by
  by_cases ho : opn = []
  · rw [hnl ho]
    exact clip_nil w
  · obtain ⟨g, cap, rfl, hc, -⟩ := lns_form hv ho
    exact clip_some g _ cap hc w
theorem lnsC_snoc (l : List LnV) (x : LnV) : lnsC (l ++ [x]) = lnsC l ++ lnC x := by unfold lnsC; simp
theorem one_lnC (x : LnV) : ∀ u ∈ lnC x, u.oneCell' = true := by
  intro u hu
  simp only [lnC, List.mem_cons, List.not_mem_nil, or_false] at hu
  rcases hu with rfl | rfl | rfl <;> rfl
theorem ownsRow_base {W : World} {b1 b2 : Nat} {e : TypeId} {size n : Nat} {v : Value} {xs : List Value} (h : W.ownsRow b1 e size v n xs) (hb : b2 ≤ b1) : W.ownsRow b2 e size v n xs := by
  refine ⟨h.1, ?_⟩
  rcases h.2 with q | ⟨g, cap, cur, q1, q2, q3, q4, q5, q6⟩
  · exact .inl q
  · exact .inr ⟨g, cap, cur, q1, Nat.le_trans hb q2, q3, q4, q5, q6⟩
/-- append of one line onto the clipped open lines: a new row. -/
theorem clip_run (v : Value) (opn : List LnV) (x : LnV) (hok : OkS opn) (hnl : opn = [] → v = .slice none 0 0) (W : World) (hv : LnsAt v opn W) (ty : TypeId) (b : Nat) (hb : BkAt b 46 #[.int .i64 x.off, .int .i64 x.len, .string x.txt] W) :
    ∃ v' w', (Builtin.append_ #[33, 33] ty #[clipV v, .slice (some ⟨b, 0, none⟩) 1 1]).run Try.prog W = .ok v' w' ∧ (w'.ownsRow W.heap.size 46 3 v' (opn.length + 1) (lnsC (opn ++ [x])) ∧ W.grownBy w' none) := by
  obtain ⟨i0, hi, hz0, hz1, hz2⟩ := info_parts infoLn
  have hnews : ∀ j u, (lnC x)[j]? = some u → W.cell? ((⟨b, 0, none⟩ : Addr).add j) = some u := fun j u hj => by
    rw [Addr.add_lit, Nat.zero_add]
    refine (hb.cell j).trans ?_
    simpa [lnC] using hj
  have h40 := hok.1
  by_cases ho : opn = []
  · subst ho
    rw [hnl rfl]
    obtain ⟨v', w', hr, h1, h2, -, h4⟩ := run_append_own_at (P := Try.prog) W W.heap.size 33 ty 46 i0 _ 3 32 Try.underlying33 hi hz0 hz1 hz2 rfl (by decide) (.slice none 0 0) 0 [] (World.ownsRow_nil _ _ _ _) ⟨b, 0, none⟩ 1 1 (lnC x) rfl hnews (one_lnC x) (by unfold maxLen; omega) (by omega) (Nat.le_refl _)
    refine ⟨v', w', hr, ?_, h2⟩
    simpa [lnsC] using h1
  · obtain ⟨g, cap, rfl, hc, hx⟩ := lns_form hv ho
    obtain ⟨v', w', hr, h1, h2⟩ := run_append_arg_grows (P := Try.prog) W 33 ty 46 i0 _ 3 32 Try.underlying33 hi hz0 hz1 hz2 rfl (by decide) ⟨g, 0, none⟩ opn.length opn.length (lnsC opn) hv.1
      (fun j u hj => by rw [Addr.add_lit, Nat.zero_add]; exact (World.ownsRow.cellAt hv j (by rw [← hv.1]; exact (List.getElem?_eq_some_iff.1 hj).1)).trans hj) ⟨b, 0, none⟩ 1 1 (lnC x) rfl hnews (by omega) (by unfold maxLen; omega) (by omega)
    refine ⟨v', w', hr, ?_, h2⟩
    rw [lnsC_snoc]
    exact h1

set_option maxRecDepth 100000 in
set_option maxHeartbeats 2000000 in
theorem append_any (d : Nat) (v : Value) (s now : Int) (opn : List LnV) (x : LnV) (w : World) (hd : AsAt d v s w) (hv : LnsAt v opn w) (hok : OkS opn) (hnl : opn = [] → v = .slice none 0 0) :
    Calls Try.prog 33 #[.pointer (some ⟨d, 0, none⟩), .agg #[.int .i64 x.off, .int .i64 x.len, .string x.txt], .int .i64 now] w fun e w' => (∃ u, e = .returned u) ∧ ∃ v', AsAt d v' now w' ∧ LnsAt v' (opn ++ [x]) w' ∧ (opn ++ [x] = [] → v' = .slice none 0 0) ∧ ChP (fun k => k = d) w w' := by
  obtain ⟨off, len, txt⟩ := x
  simp only
  obtain ⟨a, n, c, hve⟩ := row_slice hv
  have hcl := fun W (hW : Below w.heap.size w W) => clip_any v opn hnl W (hv.below hW)
  have hrn := fun W b (hW : Below w.heap.size w W) hb => clip_run v opn ⟨off, len, txt⟩ hok hnl W (hv.below hW) 33 b hb
  have hdl := hd.lt
  have hcv : ∃ a n c, clipV v = .slice a n c := by rw [hve]; exact ⟨_, _, _, rfl⟩
  obtain ⟨ca, cn, cc, hce⟩ := hcv
  rw [hce] at hcl hrn
  obtain ⟨O1, hO1⟩ : ∃ o, Obj.cells #[.int .i64 off, .int .i64 len, .string txt] 46 = o := ⟨_, rfl⟩
  have hk1 : BkAt w.heap.size 46 #[.int .i64 off, .int .i64 len, .string txt] (w.alloc O1) := by rw [← hO1]; exact BkAt.new _ _ _
  have H := Lib.hid (And.intro hcl (And.intro hrn (And.intro hd hv)))
  have c0 : (w.alloc O1).cell? ⟨d, 0, none⟩ = some v := ((below_new w O1).cell (p := ⟨d, 0, none⟩) hdl).trans (hd.cell 0)
  have k0 : (w.alloc O1).cell? ⟨w.heap.size, 0, none⟩ = some (.int .i64 off) := hk1.cell 0
  have k1 : (w.alloc O1).cell? ⟨w.heap.size, 1, none⟩ = some (.int .i64 len) := hk1.cell 1
  have k2 : (w.alloc O1).cell? ⟨w.heap.size, 2, none⟩ = some (.string txt) := hk1.cell 2
  subst hve
  clear hcl hrn hd hv hok hnl hk1 hce
  go_enter Try.func33, Try.ntmps33
  go_wp2_with fail
  clear hO1
  have HB := Lib.hid (show Below w.heap.size w ((w.alloc O1).alloc (.cells #[.int .i64 off, .int .i64 len, .string txt] 46)).drew from (bl_trans' (below_new _ _) (below_new _ _)).drew)
  have HK := Lib.hid (show BkAt (w.heap.size + 1) 46 #[.int .i64 off, .int .i64 len, .string txt] ((w.alloc O1).alloc (.cells #[.int .i64 off, .int .i64 len, .string txt] 46)).drew from by
    have q := BkAt.new 46 #[.int .i64 off, .int .i64 len, .string txt] (w.alloc O1)
    rw [World.size_alloc] at q
    exact q)
  have HF := Lib.hid (show ∀ v' w', ((w.alloc O1).alloc (.cells #[.int .i64 off, .int .i64 len, .string txt] 46)).drew.grownBy w' none → w'.ownsRow ((w.alloc O1).alloc (.cells #[.int .i64 off, .int .i64 len, .string txt] 46)).drew.heap.size 46 3 v' (opn.length + 1) (lnsC (opn ++ [⟨off, len, txt⟩])) → AsAt d (.slice a n c) s w' ∧ w'.cell? ⟨d, 0, none⟩ = some (.slice a n c) ∧ w'.frozen? ⟨d, 0, none⟩ = false ∧ (∃ g k, v' = .slice (some ⟨g, 0, none⟩) (opn.length + 1) k) ∧ LnsAt v' (opn ++ [⟨off, len, txt⟩]) w' ∧ Below w.heap.size w w' from fun v' w' hg hr => by
    have hb := HB.out.trans ((Below.refl _ _).grown hg (Nat.le_trans HB.out.size (Nat.le_refl _)) (fun k e => by cases e))
    have hd := H.out.2.2.1.below hb
    obtain ⟨g, k, hk⟩ := ownsRow_succ hr
    refine ⟨hd, hd.cell 0, hd.free 0, ⟨g, k, hk⟩, ?_, hb⟩
    have h2 := hr
    unfold LnsAt
    rw [List.length_append]
    exact ownsRow_base h2 (Nat.zero_le _))
  go_region_law ((first
    | (refine step_append_run rfl (.tmp 11) (.tmp 13) 33 rfl rfl rfl (H.out.2.1 _ _ HB.out HK.out) ?_
       rintro v' w3 ⟨hr, hg⟩
       obtain ⟨hd3, d0, f0, ⟨g3, k3, rfl⟩, hl3, hb3⟩ := HF.out _ _ hg hr
       have HH := Lib.hid (And.intro hd3 (And.intro hl3 hb3))
       clear hr hg hd3 hl3 hb3)
    | (go_simp; go_wp2_with (go_at_call 42; refine (H.out.1 _ (by first | exact HB.out | exact (below_new _ _).drew)).mono ?_; rintro e w3 ⟨rfl, rfl⟩))))
  all_goals
    have hd4 := HH.out.1.set 0 (.slice (some ⟨g3, 0, none⟩) (opn.length + 1) k3)
    have hl4 : LnsAt (.slice (some ⟨g3, 0, none⟩) (opn.length + 1) k3) (opn ++ [⟨off, len, txt⟩]) (w3.setCell ⟨d, 0, none⟩ (.slice (some ⟨g3, 0, none⟩) (opn.length + 1) k3)) := row_ch HH.out.2.1 ((ChP.refl (fun k => k = d) w3).set d 0 _ rfl) (fun q hq e => row_ne HH.out.2.1 HH.out.1 (by decide) hq e)
    have hc4 := ((ChP.ofBelow HH.out.2.2 : ChP (fun k => k = d) w w3).set d 0 (.slice (some ⟨g3, 0, none⟩) (opn.length + 1) k3) rfl).set d 1 (.int .i64 now) rfl
    obtain ⟨W4, hW4⟩ : ∃ x, w3.setCell ⟨d, 0, none⟩ (.slice (some ⟨g3, 0, none⟩) (opn.length + 1) k3) = x := ⟨_, rfl⟩
    rw [hW4] at hd4 hl4 hc4 ⊢
    have c1 : W4.cell? ⟨d, 1, none⟩ = some (.int .i64 s) := hd4.cell 1
    have f1 : W4.frozen? ⟨d, 1, none⟩ = false := hd4.free 1
    have hd5 := hd4.set 1 (.int .i64 now)
    have hl5 : LnsAt (.slice (some ⟨g3, 0, none⟩) (opn.length + 1) k3) (opn ++ [⟨off, len, txt⟩]) (W4.setCell ⟨d, 1, none⟩ (.int .i64 now)) := row_ch hl4 ((ChP.refl (fun k => k = d) W4).set d 1 _ rfl) (fun q hq e => row_ne hl4 hd4 (by decide) hq e)
    have HZ := Lib.hid (And.intro hd5 (And.intro hl5 hc4))
    clear hd4 hl4 hc4 hd5 hl5 hW4 d0 f0
    go_wp2
    go_end0
    exact ⟨⟨_, rfl⟩, _, HZ.out.1, HZ.out.2.1, (fun h => absurd h (by simp)), HZ.out.2.2⟩
end Go.Proofs.Ytfkgicakiapmaaa

namespace Go.Proofs.Ytfkgicakiapmaaa
open Go Go.RowKit
attribute [local go_sem] Oper.semAt_some

/-- Blocks known whole. -/
def Bks (L : List (Nat × TypeId × Array Value)) (W : World) : Prop := ∀ t ∈ L, BkAt t.1 t.2.1 t.2.2 W
variable {L : List (Nat × TypeId × Array Value)}
theorem Bks.kp {n : Nat} {W W' : World} (h : Bks L W) (k : KpB n W W') (hT : ∀ t ∈ L, t.2.1 ≠ 44 ∧ t.2.1 ≠ 36) : Bks L W' := fun t ht => k.bk (h t ht) (hT t ht).1 (hT t ht).2
theorem Bks.it {n : Nat} {PI : Nat → Prop} {A B : World} (h : Bks L A) (k : ItP n PI A B) (hn : ∀ t ∈ L, t.1 < n ∧ ¬ PI t.1) : Bks L B := fun t ht => (k.low _ (hn t ht).1 (hn t ht).2).trans (h t ht)
theorem Bks.below {W W' : World} (h : Bks L W) (k : Below W.heap.size W W') : Bks L W' := fun t ht => (h t ht).below k
theorem Bks.putO {W : World} (h : Bks L W) {l : Nat} {o : Obj} (o' : Obj) (hl : W.heap[l]? = some o) (ho : o.isCells = false) : Bks L (W.putObj l o') := fun t ht => bk_putO (h t ht) o' hl ho
theorem YOk.bks {N l n0 n1 : Nat} {J : List BkV → World → Prop} (h : YOk N l n0 J) (hn : n0 ≤ n1) (hT : ∀ t ∈ L, t.2.1 ≠ 44 ∧ t.2.1 ≠ 36) : YOk N l n1 (fun pre W => J pre W ∧ Bks L W) := fun pre x W1 hj hel hlen m => by
  obtain ⟨fn, tm, u1, bo, hy, hR⟩ := h pre x W1 hj.1 hel hlen m
  refine ⟨fn, tm, u1, bo, hy, hR.mono ?_⟩
  rintro e W' ⟨rfl, h1, h2⟩
  exact ⟨rfl, ⟨h1, hj.2.kp h2 hT⟩, h2.mono hn⟩
theorem StJ.bks {n0 n1 : Nat} {PI : Nat → Prop} {J : List BkV → World → Prop} (h : StJ n0 PI J) (hn : n0 ≤ n1) (hT : ∀ t ∈ L, t.1 < n1 ∧ ¬ PI t.1) : StJ n1 PI (fun pre W => J pre W ∧ Bks L W) := fun s A B hj k =>
  ⟨h s A B hj.1 (k.mono hn (fun _ q => .inl q)), hj.2.it k hT⟩
theorem StJ.put {n0 : Nat} {PI : Nat → Prop} {J : List BkV → World → Prop} (h : StJ n0 PI J) {s : List BkV} {W : World} (hj : J s W) {l : Nat} {o : Obj} (o' : Obj) (hl : n0 ≤ l) (h1 : W.heap[l]? = some o) (h2 : o.isCells = false) : J s (W.putObj l o') := h s _ _ hj (ItP.putObj o' h1 h2 hl)
theorem StJ.bl {n0 : Nat} {PI : Nat → Prop} {J : List BkV → World → Prop} (h : StJ n0 PI J) {s : List BkV} {A B : World} (hj : J s A) (hn : n0 ≤ A.heap.size) (k : Below A.heap.size A B) : J s B := h s _ _ hj (ItP.ofBelow _ _ hn k)
theorem YOk.shift {N M l n0 : Nat} {J : List BkV → World → Prop} (pre0 : List BkV) (h : YOk N l n0 J) (hm : pre0.length + M ≤ N) : YOk M l n0 (fun pre => J (pre0 ++ pre)) := fun pre x W1 hj hel hlen m => by
  obtain ⟨fn, tm, u1, bo, hy, hR⟩ := h (pre0 ++ pre) x W1 hj hel (by rw [List.length_append]; omega) m
  refine ⟨fn, tm, u1, bo, hy, hR.mono ?_⟩
  rintro e W' ⟨rfl, h1, h2⟩
  refine ⟨rfl, ?_, h2⟩
  show J (pre0 ++ (pre ++ [x])) W'
  rw [← List.append_assoc]
  exact h1
theorem lns_one {B : Nat} {x : LnV} {W : World} (h : BkAt B 46 #[.int .i64 x.off, .int .i64 x.len, .string x.txt] W) : LnsAt (.slice (some ⟨B, 0, none⟩) 1 1) [x] W :=
  ⟨by simp [lnsC, lnC], .inr ⟨B, 1, _, rfl, Nat.zero_le _, h, Nat.le_refl _, by unfold maxLen; omega, rfl, by simp [lnsC, lnC]⟩⟩

/-- The blocks that a line brings to an end, and the open lines behind it. -/
def flB (opn : List LnV) : List PBk := if opn = [] then [] else [mkB ⟨#[]⟩ opn]
def tlR : ByteArray := ⟨#[116, 111, 111, 45, 108, 111, 110, 103]⟩
def addB (m : ByteArray → Bool) (emp : Bool) (opn : List LnV) (x : LnV) (tl : Bool) : List PBk :=
  if tl then flB opn ++ [mkB tlR [⟨x.off, x.len, ⟨#[]⟩⟩]] else if emp then [mkB ⟨#[]⟩ [x]] else if contS m opn x then [] else flB opn
def addO (m : ByteArray → Bool) (emp : Bool) (opn : List LnV) (x : LnV) (tl : Bool) : List LnV :=
  if tl then [] else if emp then opn else if contS m opn x then opn ++ [x] else [x]
def addT (emp : Bool) (s now : Int) (tl : Bool) : Int := if tl then s else if emp then s else now
/-- What add$1 has yielded at its end. -/
def AdS (d : Nat) (bs : List PBk) (opn : List LnV) (s : Int) (xs : List BkV) (W : World) : Prop :=
  xs.map (·.p) = bs ∧ (∃ v', AsAt d v' s W ∧ LnsAt v' opn W ∧ (opn = [] → v' = .slice none 0 0)) ∧ ∀ b ∈ xs, ElB b W
end Go.Proofs.Ytfkgicakiapmaaa

namespace Go.Proofs.Ytfkgicakiapmaaa
open Go Go.RowKit
attribute [local go_sem] Oper.semAt_some

/-- What add$1 finds. -/
structure AdW (d Bl Ba Bs Bn : Nat) (v : Value) (s now : Int) (opn : List LnV) (x : LnV) (dmg : Int) (tl : Bool) (op : Int) (rs : List (Nat × Nat)) (ra : Option Addr) (rc : Nat) (W : World) : Prop where
  bl : BkAt Bl 38 #[.int .i64 x.off, .int .i64 x.len, .string x.txt, .int .i64 dmg, .bool tl] W
  ba : BkAt Ba 85 #[.pointer (some ⟨d, 0, none⟩)] W
  bs : BkAt Bs 27 (ndA op ra rs.length rc) W
  bn : BkAt Bn 3 #[.int .i64 now] W
  st : AsAt d v s W
  ls : LnsAt v opn W
  nl : opn = [] → v = .slice none 0 0
  ok : OkS opn
  ox : OkL x
  sz : x.txt.size ≤ 20000
  nd : NdAt rs ra rc W
theorem AdW.below {d Bl Ba Bs Bn : Nat} {v : Value} {s now : Int} {opn : List LnV} {x : LnV} {dmg : Int} {tl : Bool} {op : Int} {rs : List (Nat × Nat)} {ra : Option Addr} {rc : Nat} {W W' : World} (h : AdW d Bl Ba Bs Bn v s now opn x dmg tl op rs ra rc W) (k : Below W.heap.size W W') : AdW d Bl Ba Bs Bn v s now opn x dmg tl op rs ra rc W' :=
  ⟨h.bl.below k, h.ba.below k, h.bs.below k, h.bn.below k, h.st.below k, h.ls.below k, h.nl, h.ok, h.ox, h.sz, h.nd.below k⟩
theorem ItP.ofCh {n d : Nat} {T : TypeId} {cs : Array Value} {A B : World} (h : BkAt d T cs A) (hT : T ≠ 44) (k : ChP (fun k => k = d) A B) (hn : n ≤ A.heap.size) : ItP n (fun k => k = d) A B :=
  ⟨k.os, k.tape, k.output, k.size, fun i hi hp => k.block i (by omega) hp, fun i cs' fz hi => (k.block i (lt_of_some hi) (by rintro rfl; have h : A.heap[i]? = _ := h; rw [h] at hi; cases hi; exact hT rfl)).trans hi⟩
theorem bk_ne {a b : Nat} {T1 T2 : TypeId} {c1 c2 : Array Value} {w : World} (h1 : BkAt a T1 c1 w) (h2 : BkAt b T2 c2 w) (hT : T1 ≠ T2) : a ≠ b := by
  rintro rfl
  have h1 : w.heap[a]? = _ := h1
  have h2 : w.heap[a]? = _ := h2
  rw [h1] at h2
  injection h2 with h2
  injection h2 with _ q
  exact hT q
theorem LnsAt.chd {d : Nat} {v : Value} {l : List LnV} {cs : Array Value} {A B : World} (h : LnsAt v l A) (hd : BkAt d 65 cs A) (k : ChP (fun k => k = d) A B) : LnsAt v l B := row_ch h k (fun g hg e => row_ne h hd (by decide) hg e)
theorem FlS.out {d : Nat} {v : Value} {s : Int} {opn : List LnV} {xs : List BkV} {W : World} (h : FlS d v s opn xs W) (hn : opn = [] → v = .slice none 0 0) : xs.map (·.p) = flB opn ∧ AsAt d (.slice none 0 0) s W ∧ ∀ b ∈ xs, ElB b W := by
  rcases h with ⟨h1, h2, h3⟩ | ⟨h1, h2, h3, h4⟩
  · subst h2
    rw [hn h1] at h3
    exact ⟨by unfold flB; rw [if_pos h1]; rfl, h3, fun b hb => absurd hb (by simp)⟩
  · subst h2
    refine ⟨by unfold flB; rw [if_neg h1]; rfl, h3, fun b hb => ?_⟩
    simp only [List.mem_singleton] at hb
    subst hb
    exact h4
variable {d Bl Ba Bs Bn : Nat} {v : Value} {s now : Int} {opn : List LnV} {x : LnV} {dmg : Int} {op : Int} {rs : List (Nat × Nat)} {ra : Option Addr} {rc : Nat} {w : World} {m : ByteArray → Bool}

set_option maxRecDepth 100000 in
set_option maxHeartbeats 4000000 in
theorem add1_def (hM : MtC op rs ra rc m) (hop : op ≠ 0) (h : AdW d Bl Ba Bs Bn v s now opn x dmg false op rs ra rc w) (n0 : Nat) :
    SeqM 2 n0 30 #[] #[.pointer (some ⟨Bl, 0, none⟩), .pointer (some ⟨Ba, 0, none⟩), .pointer (some ⟨Bs, 0, none⟩), .pointer (some ⟨Bn, 0, none⟩)] (fun k => k = d) (AdS d (addB m false opn x false) (addO m false opn x false) now) w := by
  intro l J W hW hn hJ hY h0
  have hA := h.below hW
  clear h hW
  obtain ⟨off, len, txt⟩ := x
  obtain ⟨bs, hbs⟩ : ∃ y, addB m false opn ⟨off, len, txt⟩ false = y := ⟨_, rfl⟩
  obtain ⟨os, hos⟩ : ∃ y, addO m false opn ⟨off, len, txt⟩ false = y := ⟨_, rfl⟩
  rw [hbs, hos]
  have HE := Lib.hid (And.intro hbs hos)
  clear hbs hos
  refine callsIn_of_wp_marks Try.func30 rfl trivial ?_ rfl
  simp only [Try.ntmps30, List.size_toArray, List.length_cons, List.length_nil, Nat.reduceAdd, Nat.reduceSub, Array.replicate_succ, Array.replicate_zero, List.push_toArray, List.append_toArray, List.nil_append, List.cons_append]
  have a0 : W.cell? ⟨Bl, 0, none⟩ = some (.int .i64 off) := hA.bl.cell 0
  have a1 : W.cell? ⟨Bl, 1, none⟩ = some (.int .i64 len) := hA.bl.cell 1
  have a2 : W.cell? ⟨Bl, 2, none⟩ = some (.string txt) := hA.bl.cell 2
  have a4 : W.cell? ⟨Bl, 4, none⟩ = some (.bool false) := hA.bl.cell 4
  have b0 : W.cell? ⟨Ba, 0, none⟩ = some (.pointer (some ⟨d, 0, none⟩)) := hA.ba.cell 0
  have c0 : W.cell? ⟨Bs, 0, none⟩ = some (.int .i64 op) := hA.bs.cell 0
  have c1 : W.cell? ⟨Bs, 1, none⟩ = some (.slice ra rs.length rc) := hA.bs.cell 1
  have c2 : W.cell? ⟨Bs, 2, none⟩ = some (.string ⟨#[]⟩) := hA.bs.cell 2
  have c3 : W.cell? ⟨Bs, 3, none⟩ = some (.slice none 0 0) := hA.bs.cell 3
  have c4 : W.cell? ⟨Bs, 4, none⟩ = some (.int .i64 0) := hA.bs.cell 4
  have c5 : W.cell? ⟨Bs, 5, none⟩ = some (.int .i64 0) := hA.bs.cell 5
  have hdW : d < W.heap.size := hA.st.lt
  have l0 := hA.bl.lt
  have l1 := hA.ba.lt
  have l2 := hA.bs.lt
  have z1 : (op == 0) = false := by rw [beq_eq_false_iff_ne]; exact hop
  have z2 : decide (op = 0) = false := decide_eq_false hop
  obtain ⟨O1, hO1⟩ : ∃ o, Obj.cells #[.func (.yield l) #[] #[]] 86 = o := ⟨_, rfl⟩
  obtain ⟨O2, hO2⟩ : ∃ o, Obj.cells #[.int .i64 off, .int .i64 len, .string txt] 46 = o := ⟨_, rfl⟩
  have hb0 : Below W.heap.size W ((W.alloc O1).alloc O2) := ((Below.refl _ W).alloc (Nat.le_refl _) _).alloc (by simp) _
  have hk1 : BkAt W.heap.size 86 #[.func (.yield l) #[] #[]] ((W.alloc O1).alloc O2) := by rw [← hO1]; exact (BkAt.new _ _ _).below (below_new _ _)
  have hk2 : BkAt (W.heap.size + 1) 46 #[.int .i64 off, .int .i64 len, .string txt] ((W.alloc O1).alloc O2) := by
    have q := BkAt.new 46 #[.int .i64 off, .int .i64 len, .string txt] (W.alloc O1)
    rw [hO2, World.size_alloc] at q
    exact q
  have hA2 := hA.below hb0
  have y0 : ((W.alloc O1).alloc O2).cell? ⟨W.heap.size, 0, none⟩ = some (.func (.yield l) #[] #[]) := hk1.cell 0
  have q0 : ((W.alloc O1).alloc O2).cell? ⟨W.heap.size + 1, 0, none⟩ = some (.int .i64 off) := hk2.cell 0
  have q1 : ((W.alloc O1).alloc O2).cell? ⟨W.heap.size + 1, 1, none⟩ = some (.int .i64 len) := hk2.cell 1
  have q2 : ((W.alloc O1).alloc O2).cell? ⟨W.heap.size + 1, 2, none⟩ = some (.string txt) := hk2.cell 2
  have H := Lib.hid (And.intro hJ (And.intro hY (And.intro hn (And.intro h0 (And.intro hb0 (And.intro hk1 (And.intro hk2 (And.intro hM hA2))))))))
  clear hJ hY h0 hn hA hb0 hk1 hk2 hM hop hA2
  gi_wp2_with (refine ⟨trivial, ?_⟩; gi_at_call 32; refine (callsIn_wide.2 (cont_any d v s opn ⟨off, len, txt⟩ op rs ra rc m H.out.2.2.2.2.2.2.2.1 _ H.out.2.2.2.2.2.2.2.2.st H.out.2.2.2.2.2.2.2.2.ls H.out.2.2.2.2.2.2.2.2.ok H.out.2.2.2.2.2.2.2.2.ox H.out.2.2.2.2.2.2.2.2.sz H.out.2.2.2.2.2.2.2.2.nd)).mono ?_)
  clear hO1 hO2
  rintro e w1 ⟨rfl, hb1⟩
  have hb01 := bl_trans' H.out.2.2.2.2.1 hb1
  have hA1 := H.out.2.2.2.2.2.2.2.2.below hb1
  have hk1 := H.out.2.2.2.2.2.1.below hb1
  have hk2 := H.out.2.2.2.2.2.2.1.below hb1
  have hJ1 := H.out.1.bl H.out.2.2.2.1 H.out.2.2.1 hb01
  have hlw : W.heap.size + 1 < w1.heap.size := hk2.lt
  clear y0 q0 q1 q2 a0 a1 a2 a4 b0 c0 c1 c2 c3 c4 c5 l0 l1 l2
  by_cases hc : contS m opn ⟨off, len, txt⟩ = true
  · rw [hc]
    have hbs : bs = [] := by rw [← HE.out.1]; unfold addB; rw [if_neg (by simp), if_neg (by simp), if_pos hc]
    have hos : os = opn ++ [⟨off, len, txt⟩] := by rw [← HE.out.2]; unfold addO; rw [if_neg (by simp), if_neg (by simp), if_pos hc]
    subst hbs
    subst hos
    have y0 : w1.cell? ⟨W.heap.size, 0, none⟩ = some (.func (.yield l) #[] #[]) := hk1.cell 0
    have q0 : w1.cell? ⟨W.heap.size + 1, 0, none⟩ = some (.int .i64 off) := hk2.cell 0
    have q1 : w1.cell? ⟨W.heap.size + 1, 1, none⟩ = some (.int .i64 len) := hk2.cell 1
    have q2 : w1.cell? ⟨W.heap.size + 1, 2, none⟩ = some (.string txt) := hk2.cell 2
    have b0 : w1.cell? ⟨Ba, 0, none⟩ = some (.pointer (some ⟨d, 0, none⟩)) := hA1.ba.cell 0
    have n1 : w1.cell? ⟨Bn, 0, none⟩ = some (.int .i64 now) := hA1.bn.cell 0
    have H1 := Lib.hid (And.intro hA1 (And.intro hJ1 (Nat.le_trans H.out.2.2.1 hb01.size)))
    clear hA1 hk1 hk2 hJ1 hb1 hb01
    gi_wp2_with (refine ⟨trivial, ?_⟩; gi_at_call 33; refine (callsIn_wide.2 (append_any d v s now opn ⟨off, len, txt⟩ _ H1.out.1.st H1.out.1.ls H1.out.1.ok H1.out.1.nl)).mono ?_)
    rintro e w2 ⟨⟨u, rfl⟩, v', hs2, hl2, hn2, hc2⟩
    have hJ2 := H.out.1 [] w1 w2 H1.out.2.1 (ItP.ofCh H1.out.1.st (by decide) hc2 H1.out.2.2)
    have HZ := Lib.hid (And.intro hs2 (And.intro hl2 (And.intro hn2 hJ2)))
    clear hs2 hl2 hn2 hc2 hJ2 y0 q0 q1 q2 b0 n1
    gi_wp2
    refine ⟨_, results_none rfl _ _ _, ?_⟩
    exact ⟨⟨_, rfl⟩, [], ⟨rfl, ⟨v', HZ.out.1, HZ.out.2.1, HZ.out.2.2.1⟩, fun b hb => absurd hb (by simp)⟩, HZ.out.2.2.2⟩
  · have hcf : contS m opn ⟨off, len, txt⟩ = false := by simpa using hc
    rw [hcf]
    have hbs : bs = flB opn := by rw [← HE.out.1]; unfold addB; rw [if_neg (by simp), if_neg (by simp), if_neg hc]
    have hos : os = [⟨off, len, txt⟩] := by rw [← HE.out.2]; unfold addO; rw [if_neg (by simp), if_neg (by simp), if_neg hc]
    subst hbs
    subst hos
    clear hc hcf
    have y0 : w1.cell? ⟨W.heap.size, 0, none⟩ = some (.func (.yield l) #[] #[]) := hk1.cell 0
    have b0 : w1.cell? ⟨Ba, 0, none⟩ = some (.pointer (some ⟨d, 0, none⟩)) := hA1.ba.cell 0
    have hL : Bks [(Ba, 85, #[.pointer (some ⟨d, 0, none⟩)]), (W.heap.size + 1, 46, #[.int .i64 off, .int .i64 len, .string txt]), (Bn, 3, #[.int .i64 now])] w1 := by
      intro t ht
      simp only [List.mem_cons, List.not_mem_nil, or_false] at ht
      rcases ht with rfl | rfl | rfl
      · exact hA1.ba
      · exact hk2
      · exact hA1.bn
    have hT : ∀ t ∈ [(Ba, 85, (#[.pointer (some ⟨d, 0, none⟩)] : Array Value)), (W.heap.size + 1, 46, #[.int .i64 off, .int .i64 len, .string txt]), (Bn, 3, #[.int .i64 now])], t.2.1 ≠ 44 ∧ t.2.1 ≠ 36 := by
      intro t ht
      simp only [List.mem_cons, List.not_mem_nil, or_false] at ht
      rcases ht with rfl | rfl | rfl <;> exact ⟨by dsimp only; decide, by dsimp only; decide⟩
    have hB : ∀ t ∈ [(Ba, 85, (#[.pointer (some ⟨d, 0, none⟩)] : Array Value)), (W.heap.size + 1, 46, #[.int .i64 off, .int .i64 len, .string txt]), (Bn, 3, #[.int .i64 now])], t.1 < w1.heap.size ∧ ¬ (fun k => k = d) t.1 := by
      intro t ht
      have h1 := (hL t ht).lt
      refine ⟨h1, fun e => ?_⟩
      simp only [List.mem_cons, List.not_mem_nil, or_false] at ht
      rcases ht with rfl | rfl | rfl
      · exact bk_ne hA1.ba hA1.st (by decide) e
      · exact bk_ne hk2 hA1.st (by decide) e
      · exact bk_ne hA1.bn hA1.st (by decide) e
    have hn1 : n0 ≤ w1.heap.size := Nat.le_trans H.out.2.2.1 hb01.size
    have hfl := flush_seq d v s opn w1 hA1.st hA1.ls hA1.ok w1.heap.size l _ w1 (Below.refl _ _) (Nat.le_refl _) (H.out.1.bks hn1 hB) ((YOk.shift (M := 1) [] H.out.2.1 (by simp)).bks hn1 hT) ⟨hJ1, hL⟩
    have H1 := Lib.hid (And.intro hfl (And.intro hA1 (And.intro hn1 hb01)))
    clear hfl hA1 hk1 hk2 hJ1 hb1 hb01 hL hT hB hn1
    gi_wp2_with (refine ⟨trivial, ?_⟩; gi_at_call 20; refine (CallsIn.any (H1.out.1)).mono ?_)
    rintro e w2 ⟨⟨u, rfl⟩, xs, hxs, hJ2, hL2⟩
    obtain ⟨hxp, hs2, hel⟩ := hxs.out H1.out.2.1.nl
    have b2 : w2.cell? ⟨Ba, 0, none⟩ = some (.pointer (some ⟨d, 0, none⟩)) := (hL2 _ (.head _)).cell 0
    have q0 : w2.cell? ⟨W.heap.size + 1, 0, none⟩ = some (.int .i64 off) := (hL2 _ (.tail _ (.head _))).cell 0
    have q1 : w2.cell? ⟨W.heap.size + 1, 1, none⟩ = some (.int .i64 len) := (hL2 _ (.tail _ (.head _))).cell 1
    have q2 : w2.cell? ⟨W.heap.size + 1, 2, none⟩ = some (.string txt) := (hL2 _ (.tail _ (.head _))).cell 2
    have n1 : w2.cell? ⟨Bn, 0, none⟩ = some (.int .i64 now) := (hL2 _ (.tail _ (.tail _ (.head _)))).cell 0
    have hsz2 : n0 ≤ w2.heap.size := by have h1 := (hL2 _ (.tail _ (.head _))).lt; have h2 := H.out.2.2.1; dsimp only at h1; omega
    have H2 := Lib.hid (And.intro hxp (And.intro hs2 (And.intro hel (And.intro hJ2 hsz2))))
    clear hxs hxp hs2 hel hJ2 hL2 y0 b0 hsz2
    gi_wp2_with (refine ⟨trivial, ?_⟩; gi_at_call 33; refine (callsIn_wide.2 (append_any d (.slice none 0 0) s now [] ⟨off, len, txt⟩ _ H2.out.2.1 (lns_empty _) ⟨by simp, fun y hy => absurd hy (by simp)⟩ (fun _ => rfl))).mono ?_)
    rintro e w3 ⟨⟨u2, rfl⟩, v', hs3, hl3, hn3, hc3⟩
    have hJ3 := H.out.1 xs w2 w3 H2.out.2.2.2.1 (ItP.ofCh H2.out.2.1 (by decide) hc3 H2.out.2.2.2.2)
    have hel3 : ∀ b ∈ xs, ElB b w3 := fun b hb => LnsAt.chd (H2.out.2.2.1 b hb) H2.out.2.1 hc3
    have HZ := Lib.hid (And.intro hs3 (And.intro hl3 (And.intro hn3 (And.intro hJ3 hel3))))
    clear hs3 hl3 hn3 hc3 hJ3 hel3 q0 q1 q2 b2 n1
    gi_wp2
    refine ⟨_, results_none rfl _ _ _, ?_⟩
    exact ⟨⟨_, rfl⟩, xs, ⟨H2.out.1, ⟨v', HZ.out.1, HZ.out.2.1, HZ.out.2.2.1⟩, HZ.out.2.2.2.2⟩, HZ.out.2.2.2.1⟩
end Go.Proofs.Ytfkgicakiapmaaa
