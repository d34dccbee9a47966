/- Package multiline: ticks only cut blocks: each end of a block without ticks is an end with ticks. A set of ends: a map of int to bool of the law's own. MultilineTicks: the law. -/
import Derived.Test.YtfkgicakiapmaaaMlVc
import Derived.Test.YtfkgicakiapmaaaMlU
import Derived.Maps.Own
import Derived.Maps.OwnSet
import Derived.Deep.RegionHeld3
import Derived.Deep.DeepCutAuto
namespace Go.Proofs.Ytfkgicakiapmaaa
open Go Go.RowKit

/-- The open lines with ticks against those without, E the ends so far with ticks. -/
def TkI (E : List Int) (a b : List LnV) : Prop := (∃ p, p ++ b = a ∧ b ≠ []) ∨ (b = [] ∧ (a = [] ∨ lastEnd a ∈ E))
theorem lastEnd_app (p b : List LnV) (h : b ≠ []) : lastEnd (p ++ b) = lastEnd b := by
  unfold lastEnd
  rw [List.getLast?_append]
  cases hb : b.getLast? with
  | none => exact absurd (List.getLast?_eq_none_iff.1 hb) h
  | some y => simp
theorem TkI.init : TkI [] [] [] := .inr ⟨rfl, .inl rfl⟩
theorem TkI.mono {E E' : List Int} {a b : List LnV} (h : TkI E a b) (hE : ∀ e ∈ E, e ∈ E') : TkI E' a b := by
  rcases h with h | ⟨h1, h2 | h2⟩
  · exact .inl h
  · exact .inr ⟨h1, .inl h2⟩
  · exact .inr ⟨h1, .inr (hE _ h2)⟩
/-- The end of the open lines without ticks is known once the lines with ticks are flushed. -/
theorem TkI.flush {E : List Int} {a b : List LnV} (h : TkI E a b) : ∀ x ∈ flB a, x.en ∈ E ++ (flB b).map (·.en) := by
  intro x hx
  unfold flB at hx
  split at hx
  · exact absurd hx (by simp)
  · rename_i ha
    simp only [List.mem_singleton] at hx
    subst hx
    show lastEnd a ∈ _
    rcases h with ⟨p, rfl, hb⟩ | ⟨rfl, h | h⟩
    · rw [lastEnd_app p b hb]
      unfold flB
      rw [if_neg hb]
      simp [mkB]
    · exact absurd h ha
    · exact List.mem_append_left _ h
/-- A tick. -/
theorem TkI.tick {E : List Int} {a b : List LnV} (h : TkI E a b) : TkI (E ++ (flB b).map (·.en)) a [] := by
  refine .inr ⟨rfl, ?_⟩
  by_cases ha : a = []
  · exact .inl ha
  · refine .inr ?_
    have := h.flush (mkB ⟨#[]⟩ a) (by unfold flB; rw [if_neg ha]; simp)
    exact this
/-- A line. -/
theorem TkI.add {E : List Int} {a b : List LnV} (h : TkI E a b) (m : ByteArray → Bool) (emp : Bool) (x : LnV) (tl : Bool) (ha : a.length < 40) (he : emp = true → a = []) :
    TkI (E ++ (addB m emp b x tl).map (·.en)) (addO m emp a x tl) (addO m emp b x tl) ∧ ∀ y ∈ addB m emp a x tl, y.en ∈ E ++ (addB m emp b x tl).map (·.en) := by
  have hE : ∀ e ∈ E, e ∈ E ++ (addB m emp b x tl).map (·.en) := fun e h => List.mem_append_left _ h
  cases tl with
  | true =>
    have e1 : ∀ o, addO m emp o x true = [] := fun o => by unfold addO; rw [if_pos rfl]
    have e2 : ∀ o, addB m emp o x true = flB o ++ [mkB tlR [⟨x.off, x.len, ⟨#[]⟩⟩]] := fun o => by unfold addB; rw [if_pos rfl]
    refine ⟨by rw [e1, e1]; exact .inr ⟨rfl, .inl rfl⟩, fun y hy => ?_⟩
    rw [e2] at hy ⊢
    rw [List.map_append, ← List.append_assoc]
    rcases List.mem_append.1 hy with hy | hy
    · exact List.mem_append_left _ (h.flush y hy)
    · simp only [List.mem_singleton] at hy
      subst hy
      simp
  | false =>
    cases emp with
    | true =>
      have hb : b = [] := by
        rcases h with ⟨p, hp, hb⟩ | ⟨hb, -⟩
        · rw [he rfl] at hp
          exact absurd (List.append_eq_nil_iff.1 hp).2 hb
        · exact hb
      have ha0 := he rfl
      subst hb ha0
      have e1 : addO m true [] x false = [] := by simp [addO]
      have e2 : addB m true [] x false = [mkB ⟨#[]⟩ [x]] := by simp [addB]
      rw [e1, e2]
      exact ⟨.inr ⟨rfl, .inl rfl⟩, fun y hy => by simp only [List.mem_singleton] at hy; subst hy; simp⟩
    | false =>
      have e1 : ∀ o, addO m false o x false = if contS m o x = true then o ++ [x] else [x] := fun o => by simp [addO]
      have e2 : ∀ o, addB m false o x false = if contS m o x = true then [] else flB o := fun o => by simp [addB]
      have hnil : contS m [] x = false := by simp [contS]
      rcases h with ⟨p, rfl, hb⟩ | ⟨rfl, h⟩
      · have hc : contS m (p ++ b) x = contS m b x := by
          unfold contS
          rw [lastEnd_app p b hb]
          have h1 : p ++ b ≠ [] := fun q => hb (List.append_eq_nil_iff.1 q).2
          have h2 : b.length < 40 := by rw [List.length_append] at ha; omega
          congr 1
          rw [decide_eq_decide]
          exact ⟨fun q => ⟨hb, h2, q.2.2⟩, fun q => ⟨h1, ha, q.2.2⟩⟩
        rw [e1, e1, e2, e2, hc]
        by_cases hcc : contS m b x = true
        · rw [if_pos hcc, if_pos hcc, if_pos hcc, if_pos hcc]
          exact ⟨.inl ⟨p, by rw [List.append_assoc], by simp⟩, fun y hy => absurd hy (by simp)⟩
        · rw [if_neg hcc, if_neg hcc, if_neg hcc, if_neg hcc]
          exact ⟨.inl ⟨[], rfl, by simp⟩, fun y hy => TkI.flush (.inl ⟨p, rfl, hb⟩) y hy⟩
      · have f1 : addO m false [] x false = [x] := by rw [e1, hnil]; simp
        have f2 : addB m false [] x false = [] := by rw [e2, hnil]; simp [flB]
        rw [f1, f2, e1, e2]
        by_cases hcc : contS m a x = true
        · rw [if_pos hcc, if_pos hcc]
          exact ⟨.inl ⟨a, rfl, by simp⟩, fun y hy => absurd hy (by simp)⟩
        · rw [if_neg hcc, if_neg hcc]
          exact ⟨.inl ⟨[], rfl, by simp⟩, fun y hy => TkI.flush (.inr ⟨rfl, h⟩) y hy⟩
end Go.Proofs.Ytfkgicakiapmaaa

namespace Go.Proofs.Ytfkgicakiapmaaa
open Go Go.RowKit Go.ChangeMaps Go.MapKept Go.Maps

theorem keyI : Go.Maps.Keyed Try.prog 3 := int_keyed Try.underlying3
/-- The map in block M holds every end of E. -/
def EnAt (M n : Nat) (E : List Int) (W : World) : Prop := ∃ D : DataW Unit, W.ownsMap Try.prog 3 (plainElem Try.prog 4) M n D ∧ ∀ e ∈ E, D.atKey (.int .i64 e) (.lit (.bool false)) = .lit (.bool true)
theorem EnAt.made (w : World) : EnAt w.heap.size 0 [] (w.alloc (.map #[] 0)) := ⟨.map [], World.ownsMap_made _ _ _ _, fun e he => absurd he (by simp)⟩
theorem EnAt.kept {M n : Nat} {E : List Int} {W W' : World} {row : Option Nat} (h : EnAt M n E W) (hg : W.grownBy W' row) (hne : some M ≠ row) : EnAt M n E W' := by
  obtain ⟨D, h1, h2⟩ := h
  exact ⟨D, h1.kept hg hne, h2⟩
theorem EnAt.look {M n : Nat} {E : List Int} {W : World} (h : EnAt M n E W) {e : Int} (he : e ∈ E) (h0 : 0 ≤ e) (h1 : e ≤ 4611686018427387904) : (Instr.lookup 48 (.map (some M)) (.int .i64 e) false).run Try.prog W = .ok (.bool true) W := by
  obtain ⟨D, hD, hE⟩ := h
  have hkey : keyOf Try.prog 3 (.int .i64 e) = some (.int .i64 e) := keyOf_int_mk Try.underlying3 (WalkArith.wf_i64 (by omega))
  obtain ⟨val, ps, hlk, hat⟩ := hD.lookup keyI Try.underlying48 (zeroBool W) (plainElem_bool Try.underlying4 false) hkey
  obtain ⟨y, rfl, hy⟩ := plainElem_bool_inv Try.underlying4 hat
  simp only [Prod.mk.injEq] at hy
  have hy := hy.1
  rw [hE e he] at hy
  simp only [DataW.lit.injEq, Lit.bool.injEq] at hy
  subst hy
  exact hlk
/-- ends[e] = true. -/
theorem wpList_end {w : World} {ops : Array Oper} {rest : List Oper} {o : Oper} {a : Act} {Q : Exit → Act → World → Prop} (hg : o.guard = none) (m x v : Operand) (hop : o.op = Op.mapUpdate 48 m x v)
    (M n : Nat) (E : List Int) (hm : a.eval m = .map (some M)) (h : EnAt M n E w) (hn : n ≤ 1000000) (e : Int) (hx : a.eval x = .int .i64 e) (hv : a.eval v = .bool true) (h0 : 0 ≤ e) (h1 : e ≤ 4611686018427387904)
    (hK : ∀ w', EnAt M (n + 1) (E ++ [e]) w' → w.grownBy w' (some M) → wpList Try.prog ops Q rest (a.put o.dst undef) w') : wpList Try.prog ops Q (o :: rest) a w := by
  obtain ⟨D, hD, hE⟩ := h
  have hkey : keyOf Try.prog 3 (.int .i64 e) = some (.int .i64 e) := keyOf_int_mk Try.underlying3 (WalkArith.wf_i64 (by omega))
  refine wpList_mapUpdate_own w hg m x v 48 hop 3 4 keyI Try.underlying48 _ M n D hm hD (by unfold maxLen; omega) _ _ _ hx hv hkey _ [] (plainElem_bool Try.underlying4 true) (fun w' h2 h3 => hK w' ⟨_, h2, fun y hy => ?_⟩ h3)
  by_cases hye : y = e
  · subst hye
    rw [atKey_put_same (World.ownsMap.isMap hD) (by simp [WideAt.IsKeyLit])]
  · rw [atKey_put_other (fun q => hye (by injection q))]
    rcases List.mem_append.1 hy with hy | hy
    · exact hE y hy
    · exact absurd (by simpa using hy) hye

theorem addO_len (m : ByteArray → Bool) (emp : Bool) (opn : List LnV) (x : LnV) (tl : Bool) : (addO m emp opn x tl).length ≤ opn.length + 1 := by
  unfold addO
  repeat' split
  all_goals simp
theorem asmF_len (m : ByteArray → Bool) (emp : Bool) (l : List FrV) : (asmF m emp l).1.length ≤ l.length := by
  have key : ∀ (l : List FrV) (a : List LnV × List PBk), (l.foldl (fun a x => (addO m emp a.1 x.ln x.tl, a.2 ++ addB m emp a.1 x.ln x.tl)) a).1.length ≤ a.1.length + l.length := by
    intro l
    induction l with
    | nil => exact fun a => Nat.le_refl _
    | cons x t ih =>
      intro a
      have h1 := ih (addO m emp a.1 x.ln x.tl, a.2 ++ addB m emp a.1 x.ln x.tl)
      have h2 := addO_len m emp a.1 x.ln x.tl
      simp only [List.foldl_cons, List.length_cons] at h1 ⊢
      omega
  have h := key l ([], [])
  rw [List.length_nil, Nat.zero_add] at h
  exact h
theorem asmF_emp (m : ByteArray → Bool) {emp : Bool} (he : emp = true) (l : List FrV) : (asmF m emp l).1 = [] := by
  have key : ∀ (l : List FrV) (a : List LnV × List PBk), a.1 = [] → (l.foldl (fun a x => (addO m emp a.1 x.ln x.tl, a.2 ++ addB m emp a.1 x.ln x.tl)) a).1 = [] := by
    intro l
    induction l with
    | nil => exact fun a h => h
    | cons x t ih => exact fun a h => ih _ (addO_emp (fun _ => h) he)
  exact key l ([], []) rfl
/-- The ends so far with ticks, against Assemble's blocks of the lines so far. -/
structure TkS (E : List Int) (m : ByteArray → Bool) (emp : Bool) (ls : List FrV) (opn : List LnV) : Prop where
  tk : TkI E (asmF m emp ls).1 opn
  bs : ∀ b ∈ (asmF m emp ls).2, b.en ∈ E
theorem TkS.init (m : ByteArray → Bool) (emp : Bool) : TkS [] m emp [] [] := ⟨TkI.init, fun b hb => absurd hb (by simp [asmF])⟩
theorem TkS.add {E : List Int} {m : ByteArray → Bool} {emp : Bool} {ls : List FrV} {opn : List LnV} (h : TkS E m emp ls opn) (x : FrV) (hl : ls.length < 40) : TkS (E ++ (addB m emp opn x.ln x.tl).map (·.en)) m emp (ls ++ [x]) (addO m emp opn x.ln x.tl) := by
  have h1 := h.tk.add m emp x.ln x.tl (Nat.lt_of_le_of_lt (asmF_len m emp ls) hl) (fun he => asmF_emp m he ls)
  refine ⟨by rw [asmF_snoc]; exact h1.1, fun b hb => ?_⟩
  rw [asmF_snoc] at hb
  rcases List.mem_append.1 hb with hb | hb
  · exact List.mem_append_left _ (h.bs b hb)
  · exact h1.2 b hb
theorem TkS.tick {E : List Int} {m : ByteArray → Bool} {emp : Bool} {ls : List FrV} {opn : List LnV} (h : TkS E m emp ls opn) : TkS (E ++ (flB opn).map (·.en)) m emp ls [] :=
  ⟨h.tk.tick, fun b hb => List.mem_append_left _ (h.bs b hb)⟩
theorem TkS.all {E : List Int} {m : ByteArray → Bool} {emp : Bool} {ls : List FrV} {opn : List LnV} (h : TkS E m emp ls opn) : ∀ b ∈ asmB m emp ls, b.en ∈ E ++ (flB opn).map (·.en) := by
  intro b hb
  rcases List.mem_append.1 hb with hb | hb
  · exact List.mem_append_left _ (h.bs b hb)
  · exact h.tk.flush b hb
/-- What the law keeps stands when the map of ends is written. -/
theorem CvI.mp {op : Int} {rs : List (Nat × Nat)} {ra : Option Addr} {rc : Nat} {fv : Value} {ls : List FrV} {tv : Value} {lt : List UInt8} {n N5 A M : Nat} {w : World} {ov : Value} {xs : List BkV} {v : Value} {s : Int} {opn : List LnV} {wr w' : World} (h : CvI op rs ra rc fv ls tv lt n N5 A w ov xs v s opn wr) {o : Obj} (hM : wr.heap[M]? = some o) (ho : o.isCells = false) (hn : n ≤ M) (hg : wr.grownBy w' (some M)) : CvI op rs ra rc fv ls tv lt n N5 A w ov xs v s opn w' := by
  have hr : ∀ r, (some M : Option Nat) = some r → ∃ o : Obj, wr.heap[r]? = some o ∧ o.isCells = false := fun r e => by cases e; exact ⟨o, hM, ho⟩
  have hbl : Below n wr w' := ⟨World.grownBy.os hg, World.grownBy.tape hg, World.grownBy.output hg, World.grownBy.size hg, fun i hi => World.grownBy.block hg i (Nat.lt_of_lt_of_le hi h.hn) (fun e => by cases e; omega)⟩
  have hb : ∀ {b : Nat} {T : TypeId} {cs : Array Value}, BkAt b T cs wr → BkAt b T cs w' := fun {b T cs} k => (World.grownBy.block hg b (lt_of_some k) (fun e => by
    cases e
    have k2 : wr.heap[M]? = _ := k
    rw [hM] at k2
    cases k2
    cases ho)).trans k
  exact ⟨row_gr h.nd hg hr, hb h.nb, row_gr h.fr hg hr, h.tk.below hbl, h.bl.trans hbl, row_gr h.row hg hr, fun b hbm => row_gr (h.el b hbm) hg hr, hb h.bx, row_gr h.ln hg hr, h.nil, h.hA, Nat.le_trans h.hn hbl.size⟩
theorem EnAt.obj {M n : Nat} {E : List Int} {W : World} (h : EnAt M n E W) : ∃ o : Obj, W.heap[M]? = some o ∧ o.isCells = false := by
  obtain ⟨D, ⟨es, clock, hb, -⟩, -⟩ := h
  exact ⟨_, hb, rfl⟩
theorem EnAt.row {M n : Nat} {E : List Int} {W W' : World} (h : EnAt M n E W) {base : Nat} {e : TypeId} {size : Nat} {v : Value} {k : Nat} {xs : List Value} (hr : W.ownsRow base e size v k xs) (hg : W.grownBy W' v.ownBlock) : EnAt M n E W' := by
  refine h.kept hg (fun q => ?_)
  obtain ⟨o, h1, h2⟩ := h.obj
  obtain ⟨cur, fz, h3, -⟩ := row_type hr q.symm
  rw [h1] at h3
  cases h3
  cases h2
theorem EnAt.below {M n : Nat} {E : List Int} {W W' : World} (h : EnAt M n E W) (k : Below W.heap.size W W') : EnAt M n E W' :=
  h.kept (row := none) ⟨k.os, k.tape, k.output, k.size, fun i hi _ => k.block i hi⟩ (by simp)
end Go.Proofs.Ytfkgicakiapmaaa

namespace Go.Proofs.Ytfkgicakiapmaaa
open Go Go.RowKit

theorem lnEnd_ok {l : List LnV} (h : OkS l) : 0 ≤ lastEnd l ∧ lastEnd l ≤ 2199023255552 := by
  unfold lastEnd
  cases hl : l.getLast? with
  | none => exact ⟨Int.le_refl _, by decide⟩
  | some y =>
    have h1 := h.2 y (List.mem_of_getLast? hl)
    obtain ⟨h2, h3, h4, h5⟩ := h1
    show 0 ≤ y.off + y.len ∧ y.off + y.len ≤ _
    omega
theorem flB_en {l : List LnV} (h : OkS l) : ∀ b ∈ flB l, 0 ≤ b.en ∧ b.en ≤ 2199023255552 := by
  intro b hb
  unfold flB at hb
  split at hb
  · exact absurd hb (by simp)
  · simp only [List.mem_singleton] at hb
    subst hb
    exact lnEnd_ok h
theorem addB_en {m : ByteArray → Bool} {emp : Bool} {l : List LnV} {x : LnV} {tl : Bool} (h : OkS l) (hx : OkL x) : ∀ b ∈ addB m emp l x tl, 0 ≤ b.en ∧ b.en ≤ 2199023255552 := by
  have h1 : ∀ y : LnV, OkL y → OkS [y] := fun y hy => ⟨by simp, fun z hz => by simp only [List.mem_singleton] at hz; subst hz; exact hy⟩
  intro b hb
  unfold addB at hb
  split at hb
  · rcases List.mem_append.1 hb with hb | hb
    · exact flB_en h b hb
    · simp only [List.mem_singleton] at hb
      subst hb
      exact lnEnd_ok (h1 _ hx)
  · split at hb
    · simp only [List.mem_singleton] at hb
      subst hb
      exact lnEnd_ok (h1 _ hx)
    · split at hb
      · exact absurd hb (by simp)
      · exact flB_en h b hb

set_option maxRecDepth 100000 in
set_option linter.unusedSimpArgs false in
set_option maxHeartbeats 16000000 in
theorem law_ticks (cv tv : Value) (lc lt : List UInt8) (w : World) (hc : ArgB w w.heap.size cv lc) (ht : ArgB w w.heap.size tv lt) :
    Calls Try.prog 4 #[cv, tv] w fun e w' => e = .returned (.bool true) ∧ Below w.heap.size w w' := by
  have haw := awake_any w
  obtain ⟨ta, tc, rfl, -⟩ := TkAt.ofArg ht
  have H := Lib.hid (And.intro hc (And.intro (TkAt.ofArg ht) haw))
  clear hc ht haw
  have hmm := @run_makeMap Try.prog
  go_enter Try.func4, Try.ntmps4
  go_wp2_with fail
  refine (H.out.2.2).mono ?_
  rintro e w1 ⟨rfl, hb1⟩
  have HA := Lib.hid hb1
  clear hb1
  go_wp2_with fail
  refine (new_any _ lc 240 w1 (H.out.1.below HA.out) (by omega)).mono ?_
  rintro e w2 ⟨rfl, hm, hb2⟩
  obtain ⟨C, hC⟩ : ∃ C, w1.heap.size = C := ⟨_, rfl⟩
  rw [hC] at hm
  have HC := Lib.hid (And.intro hm (And.intro hb2 hC))
  clear hm hb2
  simp only [hC]
  clear hC
  go_wp2_with fail
  refine (draw_any C 14 (by omega) w2 HC.out.1).mono ?_
  rintro e w3 ⟨op, rs, ra, rc, fv, ls, rfl, hnd, hlf, hfr, hln, hok, hm3, hf3⟩
  obtain ⟨fa, fc, rfl, hfc, hfcell⟩ := frs_form hfr
  have HD := Lib.hid (And.intro hnd (And.intro hlf (And.intro hfr (And.intro hok (And.intro hm3 hf3)))))
  clear hnd hlf hfr hok hm3 hf3 hfcell
  unfold ndA
  go_wp2_with fail
  have hb3 : Below w.heap.size w w3 := (bl_trans' HA.out HC.out.2.1).trans ((GFr.toBelow HD.out.2.2.2.2.2 (Nat.le_of_lt HC.out.1.lt)).mono (by have := HA.out.size; have := HC.out.2.2; omega))
  obtain ⟨W5, hW5⟩ : ∃ y, (((w3.alloc (.cells #[.int .i64 op, .slice ra rs.length rc, .string ⟨#[]⟩, .slice none 0 0, .int .i64 0, .int .i64 0] 27)).alloc (.cells #[.slice none 0 0, .int .i64 0] 35)).alloc (.map #[] 0)) = y := ⟨_, rfl⟩
  obtain ⟨N5, hN5⟩ : ∃ y, w3.heap.size = y := ⟨_, rfl⟩
  have hI0 : CvI op rs ra rc (.slice fa ls.length fc) ls (.slice ta lt.length tc) lt w.heap.size N5 (N5 + 1) w (.slice none 0 0) [] (.slice none 0 0) 0 [] W5 := by
    have k : Below w3.heap.size w3 W5 := by rw [← hW5]; exact bl_trans' (bl_trans' (below_new _ _) (below_new _ _)) (below_new _ _)
    refine ⟨HD.out.1.below k, ?_, row_below HD.out.2.2.1 k, H.out.2.1.below (hb3.trans (k.mono hb3.size)), hb3.trans (k.mono hb3.size), World.ownsRow_nil _ _ _ _, fun b hb => absurd hb (by simp), ?_, lns_empty _, fun _ => rfl, by have := hb3.size; omega, by have h1 := hb3.size; have h2 := k.size; omega⟩
    · rw [← hW5, ← hN5]
      exact ((BkAt.new _ _ _).below (below_new _ _)).below (below_new _ _)
    · have q := BkAt.new 35 #[.slice none 0 0, .int .i64 0] (w3.alloc (.cells #[.int .i64 op, .slice ra rs.length rc, .string ⟨#[]⟩, .slice none 0 0, .int .i64 0, .int .i64 0] 27))
      rw [World.size_alloc, hN5] at q
      rw [← hW5]
      exact q.below (below_new _ _)
  have hE0 : EnAt (N5 + 1 + 1) 0 [] W5 := by
    have q := EnAt.made ((w3.alloc (.cells #[.int .i64 op, .slice ra rs.length rc, .string ⟨#[]⟩, .slice none 0 0, .int .i64 0, .int .i64 0] 27)).alloc (.cells #[.slice none 0 0, .int .i64 0] 35))
    simp only [World.size_alloc, hN5] at q
    rw [← hW5]
    exact q
  have hnw : w.heap.size ≤ N5 := by rw [← hN5]; exact hb3.size
  have HI := Lib.hid (And.intro hI0 (And.intro HD.out.2.1 (And.intro HD.out.2.2.2.1 hE0)))
  rw [hW5]
  simp only [hN5]
  clear hW5 hN5 hI0 HD HC HA hb3 hE0
  obtain ⟨A, hA⟩ : ∃ A, N5 + 1 = A := ⟨_, rfl⟩
  have hAn : w.heap.size ≤ A := by omega
  rw [hA] at HI
  simp only [hA]
  clear hA
  obtain ⟨M, hMe⟩ : ∃ M, A + 1 = M := ⟨_, rfl⟩
  have hMn : w.heap.size ≤ M := by omega
  have hMA : M ≠ A := by omega
  rw [hMe] at HI
  simp only [hMe]
  clear hMe
  obtain ⟨emp, hemp⟩ : ∃ b, decide (op = 0) = b := ⟨_, rfl⟩
  obtain ⟨m, hm⟩ : ∃ m, lfM op rs = m := ⟨_, rfl⟩
  go_loopw [32] (fun iv wr => ∃ (i c : Nat) (v : Value) (s : Int) (opn : List LnV) (E : List Int), iv = .int .i64 (i : Int) ∧ i ≤ ls.length ∧ CvI op rs ra rc (.slice fa ls.length fc) ls (.slice ta lt.length tc) lt w.heap.size N5 A w (.slice none 0 0) [] v s opn wr ∧ OkS opn ∧ (emp = true → opn = []) ∧ TkS E m emp (ls.take i) opn ∧ EnAt M c E wr ∧ c ≤ 5 * i ∧ ∀ e ∈ E, 0 ≤ e ∧ e ≤ 2199023255552) (fun iv _ => ls.length - (intOf iv).toNat)
  case atStart => exact ⟨0, 0, .slice none 0 0, 0, [], [], rfl, Nat.zero_le _, HI.out.1, ⟨by simp, fun y hy => absurd hy (by simp)⟩, fun _ => rfl, by rw [List.take_zero]; exact TkS.init _ _, HI.out.2.2.2, by simp, fun e he => absurd he (by simp)⟩
  case round =>
    obtain ⟨i, c, v, s, opn, E, rfl, hil, hI, hks, hem, hcv, hen, hcl, her⟩ := hrel
    obtain ⟨va, vn, vc, rfl⟩ := row_slice hI.ln
    by_cases hi : i < ls.length
    · have d1 : decide ((i : Int) < (ls.length : Int)) = true := by rw [decide_eq_true_iff]; omega
      have d2 : decide (i < ls.length) = true := decide_eq_true hi
      obtain ⟨fa', fc', hfe, hfc', hfcell⟩ := frs_form hI.fr
      obtain ⟨g, hge, hgl, hcell⟩ := hfcell i hi
      obtain ⟨⟨⟨off, len, txt⟩, dmg, tl⟩, hx⟩ : ∃ x, ls[i] = x := ⟨_, rfl⟩
      have hxk : LnOk ⟨⟨off, len, txt⟩, dmg, tl⟩ := by rw [← hx]; exact HI.out.2.2.1 _ (List.getElem_mem hi)
      have htk : ls.take (i + 1) = ls.take i ++ [⟨⟨off, len, txt⟩, dmg, tl⟩] := by rw [List.take_add_one, List.getElem?_eq_getElem hi, hx]; rfl
      rw [hx] at hcell
      obtain ⟨c0, c1, c2, c3, c4⟩ : wr.cell? ⟨g, i * 5, none⟩ = some (.int .i64 off) ∧ wr.cell? ⟨g, i * 5 + 1, none⟩ = some (.int .i64 len) ∧ wr.cell? ⟨g, i * 5 + 2, none⟩ = some (.string txt) ∧ wr.cell? ⟨g, i * 5 + 3, none⟩ = some (.int .i64 dmg) ∧ wr.cell? ⟨g, i * 5 + 4, none⟩ = some (.bool tl) := ⟨hcell 0 (by omega), hcell 1 (by omega), hcell 2 (by omega), hcell 3 (by omega), hcell 4 (by omega)⟩
      obtain rfl : fa = some ⟨g, 0, none⟩ := by injection hfe with e1 _ _; exact e1.trans hge
      have hI1 := hI.below (below_new wr (.cells #[.int .i64 off, .int .i64 len, .string txt, .int .i64 dmg, .bool tl] 38))
      have hE1 := hen.kept (World.grownBy_alloc wr (.cells #[.int .i64 off, .int .i64 len, .string txt, .int .i64 dmg, .bool tl] 38) none) (by simp)
      have ha := add_any (x := ⟨off, len, txt⟩) (dmg := dmg) (tl := tl) (s := s) (now := 0) (op := op) (rs := rs) (ra := ra) (rc := rc) (m := m) (by rw [← hm]; exact lf_mt HI.out.2.1 ra rc) hI1.ln hI.nil hks hxk.1 (by have h1 : txt.size ≤ 200 := hxk.2.1; show txt.size ≤ 20000; omega) hI1.nd
      rw [hemp] at ha
      have hnx := hcv.add ⟨⟨off, len, txt⟩, dmg, tl⟩ (by rw [List.length_take]; omega)
      have hbe := addB_en (m := m) (emp := emp) (x := ⟨off, len, txt⟩) (tl := tl) hks hxk.1
      have HR := Lib.hid (And.intro hI1 (And.intro ha (And.intro hE1 (And.intro hks (And.intro hem (And.intro hnx (And.intro hcl (And.intro hxk (And.intro htk (And.intro her hbe))))))))))
      have hbx := hI.bx
      have hnb := hI.nb
      have hal := hbx.lt
      have hnl := hnb.lt
      clear hI hI1 ha hE1 hks hem hcv hnx hcl hxk htk her hbe hen hcell hfcell hfe hge hx
      unfold ndA at hnb
      have a0 := hbx.cell 0
      have a1 := hbx.cell 1
      have n0 := hnb.cell 0
      have n1 := hnb.cell 1
      have n2 := hnb.cell 2
      have n3 := hnb.cell 3
      have n4 := hnb.cell 4
      have n5 := hnb.cell 5
      clear hbx hnb
      go_wp2_with fail
      refine HR.out.2.1.mono ?_
      rintro e w6 ⟨v', sl, ys, rfl, hlo, hno, hry, hyp, hey, hb6⟩
      obtain ⟨opn', hopn'⟩ : ∃ y, addO m emp opn ⟨off, len, txt⟩ tl = y := ⟨_, rfl⟩
      obtain ⟨s', hs'⟩ : ∃ y, addT emp s 0 tl = y := ⟨_, rfl⟩
      rw [hopn'] at hlo hno
      rw [hs']
      obtain ⟨pa, pn, pc, rfl⟩ := row_slice hlo
      obtain ⟨sa, sn, sc, rfl⟩ := row_slice hry
      have hI6 := HR.out.1.below hb6
      have hbx := hI6.bx
      have a0' := hbx.cell 0
      have a1' := hbx.cell 1
      have f0 := hbx.free 0
      have f1 := hbx.free 1
      have hc : ChP (fun k => k = A) w6 ((w6.setCell ⟨A, 0, none⟩ (.slice pa pn pc)).setCell ⟨A, 1, none⟩ (.int .i64 s')) := ((ChP.refl (fun k => k = A) w6).set A 0 _ rfl).set A 1 _ rfl
      have hI7 := hI6.set (s' := s') hlo hno
      have hry7 := row_ch hry hc (fun g hg e => row_ne hry hbx (by decide) hg e)
      have hey7 : ∀ b ∈ ys, ElB b ((w6.setCell ⟨A, 0, none⟩ (.slice pa pn pc)).setCell ⟨A, 1, none⟩ (.int .i64 s')) := fun b hb => row_ch (hey b hb) hc (fun g hg e => row_ne (hey b hb) hbx (by decide) hg e)
      have hE6 : EnAt M c E w6 := by
        obtain ⟨D, h1, h2⟩ := HR.out.2.2.1
        exact ⟨D, h1.kept (row := none) ⟨hb6.os, hb6.tape, hb6.output, hb6.size, fun i hi _ => hb6.block i hi⟩ (by simp), h2⟩
      have hE7 : EnAt M c E ((w6.setCell ⟨A, 0, none⟩ (.slice pa pn pc)).setCell ⟨A, 1, none⟩ (.int .i64 s')) := by
        obtain ⟨D, h1, h2⟩ := hE6
        exact ⟨D, (h1.setCell (a := ⟨A, 0, none⟩) hMA _).setCell (a := ⟨A, 1, none⟩) hMA _, h2⟩
      have hyl : ys.length ≤ 2 := by have h1 := congrArg List.length hyp; rw [List.length_map] at h1; rw [h1]; exact addB_len _ _ _ _ _
      have hcv' : TkS (E ++ (ys.map (·.p)).map (·.en)) m emp (ls.take (i + 1)) opn' := by
        rw [HR.out.2.2.2.2.2.2.2.2.1, hyp, ← hopn']
        exact HR.out.2.2.2.2.2.1
      have hyr : ∀ b ∈ ys, 0 ≤ b.p.en ∧ b.p.en ≤ 2199023255552 := fun b hb => HR.out.2.2.2.2.2.2.2.2.2.2 _ (by rw [← hyp]; exact List.mem_map.2 ⟨b, hb, rfl⟩)
      have hks' : OkS opn' := by rw [← hopn']; exact addO_ok HR.out.2.2.2.1 HR.out.2.2.2.2.2.2.2.1.1
      have hem' : emp = true → opn' = [] := fun he => by rw [← hopn']; exact addO_emp HR.out.2.2.2.2.1 he
      have hIb : CvI op rs ra rc (.slice (some ⟨g, 0, none⟩) ls.length fc) ls (.slice ta lt.length tc) lt w.heap.size N5 A w (.slice sa sn sc) ys (.slice pa pn pc) s' opn' _ := { hI7 with row := ownsRow_base hry7 (by have := HR.out.1.hn; omega), el := hey7 }
      have HS := Lib.hid (And.intro hIb (And.intro hry7 (And.intro hey7 (And.intro hE7 (And.intro hcv' (And.intro hyr (And.intro hks' hem')))))))
      clear hI6 hI7 hIb hry7 hey7 hE6 hE7 hcv' hyr hks' hem' hlo hno hry hyp hey hb6 hbx hc hopn' hs' a0 a1 n0 n1 n2 n3 n4 n5 c0 c1 c2 c3 c4
      by_cases hti : i < lt.length
      · have d3 : decide ((i : Int) < (lt.length : Int)) = true := by rw [decide_eq_true_iff]; omega
        have d4 : decide (i < lt.length) = true := decide_eq_true hti
        obtain ⟨ta', tc', hte, htc⟩ := HS.out.1.tk
        obtain ⟨tb, tq, htae, htb, htcell⟩ := htc i hti
        obtain rfl : ta = some ⟨tb, tq, none⟩ := by injection hte with e1 _ _; exact e1.trans htae
        obtain ⟨tx, htx⟩ : ∃ x : Nat, lt[i].toNat = x ∧ x < 256 := ⟨_, rfl, UInt8.toNat_lt _⟩
        rw [htx.1] at htcell
        have htx2 := htx.2
        clear hte htc htae htx
        rcases Bool.eq_false_or_eq_true ((tx : Int) % 3 == 0) with hq | hq
        · have g0 := HS.out.1.bx.cell 0
          have g1 := HS.out.1.bx.cell 1
          have HU := Lib.hid (tick_any (s := s') 0 0 HS.out.1.ln HS.out.1.nil HS.out.2.2.2.2.2.2.1)
          go_wp2_with fail
          refine HU.out.mono ?_
          rintro e w9 ⟨v9, opn9, sl9, ds, rfl, hlo9, hno9, hry9, hcs9, hey9, hb9⟩
          obtain ⟨rfl, hfl⟩ : opn9 = [] ∧ ds.map (·.p) = flB opn' := by
            rcases hcs9 with ⟨-, -, h⟩ | h
            · exact absurd h (by decide)
            · exact h
          obtain ⟨qa, qn, qc, rfl⟩ := row_slice hlo9
          obtain ⟨ua, un, uc, rfl⟩ := row_slice hry9
          have hI9 := HS.out.1.below hb9
          have hE9 := HS.out.2.2.2.1.below hb9
          have hbx9 := hI9.bx
          have z0 := hbx9.free 0
          have z1 := hbx9.free 1
          have z2 := hbx9.cell 0
          have z3 := hbx9.cell 1
          have hI10 := hI9.set (s' := s') hlo9 hno9
          have hc9 : ChP (fun k => k = A) w9 ((w9.setCell ⟨A, 0, none⟩ (.slice qa qn qc)).setCell ⟨A, 1, none⟩ (.int .i64 s')) := ((ChP.refl (fun k => k = A) w9).set A 0 _ rfl).set A 1 _ rfl
          have hry10 := row_ch hry9 hc9 (fun g hg e => row_ne hry9 hbx9 (by decide) hg e)
          have hey10 : ∀ b ∈ ds, ElB b ((w9.setCell ⟨A, 0, none⟩ (.slice qa qn qc)).setCell ⟨A, 1, none⟩ (.int .i64 s')) := fun b hb => row_ch (hey9 b hb) hc9 (fun g hg e => row_ne (hey9 b hb) hbx9 (by decide) hg e)
          have hE10 : EnAt M c E ((w9.setCell ⟨A, 0, none⟩ (.slice qa qn qc)).setCell ⟨A, 1, none⟩ (.int .i64 s')) := by
            obtain ⟨D, h1, h2⟩ := hE9
            exact ⟨D, (h1.setCell (a := ⟨A, 0, none⟩) hMA _).setCell (a := ⟨A, 1, none⟩) hMA _, h2⟩
          have hdl : ds.length ≤ 1 := by
            have h1 := congrArg List.length hfl
            rw [List.length_map] at h1
            rw [h1]
            unfold flB
            split <;> simp
          have HW := Lib.hid (And.intro hI10 (And.intro hry10 (And.intro hey10 (And.intro hE10 hfl))))
          clear hI9 hE9 hI10 hc9 hry10 hey10 hE10 hfl hlo9 hno9 hry9 hcs9 hey9 hb9 hbx9 g0 g1
          go_wp2_with (at_builtin; refine wpList_append_bks rfl (.tmp 61) (.tmp 62) rfl w.heap.size _ ys rfl HW.out.1.row _ _ ds rfl HW.out.2.1 HW.out.2.2.1 ?c1 HW.out.1.hn ?_)
          case c1 => omega
          intro ov' w8 hr8 hg8
          have hI8 := HW.out.1.app (by rw [List.length_append]; exact hr8) hg8 HW.out.2.2.1
          have hE8 := HW.out.2.2.2.1.row HW.out.1.row hg8
          have hzl : (ys ++ ds).length ≤ 3 := by rw [List.length_append]; omega
          have hzt := HS.out.2.2.2.2.1.tick
          rw [← HW.out.2.2.2.2, List.append_assoc, ← List.map_append, ← List.map_append] at hzt
          have hzr : ∀ b ∈ ys ++ ds, 0 ≤ b.p.en ∧ b.p.en ≤ 2199023255552 := fun b hb => by
            rcases List.mem_append.1 hb with hb | hb
            · exact HS.out.2.2.2.2.2.1 b hb
            · exact flB_en HS.out.2.2.2.2.2.2.1 _ (by rw [← HW.out.2.2.2.2]; exact List.mem_map.2 ⟨b, hb, rfl⟩)
          have hlz : (ys ++ ds).length = ys.length + ds.length := List.length_append
          obtain ⟨zs, hzs⟩ : ∃ zs, ys ++ ds = zs := ⟨_, rfl⟩
          rw [hzs] at hI8 hzl hzt hzr hlz
          obtain ⟨oa', oc', rfl, hoc, -⟩ := bks_form hI8.row
          have HT := Lib.hid (And.intro hI8 hE8)
          have HG := Lib.hid (And.intro hzr (And.intro hzt (show OkS [] from ⟨by simp, fun y hy => absurd hy (by simp)⟩)))
          clear hr8 hg8 hI8 hE8 hzr hzt hzs hlz
          have e2 : IntKind.i64.wrap ((i : Int) + 1) = ((i + 1 : Nat) : Int) := by rw [IntWalk.i64_in _ (by omega)]; omega
          go_wp2_with fail
          go_loopw [65] (fun jv wr => ∃ (j : Nat), jv = .int .i64 (j : Int) ∧ j ≤ zs.length ∧ CvI op rs ra rc (.slice (some ⟨g, 0, none⟩) ls.length fc) ls (.slice (some ⟨tb, tq, none⟩) lt.length tc) lt w.heap.size N5 A w (.slice oa' zs.length oc') zs (.slice qa qn qc) s' [] wr ∧ EnAt M (c + j) (E ++ ((zs.take j).map (·.p)).map (·.en)) wr) (fun jv _ => zs.length - (intOf jv).toNat)
          case atStart => exact ⟨0, rfl, Nat.zero_le _, HT.out.1, by simpa using HT.out.2⟩
          case round =>
            obtain ⟨j, rfl, hj, hI, hE⟩ := hrel
            by_cases hjl : j < zs.length
            · have b1 : decide ((j : Int) < (zs.length : Int)) = true := by rw [decide_eq_true_iff]; omega
              have b2 : decide (j < zs.length) = true := decide_eq_true hjl
              have b3 : IntKind.i64.wrap ((j : Int) + 1) = ((j + 1 : Nat) : Int) := by rw [IntWalk.i64_in _ (by omega)]; omega
              obtain ⟨ga, gc, hge, hgc, hgcell⟩ := bks_form hI.row
              obtain ⟨gg, hgge, hggl, hcell⟩ := hgcell j hjl
              obtain rfl : oa' = some ⟨gg, 0, none⟩ := by injection hge with e1 _ _; exact e1.trans hgge
              have hyr := HG.out.1 _ (List.getElem_mem hjl)
              have hel := hI.el _ (List.getElem_mem hjl)
              have htk : ((zs.take (j + 1)).map (·.p)).map (·.en) = ((zs.take j).map (·.p)).map (·.en) ++ [zs[j].p.en] := by rw [List.take_add_one, List.getElem?_eq_getElem hjl, List.map_append, List.map_append]; rfl
              obtain ⟨⟨bsl, bfr, ben, brule, bls⟩, hz⟩ : ∃ z, zs[j] = z := ⟨_, rfl⟩
              rw [hz] at hcell hyr hel htk
              obtain ⟨ba, bn, bc, hbs⟩ := row_slice hel
              dsimp only at hbs hyr htk
              subst hbs
              have k0 : wr.cell? ⟨gg, j * 4, none⟩ = some (.int .i64 bfr) := hcell 0 (by omega)
              have k1 : wr.cell? ⟨gg, j * 4 + 1, none⟩ = some (.int .i64 ben) := hcell 1 (by omega)
              have k2 : wr.cell? ⟨gg, j * 4 + 2, none⟩ = some (.slice ba bn bc) := hcell 2 (by omega)
              have k3 : wr.cell? ⟨gg, j * 4 + 3, none⟩ = some (.string brule) := hcell 3 (by omega)
              have hbw := below_new wr (.cells #[.int .i64 bfr, .int .i64 ben, .slice ba bn bc, .string brule] 44)
              have hcj : c + j ≤ 1000 := by have := HR.out.2.2.2.2.2.2.1; omega
              have HJ := Lib.hid (And.intro (hI.below hbw) (And.intro (hE.below hbw) (And.intro hyr htk)))
              clear hI hE hbw hyr htk hel hcell hgcell hz hge hgge
              go_wp2_with (at_mapUpdate; refine wpList_end rfl (.tmp 69) (.tmp 71) (.const (.bool true)) rfl M (c + j) _ rfl HJ.out.2.1 ?k4 ben rfl rfl HJ.out.2.2.1.1 ?k5 ?_)
              case k4 => omega
              case k5 => have := HJ.out.2.2.1.2; omega
              intro w9 hE9 hg9
              obtain ⟨o9, ho9, ho9c⟩ := HJ.out.2.1.obj
              have hI9 := HJ.out.1.mp ho9 ho9c hMn hg9
              have HJ2 := Lib.hid (And.intro hI9 hE9)
              clear hI9 hE9 hg9 ho9
              go_wp2_with fail
              go_roundw
              case rel => exact ⟨j + 1, rfl, by omega, HJ2.out.1, by rw [HJ.out.2.2.2]; simpa [Nat.add_assoc] using HJ2.out.2⟩
              case measure => simp [intOf]; omega
            · obtain rfl : j = zs.length := by omega
              have b1 : decide ((zs.length : Int) < (zs.length : Int)) = false := by simp
              rw [List.take_length] at hE
              have HJ := Lib.hid (And.intro hI hE)
              clear hI hE
              go_wp2_with fail
              go_roundw
              case rel => exact ⟨i + 1, c + zs.length, .slice qa qn qc, s', [], E ++ (zs.map (·.p)).map (·.en), rfl, by omega, { HJ.out.1 with row := World.ownsRow_nil _ _ _ _, el := fun b hb => absurd hb (by simp) }, HG.out.2.2, (fun _ => rfl), HG.out.2.1, HJ.out.2, by have := HR.out.2.2.2.2.2.2.1; omega, fun e he => by
                rcases List.mem_append.1 he with he | he
                · exact HR.out.2.2.2.2.2.2.2.2.2.1 e he
                · rw [List.map_map, List.mem_map] at he
                  obtain ⟨b, hb, rfl⟩ := he
                  exact HG.out.1 b hb⟩
              case measure => simp [intOf]; omega
        · go_wp2_with (at_builtin; refine wpList_append_bks rfl (.tmp 61) (.tmp 62) rfl w.heap.size _ ys rfl HS.out.1.row 0 _ [] rfl (World.ownsRow_nil _ _ _ _) (fun b hb => absurd hb (by simp)) ?c1 HS.out.1.hn ?_)
          case c1 => simp; omega
          intro ov' w8 hr8 hg8
          have hI8 := HS.out.1.app (ys := []) (by simpa using hr8) hg8 (fun b hb => absurd hb (by simp))
          have hE8 := HS.out.2.2.2.1.row HS.out.1.row hg8
          rw [List.append_nil] at hI8
          obtain ⟨oa', oc', rfl, hoc, -⟩ := bks_form hI8.row
          have HT := Lib.hid (And.intro hI8 hE8)
          clear hr8 hg8 hI8 hE8
          have e2 : IntKind.i64.wrap ((i : Int) + 1) = ((i + 1 : Nat) : Int) := by rw [IntWalk.i64_in _ (by omega)]; omega
          go_wp2_with fail
          go_loopw [65] (fun jv wr => ∃ (j : Nat), jv = .int .i64 (j : Int) ∧ j ≤ ys.length ∧ CvI op rs ra rc (.slice (some ⟨g, 0, none⟩) ls.length fc) ls (.slice (some ⟨tb, tq, none⟩) lt.length tc) lt w.heap.size N5 A w (.slice oa' ys.length oc') ys (.slice pa pn pc) s' opn' wr ∧ EnAt M (c + j) (E ++ ((ys.take j).map (·.p)).map (·.en)) wr) (fun jv _ => ys.length - (intOf jv).toNat)
          case atStart => exact ⟨0, rfl, Nat.zero_le _, HT.out.1, by simpa using HT.out.2⟩
          case round =>
            obtain ⟨j, rfl, hj, hI, hE⟩ := hrel
            by_cases hjl : j < ys.length
            · have b1 : decide ((j : Int) < (ys.length : Int)) = true := by rw [decide_eq_true_iff]; omega
              have b2 : decide (j < ys.length) = true := decide_eq_true hjl
              have b3 : IntKind.i64.wrap ((j : Int) + 1) = ((j + 1 : Nat) : Int) := by rw [IntWalk.i64_in _ (by omega)]; omega
              obtain ⟨ga, gc, hge, hgc, hgcell⟩ := bks_form hI.row
              obtain ⟨gg, hgge, hggl, hcell⟩ := hgcell j hjl
              obtain rfl : oa' = some ⟨gg, 0, none⟩ := by injection hge with e1 _ _; exact e1.trans hgge
              have hyr := HS.out.2.2.2.2.2.1 _ (List.getElem_mem hjl)
              have hel := hI.el _ (List.getElem_mem hjl)
              have htk : ((ys.take (j + 1)).map (·.p)).map (·.en) = ((ys.take j).map (·.p)).map (·.en) ++ [ys[j].p.en] := by rw [List.take_add_one, List.getElem?_eq_getElem hjl, List.map_append, List.map_append]; rfl
              obtain ⟨⟨bsl, bfr, ben, brule, bls⟩, hz⟩ : ∃ z, ys[j] = z := ⟨_, rfl⟩
              rw [hz] at hcell hyr hel htk
              obtain ⟨ba, bn, bc, hbs⟩ := row_slice hel
              dsimp only at hbs hyr htk
              subst hbs
              have k0 : wr.cell? ⟨gg, j * 4, none⟩ = some (.int .i64 bfr) := hcell 0 (by omega)
              have k1 : wr.cell? ⟨gg, j * 4 + 1, none⟩ = some (.int .i64 ben) := hcell 1 (by omega)
              have k2 : wr.cell? ⟨gg, j * 4 + 2, none⟩ = some (.slice ba bn bc) := hcell 2 (by omega)
              have k3 : wr.cell? ⟨gg, j * 4 + 3, none⟩ = some (.string brule) := hcell 3 (by omega)
              have hbw := below_new wr (.cells #[.int .i64 bfr, .int .i64 ben, .slice ba bn bc, .string brule] 44)
              have hcj : c + j ≤ 1000 := by have := HR.out.2.2.2.2.2.2.1; omega
              have HJ := Lib.hid (And.intro (hI.below hbw) (And.intro (hE.below hbw) (And.intro hyr htk)))
              clear hI hE hbw hyr htk hel hcell hgcell hz hge hgge
              go_wp2_with (at_mapUpdate; refine wpList_end rfl (.tmp 69) (.tmp 71) (.const (.bool true)) rfl M (c + j) _ rfl HJ.out.2.1 ?k4 ben rfl rfl HJ.out.2.2.1.1 ?k5 ?_)
              case k4 => omega
              case k5 => have := HJ.out.2.2.1.2; omega
              intro w9 hE9 hg9
              obtain ⟨o9, ho9, ho9c⟩ := HJ.out.2.1.obj
              have hI9 := HJ.out.1.mp ho9 ho9c hMn hg9
              have HJ2 := Lib.hid (And.intro hI9 hE9)
              clear hI9 hE9 hg9 ho9
              go_wp2_with fail
              go_roundw
              case rel => exact ⟨j + 1, rfl, by omega, HJ2.out.1, by rw [HJ.out.2.2.2]; simpa [Nat.add_assoc] using HJ2.out.2⟩
              case measure => simp [intOf]; omega
            · obtain rfl : j = ys.length := by omega
              have b1 : decide ((ys.length : Int) < (ys.length : Int)) = false := by simp
              rw [List.take_length] at hE
              have HJ := Lib.hid (And.intro hI hE)
              clear hI hE
              go_wp2_with fail
              go_roundw
              case rel => exact ⟨i + 1, c + ys.length, .slice pa pn pc, s', opn', E ++ (ys.map (·.p)).map (·.en), rfl, by omega, { HJ.out.1 with row := World.ownsRow_nil _ _ _ _, el := fun b hb => absurd hb (by simp) }, HS.out.2.2.2.2.2.2.1, HS.out.2.2.2.2.2.2.2, HS.out.2.2.2.2.1, HJ.out.2, by have := HR.out.2.2.2.2.2.2.1; omega, fun e he => by
                rcases List.mem_append.1 he with he | he
                · exact HR.out.2.2.2.2.2.2.2.2.2.1 e he
                · rw [List.map_map, List.mem_map] at he
                  obtain ⟨b, hb, rfl⟩ := he
                  exact HS.out.2.2.2.2.2.1 b hb⟩
              case measure => simp [intOf]; omega
      · have d3 : decide ((i : Int) < (lt.length : Int)) = false := by rw [decide_eq_false_iff_not]; omega
        have d4 : decide (i < lt.length) = false := decide_eq_false hti
        go_wp2_with (at_builtin; refine wpList_append_bks rfl (.tmp 61) (.tmp 62) rfl w.heap.size _ ys rfl HS.out.1.row 0 _ [] rfl (World.ownsRow_nil _ _ _ _) (fun b hb => absurd hb (by simp)) ?c1 HS.out.1.hn ?_)
        case c1 => simp; omega
        intro ov' w8 hr8 hg8
        have hI8 := HS.out.1.app (ys := []) (by simpa using hr8) hg8 (fun b hb => absurd hb (by simp))
        have hE8 := HS.out.2.2.2.1.row HS.out.1.row hg8
        rw [List.append_nil] at hI8
        obtain ⟨oa', oc', rfl, hoc, -⟩ := bks_form hI8.row
        have HT := Lib.hid (And.intro hI8 hE8)
        clear hr8 hg8 hI8 hE8
        have e2 : IntKind.i64.wrap ((i : Int) + 1) = ((i + 1 : Nat) : Int) := by rw [IntWalk.i64_in _ (by omega)]; omega
        go_wp2_with fail
        go_loopw [65] (fun jv wr => ∃ (j : Nat), jv = .int .i64 (j : Int) ∧ j ≤ ys.length ∧ CvI op rs ra rc (.slice (some ⟨g, 0, none⟩) ls.length fc) ls (.slice ta lt.length tc) lt w.heap.size N5 A w (.slice oa' ys.length oc') ys (.slice pa pn pc) s' opn' wr ∧ EnAt M (c + j) (E ++ ((ys.take j).map (·.p)).map (·.en)) wr) (fun jv _ => ys.length - (intOf jv).toNat)
        case atStart => exact ⟨0, rfl, Nat.zero_le _, HT.out.1, by simpa using HT.out.2⟩
        case round =>
          obtain ⟨j, rfl, hj, hI, hE⟩ := hrel
          by_cases hjl : j < ys.length
          · have b1 : decide ((j : Int) < (ys.length : Int)) = true := by rw [decide_eq_true_iff]; omega
            have b2 : decide (j < ys.length) = true := decide_eq_true hjl
            have b3 : IntKind.i64.wrap ((j : Int) + 1) = ((j + 1 : Nat) : Int) := by rw [IntWalk.i64_in _ (by omega)]; omega
            obtain ⟨ga, gc, hge, hgc, hgcell⟩ := bks_form hI.row
            obtain ⟨gg, hgge, hggl, hcell⟩ := hgcell j hjl
            obtain rfl : oa' = some ⟨gg, 0, none⟩ := by injection hge with e1 _ _; exact e1.trans hgge
            have hyr := HS.out.2.2.2.2.2.1 _ (List.getElem_mem hjl)
            have hel := hI.el _ (List.getElem_mem hjl)
            have htk : ((ys.take (j + 1)).map (·.p)).map (·.en) = ((ys.take j).map (·.p)).map (·.en) ++ [ys[j].p.en] := by rw [List.take_add_one, List.getElem?_eq_getElem hjl, List.map_append, List.map_append]; rfl
            obtain ⟨⟨bsl, bfr, ben, brule, bls⟩, hz⟩ : ∃ z, ys[j] = z := ⟨_, rfl⟩
            rw [hz] at hcell hyr hel htk
            obtain ⟨ba, bn, bc, hbs⟩ := row_slice hel
            dsimp only at hbs hyr htk
            subst hbs
            have k0 : wr.cell? ⟨gg, j * 4, none⟩ = some (.int .i64 bfr) := hcell 0 (by omega)
            have k1 : wr.cell? ⟨gg, j * 4 + 1, none⟩ = some (.int .i64 ben) := hcell 1 (by omega)
            have k2 : wr.cell? ⟨gg, j * 4 + 2, none⟩ = some (.slice ba bn bc) := hcell 2 (by omega)
            have k3 : wr.cell? ⟨gg, j * 4 + 3, none⟩ = some (.string brule) := hcell 3 (by omega)
            have hbw := below_new wr (.cells #[.int .i64 bfr, .int .i64 ben, .slice ba bn bc, .string brule] 44)
            have hcj : c + j ≤ 1000 := by have := HR.out.2.2.2.2.2.2.1; omega
            have HJ := Lib.hid (And.intro (hI.below hbw) (And.intro (hE.below hbw) (And.intro hyr htk)))
            clear hI hE hbw hyr htk hel hcell hgcell hz hge hgge
            go_wp2_with (at_mapUpdate; refine wpList_end rfl (.tmp 69) (.tmp 71) (.const (.bool true)) rfl M (c + j) _ rfl HJ.out.2.1 ?k4 ben rfl rfl HJ.out.2.2.1.1 ?k5 ?_)
            case k4 => omega
            case k5 => have := HJ.out.2.2.1.2; omega
            intro w9 hE9 hg9
            obtain ⟨o9, ho9, ho9c⟩ := HJ.out.2.1.obj
            have hI9 := HJ.out.1.mp ho9 ho9c hMn hg9
            have HJ2 := Lib.hid (And.intro hI9 hE9)
            clear hI9 hE9 hg9 ho9
            go_wp2_with fail
            go_roundw
            case rel => exact ⟨j + 1, rfl, by omega, HJ2.out.1, by rw [HJ.out.2.2.2]; simpa [Nat.add_assoc] using HJ2.out.2⟩
            case measure => simp [intOf]; omega
          · obtain rfl : j = ys.length := by omega
            have b1 : decide ((ys.length : Int) < (ys.length : Int)) = false := by simp
            rw [List.take_length] at hE
            have HJ := Lib.hid (And.intro hI hE)
            clear hI hE
            go_wp2_with fail
            go_roundw
            case rel => exact ⟨i + 1, c + ys.length, .slice pa pn pc, s', opn', E ++ (ys.map (·.p)).map (·.en), rfl, by omega, { HJ.out.1 with row := World.ownsRow_nil _ _ _ _, el := fun b hb => absurd hb (by simp) }, HS.out.2.2.2.2.2.2.1, HS.out.2.2.2.2.2.2.2, HS.out.2.2.2.2.1, HJ.out.2, by have := HR.out.2.2.2.2.2.2.1; omega, fun e he => by
              rcases List.mem_append.1 he with he | he
              · exact HR.out.2.2.2.2.2.2.2.2.2.1 e he
              · rw [List.map_map, List.mem_map] at he
                obtain ⟨b, hb, rfl⟩ := he
                exact HS.out.2.2.2.2.2.1 b hb⟩
            case measure => simp [intOf]; omega
    · obtain rfl : i = ls.length := by omega
      have d1 : decide ((ls.length : Int) < (ls.length : Int)) = false := by simp
      have a0 := hI.bx.cell 0
      have a1 := hI.bx.cell 1
      have hfl := flush_any (s := s) hI.ln hI.nil hks
      rw [List.take_length] at hcv
      have HR := Lib.hid (And.intro hI (And.intro hfl (And.intro hcv (And.intro hcl (And.intro hen (And.intro hks her))))))
      have hal := hI.hn
      clear hI hfl hks hem hcv hcl hen her
      go_wp2_with fail
      refine HR.out.2.1.mono ?_
      rintro e w6 ⟨sl, ys, rfl, hry, hyp, hey, hb6⟩
      obtain ⟨sa, sc, rfl, -⟩ := bks_form hry
      have hb7 := below_new w6 (.cells #[.slice none 0 0, .int .i64 s] 35)
      have hI7 := (HR.out.1.below hb6).below hb7
      have hE7 := (HR.out.2.2.2.2.1.below hb6).below hb7
      have hry7 := ownsRow_base (row_below hry hb7) HR.out.1.hn
      have hIb : CvI op rs ra rc (.slice fa ls.length fc) ls (.slice ta lt.length tc) lt w.heap.size N5 A w (.slice sa ys.length sc) ys (.slice va vn vc) s opn _ := { hI7 with row := hry7, el := fun b hb => LnsAt.below (hey b hb) hb7 }
      have hza := HR.out.2.2.1.all
      rw [← hyp] at hza
      have hyr : ∀ b ∈ ys, 0 ≤ b.p.en ∧ b.p.en ≤ 2199023255552 := fun b hb => flB_en HR.out.2.2.2.2.2.1 _ (by rw [← hyp]; exact List.mem_map.2 ⟨b, hb, rfl⟩)
      have hyl : ys.length ≤ 1 := by
        have h1 := congrArg List.length hyp
        rw [List.length_map] at h1
        rw [h1]
        unfold flB
        split <;> simp
      have HT := Lib.hid (And.intro hIb hE7)
      have HG := Lib.hid (And.intro hyr HR.out.2.2.2.1)
      have HZ := Lib.hid hza
      obtain ⟨oa', oc', hoo⟩ : ∃ x y, x = sa ∧ y = sc := ⟨_, _, rfl, rfl⟩
      obtain ⟨rfl, rfl⟩ := hoo
      clear hI7 hE7 hry7 hIb hza hyr hry hyp hey hb6 hb7 a0 a1
      go_wp2_with fail
      go_loopw [81] (fun jv wr => ∃ (j : Nat), jv = .int .i64 (j : Int) ∧ j ≤ ys.length ∧ CvI op rs ra rc (.slice fa ls.length fc) ls (.slice ta lt.length tc) lt w.heap.size N5 A w (.slice oa' ys.length oc') ys (.slice va vn vc) s opn wr ∧ EnAt M (c + j) (E ++ ((ys.take j).map (·.p)).map (·.en)) wr) (fun jv _ => ys.length - (intOf jv).toNat)
      case atStart => exact ⟨0, rfl, Nat.zero_le _, HT.out.1, by simpa using HT.out.2⟩
      case round =>
        obtain ⟨j, rfl, hj, hI, hE⟩ := hrel
        by_cases hjl : j < ys.length
        · have b1 : decide ((j : Int) < (ys.length : Int)) = true := by rw [decide_eq_true_iff]; omega
          have b2 : decide (j < ys.length) = true := decide_eq_true hjl
          have b3 : IntKind.i64.wrap ((j : Int) + 1) = ((j + 1 : Nat) : Int) := by rw [IntWalk.i64_in _ (by omega)]; omega
          obtain ⟨ga, gc, hge, hgc, hgcell⟩ := bks_form hI.row
          obtain ⟨gg, hgge, hggl, hcell⟩ := hgcell j hjl
          obtain rfl : oa' = some ⟨gg, 0, none⟩ := by injection hge with e1 _ _; exact e1.trans hgge
          have hyr := HG.out.1 _ (List.getElem_mem hjl)
          have hel := hI.el _ (List.getElem_mem hjl)
          have htk : ((ys.take (j + 1)).map (·.p)).map (·.en) = ((ys.take j).map (·.p)).map (·.en) ++ [ys[j].p.en] := by rw [List.take_add_one, List.getElem?_eq_getElem hjl, List.map_append, List.map_append]; rfl
          obtain ⟨⟨bsl, bfr, ben, brule, bls⟩, hz⟩ : ∃ z, ys[j] = z := ⟨_, rfl⟩
          rw [hz] at hcell hyr hel htk
          obtain ⟨ba, bn, bc, hbs⟩ := row_slice hel
          dsimp only at hbs hyr htk
          subst hbs
          have k0 : wr.cell? ⟨gg, j * 4, none⟩ = some (.int .i64 bfr) := hcell 0 (by omega)
          have k1 : wr.cell? ⟨gg, j * 4 + 1, none⟩ = some (.int .i64 ben) := hcell 1 (by omega)
          have k2 : wr.cell? ⟨gg, j * 4 + 2, none⟩ = some (.slice ba bn bc) := hcell 2 (by omega)
          have k3 : wr.cell? ⟨gg, j * 4 + 3, none⟩ = some (.string brule) := hcell 3 (by omega)
          have hbw := below_new wr (.cells #[.int .i64 bfr, .int .i64 ben, .slice ba bn bc, .string brule] 44)
          have hcj : c + j ≤ 1000 := by have := HG.out.2; omega
          have HJ := Lib.hid (And.intro (hI.below hbw) (And.intro (hE.below hbw) (And.intro hyr htk)))
          clear hI hE hbw hyr htk hel hcell hgcell hz hge hgge
          go_wp2_with (at_mapUpdate; refine wpList_end rfl (.tmp 85) (.tmp 87) (.const (.bool true)) rfl M (c + j) _ rfl HJ.out.2.1 ?k4 ben rfl rfl HJ.out.2.2.1.1 ?k5 ?_)
          case k4 => omega
          case k5 => have := HJ.out.2.2.1.2; omega
          intro w9 hE9 hg9
          obtain ⟨o9, ho9, ho9c⟩ := HJ.out.2.1.obj
          have hI9 := HJ.out.1.mp ho9 ho9c hMn hg9
          have HJ2 := Lib.hid (And.intro hI9 hE9)
          clear hI9 hE9 hg9 ho9
          go_wp2_with fail
          go_roundw
          case rel => exact ⟨j + 1, rfl, by omega, HJ2.out.1, by rw [HJ.out.2.2.2]; simpa [Nat.add_assoc] using HJ2.out.2⟩
          case measure => simp [intOf]; omega
        · obtain rfl : j = ys.length := by omega
          have b1 : decide ((ys.length : Int) < (ys.length : Int)) = false := by simp
          rw [List.take_length] at hE
          have HJ := Lib.hid (And.intro hI hE)
          clear hI hE
          have q5 := HJ.out.1.nb
          unfold ndA at q5
          have n0 := q5.cell 0
          have n1 := q5.cell 1
          have n2 := q5.cell 2
          have n3 := q5.cell 3
          have n4 := q5.cell 4
          have n5 := q5.cell 5
          clear q5
          have has := assemble_any op rs ra rc m (by rw [← hm]; exact lf_mt HI.out.2.1 ra rc) (.slice fa ls.length fc) ls (by omega) (fun x hx => ⟨(HI.out.2.2.1 x hx).1, by have := (HI.out.2.2.1 x hx).2.1; omega⟩) wr HJ.out.1.fr HJ.out.1.nd
          rw [hemp] at has
          have HQ := Lib.hid has
          clear has
          go_wp2_with fail
          refine HQ.out.mono ?_
          rintro e w9 ⟨v9, zs, rfl, hrow, hzs, hel, hb9⟩
          obtain ⟨za, zc, rfl, hzc, hzcell⟩ := bks_form hrow
          have hE9 := HJ.out.2.below hb9
          have hin : ∀ z ∈ zs, z.p.en ∈ E ++ (ys.map (·.p)).map (·.en) := fun z hz => HZ.out _ (by rw [← hzs]; exact List.mem_map.2 ⟨z, hz, rfl⟩)
          have her9 : ∀ y ∈ E ++ (ys.map (·.p)).map (·.en), 0 ≤ y ∧ y ≤ 2199023255552 := fun y hy => by
            rcases List.mem_append.1 hy with hy | hy
            · exact HR.out.2.2.2.2.2.2 y hy
            · rw [List.map_map, List.mem_map] at hy
              obtain ⟨b, hb, rfl⟩ := hy
              exact HG.out.1 b hb
          have hzl : zs.length ≤ 1000 := by
            have h1 := congrArg List.length hzs
            rw [List.length_map] at h1
            rw [h1]
            have h2 := (asmF_ok (m := m) (emp := emp) ls (fun x hx => (HI.out.2.2.1 x hx).1)).2
            have h3 : (flB (asmF m emp ls).1).length ≤ 1 := by unfold flB; split <;> simp
            unfold asmB
            rw [List.length_append]
            omega
          have HK := Lib.hid (And.intro hE9 (And.intro hin (And.intro her9 (And.intro hzcell (And.intro hel ((HJ.out.1.below hb9).bl))))))
          have hnw9 := (HJ.out.1.below hb9).hn
          clear hE9 hin her9 hzcell hel hrow hzs hb9 HQ
          go_wp2_with fail
          go_loopw [93] (fun jv wr => ∃ (j : Nat), jv = .int .i64 (j : Int) ∧ j ≤ zs.length ∧ Below w9.heap.size w9 wr) (fun jv _ => zs.length - (intOf jv).toNat)
          case atStart => exact ⟨0, rfl, Nat.zero_le _, Below.refl _ _⟩
          case round =>
            obtain ⟨j, rfl, hj, hbj⟩ := hrel
            by_cases hjl : j < zs.length
            · have b1 : decide ((j : Int) < (zs.length : Int)) = true := by rw [decide_eq_true_iff]; omega
              have b2 : decide (j < zs.length) = true := decide_eq_true hjl
              have b3 : IntKind.i64.wrap ((j : Int) + 1) = ((j + 1 : Nat) : Int) := by rw [IntWalk.i64_in _ (by omega)]; omega
              obtain ⟨gg, hgge, hggl, hcell⟩ := HK.out.2.2.2.1 j hjl
              have hmem := HK.out.2.1 _ (List.getElem_mem hjl)
              have hel := HK.out.2.2.2.2.1 _ (List.getElem_mem hjl)
              obtain rfl := hgge
              obtain ⟨⟨bsl, bfr, ben, brule, bls⟩, hz⟩ : ∃ z, zs[j] = z := ⟨_, rfl⟩
              rw [hz] at hcell hmem hel
              obtain ⟨ba, bn, bc, hbs⟩ := row_slice hel
              dsimp only at hbs hmem
              subst hbs
              have hcw : ∀ (o : Nat) (v : Value), w9.cell? ⟨gg, o, none⟩ = some v → wr.cell? ⟨gg, o, none⟩ = some v := fun o v hc => by rw [← hc]; unfold World.cell?; rw [hbj.block gg hggl]
              have k0 : wr.cell? ⟨gg, j * 4, none⟩ = some (.int .i64 bfr) := hcw _ _ (hcell 0 (by omega))
              have k1 : wr.cell? ⟨gg, j * 4 + 1, none⟩ = some (.int .i64 ben) := hcw _ _ (hcell 1 (by omega))
              have k2 : wr.cell? ⟨gg, j * 4 + 2, none⟩ = some (.slice ba bn bc) := hcw _ _ (hcell 2 (by omega))
              have k3 : wr.cell? ⟨gg, j * 4 + 3, none⟩ = some (.string brule) := hcw _ _ (hcell 3 (by omega))
              have hbw := below_new wr (.cells #[.int .i64 bfr, .int .i64 ben, .slice ba bn bc, .string brule] 44)
              have hrg := HK.out.2.2.1 _ hmem
              have hlk := ((HK.out.1.below hbj).below hbw).look hmem hrg.1 (by have := hrg.2; omega)
              have HB := Lib.hid (bl_trans' hbj hbw)
              clear hbj hbw hmem hel hcell hcw hz hrg
              go_wp2_with fail
              go_roundw
              case rel => exact ⟨j + 1, rfl, by omega, HB.out⟩
              case measure => simp [intOf]; omega
            · obtain rfl : j = zs.length := by omega
              have b1 : decide ((zs.length : Int) < (zs.length : Int)) = false := by simp
              have HB := Lib.hid (HK.out.2.2.2.2.2.trans (hbj.mono hnw9))
              clear hbj
              go_wp2_with fail
              refine bodyPost_ret (v := .bool true) (by simp [results, Try.results4]) rfl ?_
              exact ⟨rfl, HB.out⟩
end Go.Proofs.Ytfkgicakiapmaaa
