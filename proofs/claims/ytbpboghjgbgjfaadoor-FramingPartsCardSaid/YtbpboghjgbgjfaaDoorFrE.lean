/- The contract of package framing's Frame: the records of the lines, and the offset behind the last one. -/
import Derived.Test.YtbpboghjgbgjfaaDoorFrD
import Derived.BigQuiet
import Derived.Deep.QuietTactic
namespace Go.Proofs.YtbpboghjgbgjfaaDoor
open Go.RowKit Go.Shelf
attribute [local go_sem] Oper.semAt_some

/-- Where the last span ends. -/
def lastE (sp : List (Nat × Nat)) : Nat := (sp.getLast?.map (·.2)).getD 0
theorem lastE_snoc (sp : List (Nat × Nat)) (x : Nat × Nat) : lastE (sp ++ [x]) = x.2 := by unfold lastE; simp
theorem lastE_spK (l : List UInt8) : ∀ k, lastE (spK l k) = lastK l k
  | 0 => rfl
  | k + 1 => by
    by_cases h10 : l[k]? = some 10
    · have e : spK l (k + 1) = spK l k ++ [(lastK l k, k + 1)] := if_pos h10
      rw [e, lastE_snoc, lastK_yes h10]
    · have e : spK l (k + 1) = spK l k := if_neg h10
      rw [e, lastK_no h10]
      exact lastE_spK l k

/-- What stands between two rounds of Frame's loop. -/
structure FrI (w : World) (M : Nat) (l : List UInt8) (o : Nat) (lim : Int) (dv v : Value) (pre : List (SegF l)) (W : World) : Prop where
  box : Boxed W w.heap.size 34 v
  row : W.ownsRow w.heap.size 41 5 v pre.length (frL l (o : Int) lim (pre.map (·.1)))
  fin : Boxed W (w.heap.size + 1) 3 (.int .i64 ((o : Int) + (lastE (pre.map (·.1)) : Int)))
  bx : BxF (w.heap.size + 2) (w.heap.size + 2 + 1) (w.heap.size + 2 + 1 + 1) dv (o : Int) lim W
  bel : Below w.heap.size w W
  sz : M ≤ W.heap.size
theorem Boxed.grownO {W W' : World} {row : Option Nat} {B : Nat} {t : TypeId} {v : Value} (h : Boxed W B t v) (hg : W.grownBy W' row) (hr : ∀ r, row = some r → ∃ o : Obj, W.heap[r]? = some o ∧ o.isCells = false) : Boxed W' B t v :=
  h.kept hg (fun e => by
    obtain ⟨o, h1, h2⟩ := hr B e.symm
    rw [show W.heap[B]? = _ from h] at h1
    cases h1
    cases h2)
theorem row_grownO {W W' : World} {row : Option Nat} {base : Nat} {e : TypeId} {size : Nat} {v : Value} {n : Nat} {xs : List Value} (h : W.ownsRow base e size v n xs) (hg : W.grownBy W' row) (hr : ∀ r, row = some r → ∃ o : Obj, W.heap[r]? = some o ∧ o.isCells = false) : W'.ownsRow base e size v n xs := by
  refine h.kept hg ?_
  rcases h.2 with ⟨rfl, _⟩ | ⟨g, cap, cur, rfl, _, hgb, _⟩
  · exact .inl rfl
  · refine .inr fun e => ?_
    obtain ⟨o, h1, h2⟩ := hr g (by simpa [Value.ownBlock] using e.symm)
    rw [hgb] at h1
    cases h1
    cases h2
theorem FrI.own (w : World) (M : Nat) (l : List UInt8) (o : Nat) (lim : Int) (dv : Value) (B : Nat) (hB : w.heap.size ≤ B) : OwnFrom B (fun pre W => ∃ v, FrI w M l o lim dv v pre W) := fun s W W' row hs hg hr => by
  obtain ⟨v, h⟩ := hs
  have hr2 : ∀ r, row = some r → ∃ o : Obj, W.heap[r]? = some o ∧ o.isCells = false := fun r e => (hr r e).2
  exact ⟨v, Boxed.grownO h.box hg hr2, row_grownO h.row hg hr2, Boxed.grownO h.fin hg hr2, ⟨Boxed.grownO h.bx.b0 hg hr2, Boxed.grownO h.bx.b1 hg hr2, Boxed.grownO h.bx.b2 hg hr2⟩, h.bel.grown hg h.bel.size (fun k e => Nat.le_trans hB (hr k e).1), Nat.le_trans h.sz hg.size⟩
/-- A block of another type than the row's, behind the append and the store into the box. -/
theorem app_keep {W w3 : World} {n Bl j k : Nat} {v v' : Value} {xs : List Value} {tmp : Obj} {cs : Array Value} {T : TypeId} {fr : Nat × Nat} (hrow : W.ownsRow n 41 5 v k xs) (hg : (W.alloc tmp).grownBy w3 v.ownBlock)
    (hj : W.heap[j]? = some (.cells cs T fr)) (hT : T ≠ 41) (hne : j ≠ Bl) : (w3.setCell ⟨Bl, 0, none⟩ v').heap[j]? = some (.cells cs T fr) := by
  have hlt := (Array.getElem?_eq_some_iff.1 hj).1
  have h1 : (W.alloc tmp).heap[j]? = some (.cells cs T fr) := (Below.heap_alloc _ _ j hlt).trans hj
  have h2 : w3.heap[j]? = some (.cells cs T fr) := by
    refine (hg.block j (by simp; omega) (fun e => ?_)).trans h1
    rcases hrow.2 with ⟨rfl, _⟩ | ⟨g, cap, cur, rfl, _, hgb, _⟩
    · simp [Value.ownBlock] at e
    · obtain rfl : j = g := by simpa [Value.ownBlock] using e
      rw [hgb] at hj
      injection hj with hj
      injection hj with _ q
      exact hT q.symm
  exact ((grownBy_setCell' w3 Bl v').block j (Array.getElem?_eq_some_iff.1 h2).1 (fun e => hne (by cases e; rfl))).trans h2
theorem set_keep {W : World} {Be j : Nat} {u : Value} {o : Option Obj} (h : W.heap[j]? = o) (hne : j ≠ Be) : (W.setCell ⟨Be, 0, none⟩ u).heap[j]? = o :=
  (Below.heap_setCell W ⟨Be, 0, none⟩ u j hne).trans h
theorem ne_types {W : World} {j k : Nat} {c1 c2 : Array Value} {T1 T2 : TypeId} {f1 f2 : Nat × Nat} (h1 : W.heap[j]? = some (.cells c1 T1 f1)) (h2 : W.heap[k]? = some (.cells c2 T2 f2)) (hT : T1 ≠ T2) : k ≠ j := by
  rintro rfl
  rw [h1] at h2
  injection h2 with h2
  injection h2 with _ q
  exact hT q
theorem infoFr : (Tryd.prog.info? 41).map (fun i => (i.zero, i.size, i.bytes)) = some (some (.agg #[.int .i64 0, .int .i64 0, .string ⟨#[]⟩, .int .i64 0, .bool false]), 5, 48) := by kernel_rfl

set_option maxRecDepth 100000 in
set_option maxHeartbeats 4000000 in
theorem frame_no (a : Option Addr) (n c : Nat) (off lim : Int) (w : World) (h : off < 0 ∨ (n : Int) < off) :
    Calls Tryd.prog 13 #[.slice a n c, .int .i64 off, .int .i64 lim] w fun e w' => e = .returned (.tuple #[.slice none 0 0, .int .i64 off]) ∧ w' = w := by
  by_cases h0 : off < 0
  · have d0 : decide (off < 0) = true := decide_eq_true h0
    go_enter Tryd.func13, Tryd.ntmps13
    go_wp2
    go_ret2
    exact ⟨rfl, rfl⟩
  · have d0 : decide (off < 0) = false := decide_eq_false h0
    have d1 : decide ((n : Int) < off) = true := decide_eq_true (by omega)
    go_enter Tryd.func13, Tryd.ntmps13
    go_wp2
    go_ret2
    exact ⟨rfl, rfl⟩

def frF0 (w : World) (a : Option Addr) (L : List UInt8) (c o : Nat) (lim : Int) (b : Nat) (y : Value) : Act :=
  { tmps := #[.slice a L.length c, .int .i64 (o : Int), .int .i64 lim, undef, undef, undef,
            .slice none 0 0, .int .i64 0, .pointer (some ⟨w.heap.size, 0, none⟩),
            .pointer (some ⟨w.heap.size + 1, 0, none⟩), .pointer (some ⟨b, 0, none⟩), .int .i64 (o : Int),
            .bool false, .bool false, .int .i64 (o : Int), .slice a L.length c,
            .int .i64 (L.length : Int), .bool false, .bool false,
            undef, .int .i64 (o : Int), .slice a L.length c, .int .i64 (o : Int),
            .int .i64 lim, .func (.func 33) #[] #[.pointer (some ⟨w.heap.size + 2, 0, none⟩), .pointer (some ⟨w.heap.size + 2 + 1, 0, none⟩), .pointer (some ⟨w.heap.size + 2 + 1 + 1, 0, none⟩)], y, undef, undef, undef, undef, undef, undef, undef, undef, undef, undef,
            undef], defers := [] }
def frF (w : World) (a : Option Addr) (L : List UInt8) (c o : Nat) (lim : Int) (b : Nat) {l : List UInt8} (x : SegF l) : Act := frF0 w a L c o lim b (.agg (frA ((o : Int) + (x.1.1 : Int)) (pcL l x.1) lim))
/-- Behind a region that only reads. -/
def DrawnF (a0 : Act) (W0 : World) : Exit → Act → World → Prop
  | .normal, a, W => a = a0 ∧ ∃ k, W = W0.drewN k
  | _, _, _ => False
def frZ (w : World) (a : Option Addr) (L : List UInt8) (c o : Nat) (lim : Int) (D : Nat) (y z : Value) : Act :=
  { tmps := #[.slice a L.length c, .int .i64 (o : Int), .int .i64 lim, undef, undef, undef,
            y, z, .pointer (some ⟨w.heap.size, 0, none⟩),
            .pointer (some ⟨w.heap.size + 1, 0, none⟩), undef, .int .i64 (o : Int),
            .bool false, .bool false, .int .i64 (o : Int), .slice a L.length c,
            .int .i64 (L.length : Int), .bool false, .bool false,
            undef, .int .i64 (o : Int), .slice a L.length c, .int .i64 (o : Int),
            .int .i64 lim, .func (.func 33) #[] #[.pointer (some ⟨w.heap.size + 2, 0, none⟩), .pointer (some ⟨w.heap.size + 2 + 1, 0, none⟩), .pointer (some ⟨w.heap.size + 2 + 1 + 1, 0, none⟩)], undef, undef, undef, undef, undef, undef, undef, undef, undef, undef, y, z], defers := [{ target := .collected D, args := #[] }] }
set_option maxRecDepth 100000 in
set_option maxHeartbeats 4000000 in
theorem frame_yes (a : Option Addr) (c o : Nat) (L l : List UInt8) (hl : L.drop o = l) (lim : Int) (hL : L.length ≤ 2097152) (ho : o ≤ L.length) (w : World) (hT : Tabs w) (hS : BySl w (.slice a L.length c) L) :
    Calls Tryd.prog 13 #[.slice a L.length c, .int .i64 (o : Int), .int .i64 lim] w fun e w' =>
      (∃ v, e = .returned (.tuple #[v, .int .i64 ((o : Int) + (lastK l l.length : Int))]) ∧ w'.ownsRow w.heap.size 41 5 v (spK l l.length).length (frL l (o : Int) lim (spK l l.length))) ∧ Below w.heap.size w w' := by
  obtain ⟨i0, hi, hz0, hz1, hz2⟩ := info_parts infoFr
  refine (callsIn_wide (n := 4)).1 ?_
  refine callsIn_of_wp_marks Tryd.func13 rfl trivial ?_ rfl
  simp only [Tryd.ntmps13, List.size_toArray, List.length_cons, List.length_nil, Nat.reduceAdd, Nat.reduceSub, Array.replicate_succ, Array.replicate_zero, List.push_toArray, List.append_toArray, List.nil_append, List.cons_append]
  have d0 : decide ((o : Int) < 0) = false := decide_eq_false (by omega)
  have d1 : decide ((L.length : Int) < (o : Int)) = false := decide_eq_false (by omega)
  have d2 : decide (L.length < o) = false := decide_eq_false (by omega)
  have hlen : l.length ≤ L.length := by rw [← hl, List.length_drop]; omega
  have H := Lib.hid (And.intro hT (And.intro hS hl))
  clear hT hS hl
  gi_wp2_with (refine ⟨trivial, ?_⟩; gi_at_call 23; refine (callsIn_wide.2 (lines_seq _ _ _ _ _ _)).mono ?_)
  rintro e w3 ⟨rfl, hbx3, hb3, hs3⟩
  have hsz : ((w.alloc (.cells #[.slice none 0 0] 34)).alloc (.cells #[.int .i64 (o : Int)] 3)).heap.size = w.heap.size + 2 := by simp
  have hbA : Below w.heap.size w w3 := (((Below.refl _ w).alloc (Nat.le_refl _) _).alloc (by simp) _).trans (hb3.mono (by omega))
  have hB1 : Boxed w3 w.heap.size 34 (.slice none 0 0) := (hb3.block _ (by omega)).trans (Boxed.alloc (Boxed.new w _ _) _)
  have hB2 : Boxed w3 (w.heap.size + 1) 3 (.int .i64 (o : Int)) := by
    have h1 := Boxed.new (w.alloc (.cells #[.slice none 0 0] 34)) 3 (.int .i64 (o : Int))
    rw [World.size_alloc] at h1
    exact (hb3.block _ (by omega)).trans h1
  simp only [hsz] at hbx3 hs3 ⊢
  have h0 : ∃ v, FrI w w3.heap.size l o lim (.slice a L.length c) v [] w3 := ⟨_, hB1, World.ownsRow_nil _ _ _ _, by simpa [lastE] using hB2, hbx3, hbA, Nat.le_refl _⟩
  have hT3 := Utf8Tabs_below H.out.1 hbA
  have hst := lines_stops 3 (by omega) (w.heap.size + 2) (w.heap.size + 2 + 1) (w.heap.size + 2 + 1 + 1) o a c L l H.out.2.2 lim hL ho w w3 H.out.1 H.out.2.1 hbA hbx3
  clear hb3 hsz hB1 hB2
  gi_wp2_with fail
  refine wpIn_rangeFunc_ownH rfl (by omega) (gf := 33) (lb := #[.pointer (some ⟨w.heap.size + 2, 0, none⟩), .pointer (some ⟨w.heap.size + 2 + 1, 0, none⟩), .pointer (some ⟨w.heap.size + 2 + 1 + 1, 0, none⟩)]) rfl trivial (enters_of Tryd.func33 (by kernel_rfl) rfl)
    hst KeepF.t (KeepF.b (by omega) (by omega) (by omega) (by omega)) (Below.refl _ _) (fun _ => rfl)
    (fun pre W => ∃ v, FrI w w3.heap.size l o lim (.slice a L.length c) v pre W) (fun _ _ _ => False) (FrI.own _ _ _ _ _ _ _ (by omega)) (fun _ _ _ _ _ hs _ _ => hs) h0
    (fun x a' W => ∃ b v, a' = frF w a L c o lim b x ∧ w3.heap.size ≤ b ∧ BkAt b 41 (frA ((o : Int) + (x.1.1 : Int)) (pcL l x.1) lim) W ∧ Boxed W w.heap.size 34 v ∧ v.ownBlock ≠ some b) ?own ?assign ?body ?done ?stop
  case own =>
    rintro x a' s W W' row ⟨b, v, e, hb, hk, hbx, hne⟩ hg hr
    refine ⟨b, v, e, hb, (hg.block b hk.lt (fun q => ?_)).trans hk, Boxed.grownO hbx hg (fun r q => (hr r q).2), hne⟩
    obtain ⟨o1, h1, h2⟩ := (hr b q.symm).2
    rw [show W.heap[b]? = _ from hk] at h1
    cases h1
    cases h2
  case assign =>
    rintro lp pre x W K ⟨v, hv⟩ hK
    have hbs := hv.bel.size
    obtain ⟨S, hSe⟩ : ∃ y, frS (pcL l x.1) lim = y := ⟨_, rfl⟩
    obtain ⟨D, hDe⟩ : ∃ y : Int, (frD (pcL l x.1) lim : Int) = y := ⟨_, rfl⟩
    obtain ⟨bb, hbe⟩ : ∃ y, frB (pcL l x.1) lim = y := ⟨_, rfl⟩
    obtain ⟨pn, hpn⟩ : ∃ y, (pcL l x.1).length = y := ⟨_, rfl⟩
    obtain ⟨A, hA⟩ : ∃ y, (o : Int) + (x.1.1 : Int) = y := ⟨_, rfl⟩
    have hfa : frA ((o : Int) + (x.1.1 : Int)) (pcL l x.1) lim = #[.int .i64 A, .int .i64 (pn : Int), .string S, .int .i64 D, .bool bb] := by unfold frA; rw [hSe, hDe, hbe, hpn, hA]
    simp only [lnEnc, hfa]
    clear hSe hDe hbe hpn hA
    have HV := Lib.hid hv
    have HK := Lib.hid hK
    have HFA := Lib.hid hfa
    clear hv hK hfa
    gi_wp2
    have hlt0 := Boxed.lt HV.out.bx.b0
    have hlt1 := Boxed.lt HV.out.bx.b1
    have hlt2 := Boxed.lt HV.out.bx.b2
    refine HK.out _ _ ((KeepsOthers.alloc W _).from _) ⟨(Below.refl _ _).alloc (by omega) _, ⟨Below.heap_alloc _ _ _ hlt0, Below.heap_alloc _ _ _ hlt1, Below.heap_alloc _ _ _ hlt2⟩, fun k cs fr hk => (Below.heap_alloc _ _ k (Array.getElem?_eq_some_iff.1 hk).1).trans hk⟩ ⟨v, ?_⟩ ⟨W.heap.size, v, ?_, ?_, ?_, Boxed.alloc HV.out.box _, ?_⟩
    · exact ⟨Boxed.alloc HV.out.box _, HV.out.row.alloc _, Boxed.alloc HV.out.fin _, ⟨Boxed.alloc HV.out.bx.b0 _, Boxed.alloc HV.out.bx.b1 _, Boxed.alloc HV.out.bx.b2 _⟩, HV.out.bel.alloc HV.out.bel.size _, Nat.le_trans HV.out.sz (by simp)⟩
    · unfold frF frF0
      rw [HFA.out]
    · exact HV.out.sz
    · rw [HFA.out]
      exact BkAt.new _ _ _
    · intro e
      have := (HV.out.row.lt _ e).2
      omega
  case body =>
    rintro lp pre x a' W hlp ⟨r, hr⟩ ⟨v, hv⟩ ⟨b, v2, rfl, hbb, hkb, hbx, hne⟩ hlt
    obtain rfl : v2 = v := by have q := (show W.heap[w.heap.size]? = _ from hbx).symm.trans hv.box; simpa using q
    obtain ⟨⟨A, B⟩, hAB, hBl⟩ := x
    simp only at hAB hBl
    have hpl : (pcL l (A, B)).length = B - A := pcL_len l (A, B) hBl
    obtain ⟨S, hSe⟩ : ∃ y, frS (pcL l (A, B)) lim = y := ⟨_, rfl⟩
    obtain ⟨D, hDe⟩ : ∃ y : Int, (frD (pcL l (A, B)) lim : Int) = y := ⟨_, rfl⟩
    obtain ⟨bb, hbe⟩ : ∃ y, frB (pcL l (A, B)) lim = y := ⟨_, rfl⟩
    obtain ⟨pn, hpn⟩ : ∃ y, (pcL l (A, B)).length = y := ⟨_, rfl⟩
    have hfa : frA ((o : Int) + (A : Int)) (pcL l (A, B)) lim = #[.int .i64 ((o : Int) + (A : Int)), .int .i64 (pn : Int), .string S, .int .i64 D, .bool bb] := by unfold frA; rw [hSe, hDe, hbe, hpn]
    have hfc : frC ((o : Int) + (A : Int)) (pcL l (A, B)) lim = [.int .i64 ((o : Int) + (A : Int)), .int .i64 (pn : Int), .string S, .int .i64 D, .bool bb] := by unfold frC; rw [hSe, hDe, hbe, hpn]
    have hfr : frF w a L c o lim b (⟨(A, B), hAB, hBl⟩ : SegF l) = frF0 w a L c o lim b (.agg #[.int .i64 ((o : Int) + (A : Int)), .int .i64 (pn : Int), .string S, .int .i64 D, .bool bb]) := by unfold frF frF0; rw [hfa]
    rw [hpn] at hpl
    rw [hfr]
    simp only [hfa] at hkb
    have q1 : ∀ u ∈ ([.int .i64 ((o : Int) + (A : Int)), .int .i64 (pn : Int), .string S, .int .i64 D, .bool bb] : List Value), u.oneCell' = true := by
      intro u hu
      simp only [List.mem_cons, List.not_mem_nil, or_false] at hu
      rcases hu with rfl | rfl | rfl | rfl | rfl <;> rfl
    have q2 : ∀ (j : Nat) (u : Value), ([.int .i64 ((o : Int) + (A : Int)), .int .i64 (pn : Int), .string S, .int .i64 D, .bool bb] : List Value)[j]? = some u → (W.alloc (.cells #[.int .i64 ((o : Int) + (A : Int)), .int .i64 (pn : Int), .string S, .int .i64 D, .bool bb] 41)).cell? ((⟨W.heap.size, 0, none⟩ : Addr).add j) = some u := fun j u hj => by
      rw [Addr.add_lit, Nat.zero_add, Lib.cell_of_heap (heap_alloc_new W _)]
      simpa using hj
    have q3 : pre.length + 1 ≤ maxLen := by unfold maxLen; omega
    have q4 : (pre.length + 1) * 48 ≤ 140737488355328 := by omega
    have q5 : w.heap.size ≤ (W.alloc (.cells #[.int .i64 ((o : Int) + (A : Int)), .int .i64 (pn : Int), .string S, .int .i64 D, .bool bb] 41)).heap.size := by have := hv.bel.size; simp; omega
    have e1 : W.cell? ⟨w.heap.size, 0, none⟩ = some v2 := Boxed.cell hv.box
    have e2 : W.cell? ⟨b, 0, none⟩ = some (.int .i64 ((o : Int) + (A : Int))) := hkb.cell 0
    have e3 : W.cell? ⟨b, 1, none⟩ = some (.int .i64 (pn : Int)) := hkb.cell 1
    have e4 : W.cell? ⟨b, 2, none⟩ = some (.string S) := hkb.cell 2
    have e5 : W.cell? ⟨b, 3, none⟩ = some (.int .i64 D) := hkb.cell 3
    have e6 : W.cell? ⟨b, 4, none⟩ = some (.bool bb) := hkb.cell 4
    obtain ⟨va, vm, vc, rfl⟩ := row_slice hv.row
    have hA2 : (A : Int) ≤ 2097152 := by omega
    have hP2 : (pn : Int) ≤ 2097152 := by omega
    have hO2 : (o : Int) ≤ 2097152 := by omega
    have HV := Lib.hid hv
    have HX := Lib.hid (And.intro hkb (And.intro hne (And.intro hbb (And.intro hfc (And.intro hpl hAB)))))
    have HQ := Lib.hid (And.intro q2 (And.intro q3 (And.intro q4 q5)))
    clear hv hkb hne hbx hbb hfa hfc hpl hSe hDe hbe hpn hr hlp q2 q3 q4 q5 hfr
    unfold frF0
    dsimp only
    gi_wp2_with (first
      | (gi_at_builtin; refine wpListIn_append_own _ rfl _ _ 34 rfl w.heap.size 41 i0 (.agg #[.int .i64 0, .int .i64 0, .string ⟨#[]⟩, .int .i64 0, .bool false]) 5 48 Tryd.underlying34 hi hz0 hz1 hz2 rfl (by decide) _ _ _ rfl (HV.out.row.alloc _) ⟨W.heap.size, 0, none⟩ 1 1 [.int .i64 ((o : Int) + (A : Int)), .int .i64 (pn : Int), .string S, .int .i64 D, .bool bb] rfl rfl HQ.out.1 q1 HQ.out.2.1 HQ.out.2.2.1 HQ.out.2.2.2 ?_; intro v' w4 hown' hg4 hnil
         obtain ⟨hv1, hv2, hrow2, hko, hb⟩ := Boxed.appended HV.out.box (by decide) HV.out.row HV.out.bel.size (Nat.le_refl _) hown' hg4
         have hc4 := Boxed.cell hv1
         have hf4 := Boxed.frozen hv1
         obtain ⟨g', cap', rfl⟩ := ownsRow_succ hown'
         have hkb5 : BkAt b 41 #[.int .i64 ((o : Int) + (A : Int)), .int .i64 (pn : Int), .string S, .int .i64 D, .bool bb] (w4.setCell ⟨w.heap.size, 0, none⟩ (.slice (some ⟨g', 0, none⟩) (pre.length + 1) cap')) :=
           set_keep ((hg4.block b (by have := HX.out.1.lt; simp; omega) (fun q => HX.out.2.1 q.symm)).trans ((Below.heap_alloc _ _ b HX.out.1.lt).trans HX.out.1)) (by have := HX.out.2.2.1; omega)
         have hfin5 : Boxed (w4.setCell ⟨w.heap.size, 0, none⟩ (.slice (some ⟨g', 0, none⟩) (pre.length + 1) cap')) (w.heap.size + 1) 3 (.int .i64 ((o : Int) + (lastE (pre.map (·.1)) : Int))) := app_keep HV.out.row hg4 HV.out.fin (by decide) (by omega)
         have j0 : (w4.setCell ⟨w.heap.size, 0, none⟩ (.slice (some ⟨g', 0, none⟩) (pre.length + 1) cap')).cell? ⟨b, 0, none⟩ = some (.int .i64 ((o : Int) + (A : Int))) := hkb5.cell 0
         have j1 : (w4.setCell ⟨w.heap.size, 0, none⟩ (.slice (some ⟨g', 0, none⟩) (pre.length + 1) cap')).cell? ⟨b, 1, none⟩ = some (.int .i64 (pn : Int)) := hkb5.cell 1
         have j2 := Boxed.cell hfin5
         have j3 := Boxed.frozen hfin5
         have HW4 := Lib.hid (And.intro hown' (And.intro hg4 (And.intro hv2 (And.intro hrow2 (And.intro hko (And.intro hb hfin5))))))
         clear hown' hg4 hv2 hrow2 hko hb hfin5 hkb5 hnil hv1
         simp only [Act.put, List.setIfInBounds_toArray, List.set_cons_succ, List.set_cons_zero])
      | fail)
    have hbel6 := HW4.out.2.2.2.2.2.1.setCell (p := ⟨w.heap.size + 1, 0, none⟩) (by show _ ≤ w.heap.size + 1; omega) (.int .i64 ((o : Int) + (A : Int) + (pn : Int)))
    have k0 := set_keep (u := .int .i64 ((o : Int) + (A : Int) + (pn : Int))) (Be := w.heap.size + 1) (app_keep (v' := .slice (some ⟨g', 0, none⟩) (pre.length + 1) cap') (Bl := w.heap.size) HV.out.row HW4.out.2.1 HV.out.bx.b0 (by decide) (by omega)) (by omega)
    have k1 := set_keep (u := .int .i64 ((o : Int) + (A : Int) + (pn : Int))) (Be := w.heap.size + 1) (app_keep (v' := .slice (some ⟨g', 0, none⟩) (pre.length + 1) cap') (Bl := w.heap.size) HV.out.row HW4.out.2.1 HV.out.bx.b1 (by decide) (by omega)) (by omega)
    have k2 := set_keep (u := .int .i64 ((o : Int) + (A : Int) + (pn : Int))) (Be := w.heap.size + 1) (app_keep (v' := .slice (some ⟨g', 0, none⟩) (pre.length + 1) cap') (Bl := w.heap.size) HV.out.row HW4.out.2.1 HV.out.bx.b2 (by decide) (by omega)) (by omega)
    refine ⟨(HW4.out.2.2.2.2.1.trans (KeepsOthers.setCell _ _ _)).from _, ⟨hbel6, ⟨k0.trans HV.out.bx.b0.symm, k1.trans HV.out.bx.b1.symm, k2.trans HV.out.bx.b2.symm⟩, fun k cs fr hk => ?_⟩, .slice (some ⟨g', 0, none⟩) (pre.length + 1) cap', ?_, ?_, ?_, ⟨k0, k1, k2⟩, HV.out.bel.trans hbel6, by have h1 := HV.out.sz; have h2 := hbel6.size; omega⟩
    · exact set_keep (app_keep HV.out.row HW4.out.2.1 hk (by decide) (ne_types HV.out.box hk (by decide))) (ne_types HV.out.fin hk (by decide))
    · exact set_keep HW4.out.2.2.1 (by omega)
    · have hr := HW4.out.2.2.2.1.kept (grownBy_setCell' _ (w.heap.size + 1) (.int .i64 ((o : Int) + (A : Int) + (pn : Int)))) (.inr (Boxed.not_row HW4.out.2.2.2.2.2.2 (by decide) HW4.out.2.2.2.1).symm)
      rw [List.map_append, frL_app, List.length_append]
      have h1 : frL l (o : Int) lim (List.map (fun y : SegF l => y.1) [⟨(A, B), hAB, hBl⟩]) = [.int .i64 ((o : Int) + (A : Int)), .int .i64 (pn : Int), .string S, .int .i64 D, .bool bb] := by
        rw [← HX.out.2.2.2.1]
        exact frL_one _ _ _ _
      rw [h1]
      exact hr
    · have e : (o : Int) + (A : Int) + (pn : Int) = (o : Int) + (lastE ((pre ++ [(⟨(A, B), hAB, hBl⟩ : SegF l)]).map (·.1)) : Int) := by
        rw [List.map_append]
        show _ = (o : Int) + (lastE (pre.map (·.1) ++ [(A, B)]) : Int)
        rw [lastE_snoc]
        have := HX.out.2.2.2.2.1
        show (o : Int) + (A : Int) + (pn : Int) = (o : Int) + (B : Int)
        omega
      rw [← e]
      exact Boxed.set _ HW4.out.2.2.2.2.2.2
  case done =>
    rintro D ys W hDs hys ⟨v, hv⟩ hK
    have e1 := Boxed.cell hv.box
    have e2 := Boxed.cell hv.fin
    obtain ⟨va, vm, vc, rfl⟩ := row_slice hv.row
    have HV := Lib.hid hv
    have HY := Lib.hid hys
    have HK := Lib.hid hK
    clear hv hys hK
    gi_wp2_with fail
    refine wpIn_wide.2 (wp_mono (Q := DrawnF (frZ w a L c o lim D (.slice va vm vc) (.int .i64 ((o : Int) + (lastE (ys.map (·.1)) : Int)))) W) ?_ ?_)
    · go_quiet (fail)
      exact ⟨rfl, _, rfl⟩
    · rintro e a' V h
      cases e with
      | normal =>
        obtain ⟨rfl, k, rfl⟩ := h
        unfold frZ
        dsimp only
        have hK' : (W.drewN k).heap[D]? = some (.deferred (some [])) := HK.out
        gi_wp2
        refine ⟨by simp, .inl ⟨_, _, rfl, run_takeDeferred hK', ?_⟩⟩
        refine ⟨.tuple #[.slice va vm vc, .int .i64 ((o : Int) + (lastE (ys.map (·.1)) : Int))], by simp [results, Tryd.f13, go_sem], ⟨.slice va vm vc, ?_, ?_⟩, ?_⟩
        · rw [HY.out, lastE_spK]
        · have h1 : (W.drewN k).ownsRow w.heap.size 41 5 (.slice va vm vc) ys.length (frL l (o : Int) lim (ys.map (·.1))) := HV.out.row
          have h2 := ownsRow_putObj h1 (.deferred none) hK' rfl
          have h3 := congrArg List.length HY.out
          rw [List.length_map] at h3
          rw [HY.out, h3] at h2
          exact h2
        · exact (show Below w.heap.size w (W.drewN k) from bl_drewN HV.out.bel k).trans (belowK_b (w := w) (Nat.le_refl _) _ D _ _ (by omega) hK' rfl rfl)
      | _ => exact h.elim
  case stop =>
    rintro D c pre W _ _ h _
    exact h.elim
end Go.Proofs.YtbpboghjgbgjfaaDoor
