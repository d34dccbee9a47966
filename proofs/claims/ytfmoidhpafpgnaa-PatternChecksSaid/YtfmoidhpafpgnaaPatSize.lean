/- The contracts of package pattern's Size and of its reference: both count the nodes, up to 401. -/
import Derived.Test.YtfmoidhpafpgnaaPatVis
import Derived.Test.YtfmoidhpafpgnaaPatParen
namespace Go.Proofs.Ytfmoidhpafpgnaa
open Go.RowKit

theorem SixAt.belowAll {w w' : World} {b : Nat} {v0 v1 v2 v3 v4 v5 : Value} (h : SixAt w b v0 v1 v2 v3 v4 v5) (hb : Below w.heap.size w w') : SixAt w' b v0 v1 v2 v3 v4 v5 := by
  have hlt := h.lt
  obtain ⟨t, h⟩ := h
  exact ⟨t, (hb.block b hlt).trans h⟩
/-- One kid of a node's list, with its cells. -/
theorem kid_six {lo : Nat} {w0 : World} {l : List Nd} {g o j : Nat} (h : KidsIn lo w0 l g o) (hj : j < l.length) : ∃ op ra rn rc nm ka kn kc mn mx, NodeIn lo w0 l[j] (.agg #[.int .i64 op, .slice ra rn rc, .string nm, .slice ka kn kc, .int .i64 mn, .int .i64 mx]) ∧
    w0.cell? ⟨g, o + j * 6, none⟩ = some (.int .i64 op) ∧ w0.cell? ⟨g, o + j * 6 + 1, none⟩ = some (.slice ra rn rc) ∧ w0.cell? ⟨g, o + j * 6 + 2, none⟩ = some (.string nm) ∧ w0.cell? ⟨g, o + j * 6 + 3, none⟩ = some (.slice ka kn kc) ∧ w0.cell? ⟨g, o + j * 6 + 4, none⟩ = some (.int .i64 mn) ∧ w0.cell? ⟨g, o + j * 6 + 5, none⟩ = some (.int .i64 mx) := by
  obtain ⟨ra, rc, ka, kc, hn, c0, c1, c2, c3, c4, c5⟩ := kids_at l g o h j hj
  exact ⟨_, _, _, _, _, _, _, _, _, _, hn, c0, c1, c2, c3, c4, c5⟩
mutual
theorem cntN_in : ∀ (t : Nd) (lim : Nat), 1 ≤ lim → 1 ≤ cntN t lim ∧ cntN t lim ≤ lim
  | .mk op rs nm kids mn mx, lim, h => by
    unfold cntN
    exact cntAll_in kids lim 1 (Nat.le_refl _) h
theorem cntAll_in : ∀ (l : List Nd) (lim n : Nat), 1 ≤ n → n ≤ lim → 1 ≤ cntAll l lim n ∧ cntAll l lim n ≤ lim
  | [], lim, n, h1, h2 => by unfold cntAll; exact ⟨h1, h2⟩
  | k :: r, lim, n, h1, h2 => by
    unfold cntAll
    by_cases he : n = lim
    · rw [if_pos he]; exact ⟨h1, h2⟩
    · rw [if_neg he]
      have := cntN_in k (lim - n) (by omega)
      exact cntAll_in r lim _ (by omega) (by omega)
end
mutual
def refN : Nd → Nat → Nat
  | .mk _ _ _ kids _ _, so => if 400 < so then so else refL kids (so + 1)
def refL : List Nd → Nat → Nat
  | [], so => so
  | k :: r, so => if so ≤ 400 then refL r (refN k so) else so
end
mutual
theorem refN_eq : ∀ (t : Nd) (so : Nat), so ≤ 400 → refN t so = so + cntN t (401 - so)
  | .mk op rs nm kids mn mx, so, h => by
    unfold refN cntN
    rw [if_neg (by omega)]
    exact refL_eq kids so 1 h (Nat.le_refl _) (by omega)
theorem refL_eq : ∀ (l : List Nd) (so n : Nat), so ≤ 400 → 1 ≤ n → n ≤ 401 - so → refL l (so + n) = so + cntAll l (401 - so) n
  | [], so, n, _, _, _ => by unfold refL cntAll; rfl
  | k :: r, so, n, h0, h1, h2 => by
    unfold refL cntAll
    by_cases he : n = 401 - so
    · rw [if_pos he, if_neg (by omega)]
    · rw [if_neg he, if_pos (by omega), refN_eq k (so + n) (by omega)]
      have hc := cntN_in k (401 - so - n) (by omega)
      have e : 401 - (so + n) = 401 - so - n := by omega
      rw [e]
      have := refL_eq r so (n + cntN k (401 - so - n)) h0 (by omega) (by omega)
      rw [← this]
      congr 1
      omega
end
theorem ref_size (t : Nd) : refN t 0 = cntN t 401 := by
  rw [refN_eq t 0 (by omega)]; simp
def CntOk (t : Nd) : Prop := ∀ (v : Value) (w0 w : World) (lim : Nat), NodeIn 0 w0 t v → Below w0.heap.size w0 w → 1 ≤ lim → lim ≤ 401 →
  Calls Try.prog 20 #[v, .int .i64 (lim : Int)] w fun e w' => e = .returned (.int .i64 (cntN t lim : Int)) ∧ Below w.heap.size w w'

set_option maxRecDepth 100000 in
set_option maxHeartbeats 4000000 in
theorem cnt_step (op : Int) (rs : List (Nat × Nat)) (nm : ByteArray) (kids : List Nd) (mn mx : Int) (ih : ∀ k ∈ kids, CntOk k) : CntOk (.mk op rs nm kids mn mx) := by
  intro v w0 w lim hin hw h1 h2
  unfold NodeIn at hin
  obtain ⟨rv, ka, kc, rfl, -, -, -, -, hkl, -, hks⟩ := hin
  unfold ndVals
  unfold maxLen at hkl
  obtain ⟨goal, hgoal⟩ : ∃ g, cntN (.mk op rs nm kids mn mx) lim = g := ⟨_, rfl⟩
  rw [hgoal]
  unfold cntN at hgoal
  have hb := (Below.refl w.heap.size w).alloc (Nat.le_refl _) (.cells #[.int .i64 op, rv, .string nm, .slice ka kids.length kc, .int .i64 mn, .int .i64 mx] 25)
  have HG := Lib.hid hgoal
  have HK := Lib.hid hks
  have HI := Lib.hid ih
  have HW := Lib.hid hw
  have HB := Lib.hid hb
  clear hgoal hks ih hw hb
  go_enter Try.func20, Try.ntmps20
  go_wp2
  go_loopw [5, 11] (fun n i wr => ∃ (k m : Nat), k ≤ kids.length ∧ i = .int .i64 k ∧ n = .int .i64 m ∧ 1 ≤ m ∧ m ≤ lim ∧ Hid (cntAll (kids.drop k) lim m = goal) ∧ Below w.heap.size w wr) (fun _ i _ => kids.length - (intOf i).toNat)
  case atStart => exact ⟨0, 1, by omega, rfl, rfl, by omega, by omega, HG.out, HB.out⟩
  case round =>
    obtain ⟨k, m, hk, rfl, rfl, hm1, hm2, HV, hbe⟩ := hrel
    obtain ⟨W1, rfl⟩ : ∃ W1, W1 = wr := ⟨_, rfl⟩
    by_cases hlt : k < kids.length
    · rcases HK.out with hnil | ⟨g, o, rfl, -, hkk⟩
      · rw [hnil] at hlt; simp at hlt
      have hWW := HW.out.trans (hbe.mono HW.out.size)
      obtain ⟨xo, xa, xn, xc, xm, ya, yn, yc, x4, x5, hin1, e0, e1, e2, e3, e4, e5⟩ := kid_six hkk hlt
      have hcl := fun g o v hc => keeps_below hWW (lo := 0) g o v (Nat.zero_le _) hc
      have d0 := hcl _ _ _ e0
      have d1 := hcl _ _ _ e1
      have d2 := hcl _ _ _ e2
      have d3 := hcl _ _ _ e3
      have d4 := hcl _ _ _ e4
      have d5 := hcl _ _ _ e5
      have hdrop : kids.drop k = kids[k] :: kids.drop (k + 1) := List.drop_eq_getElem_cons hlt
      by_cases he : m = lim
      · have hgo : goal = lim := by have := HV.out; rw [hdrop] at this; unfold cntAll at this; rw [if_pos he] at this; omega
        subst he
        have KE := Lib.hid (And.intro hgo (And.intro True.intro (hbe.alloc hbe.size (.cells #[.int .i64 xo, .slice xa xn xc, .string xm, .slice ya yn yc, .int .i64 x4, .int .i64 x5] 25))))
        clear hgo hdrop hcl e0 e1 e2 e3 e4 e5 hin1 hkk hWW hbe
        go_wp2
        go_ret
        exact ⟨by rw [KE.out.1]; rfl, KE.out.2.2⟩
      · have hgo : cntAll (kids.drop (k + 1)) lim (m + cntN kids[k] (lim - m)) = goal := by have := HV.out; rw [hdrop] at this; unfold cntAll at this; rw [if_neg he] at this; exact this
        have q1 : ((m : Int) == (lim : Int)) = false := by rw [beq_eq_false_iff_ne]; omega
        have hin2 := cntN_in kids[k] (lim - m) (by omega)
        have hcall := HI.out kids[k] (List.getElem_mem hlt) _ w0 (W1.alloc (.cells #[.int .i64 xo, .slice xa xn xc, .string xm, .slice ya yn yc, .int .i64 x4, .int .i64 x5] 25)) (lim - m) hin1 (hWW.alloc hWW.size _) (by omega) (by omega)
        obtain ⟨c, hc⟩ : ∃ c, cntN kids[k] (lim - m) = c := ⟨_, rfl⟩
        rw [hc] at hcall hgo hin2
        have e6 : ((lim - m : Nat) : Int) = (lim : Int) - (m : Int) := by omega
        rw [e6] at hcall
        have KE := Lib.hid (And.intro hgo (And.intro hcall (hbe.alloc hbe.size (.cells #[.int .i64 xo, .slice xa xn xc, .string xm, .slice ya yn yc, .int .i64 x4, .int .i64 x5] 25))))
        clear hgo hcall hdrop hcl e0 e1 e2 e3 e4 e5 e6 hin1 hkk hWW hbe hc
        go_wp2_with fail
        refine (KE.out.2.1).mono ?_
        rintro e w3 ⟨rfl, hb3⟩
        have K3 := Lib.hid (KE.out.2.2.trans (hb3.mono KE.out.2.2.size))
        clear hb3
        go_wp2
        go_roundw
        case rel => exact ⟨k + 1, m + c, by omega, by simp, by simp, by omega, by omega, KE.out.1, K3.out⟩
        case measure => simp [intOf]; omega
    · obtain rfl : k = kids.length := by omega
      have hgo : goal = m := by have := HV.out; rw [List.drop_length] at this; unfold cntAll at this; exact this.symm
      have KE := Lib.hid (And.intro hgo hbe)
      clear hgo hbe
      go_wp2
      go_ret
      exact ⟨by rw [KE.out.1]; rfl, KE.out.2⟩
theorem cnt_all : ∀ t, CntOk t := Nd.induct cnt_step
theorem refN_in (t : Nd) (so : Nat) (h : so ≤ 401) : so ≤ refN t so ∧ refN t so ≤ 401 := by
  by_cases h4 : so ≤ 400
  · rw [refN_eq t so h4]
    have := cntN_in t (401 - so) (by omega)
    omega
  · cases t
    unfold refN
    rw [if_pos (by omega)]
    omega
def RcOk (t : Nd) : Prop := ∀ (v : Value) (w0 w : World) (so : Nat), NodeIn 0 w0 t v → Below w0.heap.size w0 w → so ≤ 401 →
  Calls Try.prog 21 #[v, .int .i64 (so : Int)] w fun e w' => e = .returned (.int .i64 (refN t so : Int)) ∧ Below w.heap.size w w'

set_option maxRecDepth 100000 in
set_option maxHeartbeats 4000000 in
theorem rc_step (op : Int) (rs : List (Nat × Nat)) (nm : ByteArray) (kids : List Nd) (mn mx : Int) (ih : ∀ k ∈ kids, RcOk k) : RcOk (.mk op rs nm kids mn mx) := by
  intro v w0 w so hin hw h2
  unfold NodeIn at hin
  obtain ⟨rv, ka, kc, rfl, -, -, -, -, hkl, -, hks⟩ := hin
  unfold ndVals
  unfold maxLen at hkl
  have hb := (Below.refl w.heap.size w).alloc (Nat.le_refl _) (.cells #[.int .i64 op, rv, .string nm, .slice ka kids.length kc, .int .i64 mn, .int .i64 mx] 25)
  have hS := SixAt.new w (.int .i64 op) rv (.string nm) (.slice ka kids.length kc) (.int .i64 mn) (.int .i64 mx) 25
  obtain ⟨goal, hgoal⟩ : ∃ g, refN (.mk op rs nm kids mn mx) so = g := ⟨_, rfl⟩
  rw [hgoal]
  unfold refN at hgoal
  by_cases h4 : 400 < so
  · rw [if_pos h4] at hgoal
    subst hgoal
    have d1 : decide ((400 : Int) < (so : Int)) = true := by rw [decide_eq_true_eq]; omega
    have d2 : decide (400 < so) = true := by rw [decide_eq_true_eq]; omega
    have HB := Lib.hid hb
    clear hb hS hks ih hw
    go_enter Try.func21, Try.ntmps21
    go_wp2
    go_ret
    exact ⟨rfl, HB.out⟩
  rw [if_neg h4] at hgoal
  have d1 : decide ((400 : Int) < (so : Int)) = false := by rw [decide_eq_false_iff_not]; omega
  have d2 : decide (400 < so) = false := by rw [decide_eq_false_iff_not]; omega
  have HG := Lib.hid hgoal
  have HK := Lib.hid hks
  have HI := Lib.hid ih
  have HW := Lib.hid hw
  have HB := Lib.hid (And.intro hb hS)
  clear hgoal hks ih hw hb hS
  go_enter Try.func21, Try.ntmps21
  go_wp2
  go_loopw [1, 5] (fun n i wr => ∃ (k m : Nat), k ≤ kids.length ∧ i = .int .i64 k ∧ n = .int .i64 m ∧ m ≤ 401 ∧ Hid (refL (kids.drop k) m = goal) ∧ Below w.heap.size w wr ∧ SixAt wr w.heap.size (.int .i64 op) rv (.string nm) (.slice ka kids.length kc) (.int .i64 mn) (.int .i64 mx)) (fun _ i _ => kids.length - (intOf i).toNat)
  case atStart => exact ⟨0, so + 1, by omega, rfl, by simp, by omega, HG.out, HB.out.1, HB.out.2⟩
  case round =>
    obtain ⟨k, m, hk, rfl, rfl, hm2, HV, hbe, hS⟩ := hrel
    obtain ⟨W1, rfl⟩ : ∃ W1, W1 = wr := ⟨_, rfl⟩
    obtain ⟨p0, p1, p2, p3, p4, p5⟩ := hS.cells
    by_cases hlt : k < kids.length
    · have hdrop : kids.drop k = kids[k] :: kids.drop (k + 1) := List.drop_eq_getElem_cons hlt
      by_cases he : m ≤ 400
      · rcases HK.out with hnil | ⟨g, o, rfl, -, hkk⟩
        · rw [hnil] at hlt; simp at hlt
        have hWW := HW.out.trans (hbe.mono HW.out.size)
        obtain ⟨xo, xa, xn, xc, xm, ya, yn, yc, x4, x5, hin1, e0, e1, e2, e3, e4, e5⟩ := kid_six hkk hlt
        have hcl := fun g o v hc => keeps_below hWW (lo := 0) g o v (Nat.zero_le _) hc
        have d0 := hcl _ _ _ e0
        have d1' := hcl _ _ _ e1
        have d2' := hcl _ _ _ e2
        have d3 := hcl _ _ _ e3
        have d4 := hcl _ _ _ e4
        have d5 := hcl _ _ _ e5
        have hgo : refL (kids.drop (k + 1)) (refN kids[k] m) = goal := by have := HV.out; rw [hdrop] at this; unfold refL at this; rw [if_pos he] at this; exact this
        have hin2 := refN_in kids[k] m (by omega)
        have hcall := HI.out kids[k] (List.getElem_mem hlt) _ w0 W1 m hin1 hWW (by omega)
        obtain ⟨c, hc⟩ : ∃ c, refN kids[k] m = c := ⟨_, rfl⟩
        rw [hc] at hcall hgo hin2
        have KE := Lib.hid (And.intro hgo (And.intro hcall (And.intro hbe hS)))
        clear hgo hcall hdrop hcl e0 e1 e2 e3 e4 e5 hin1 hkk hWW hbe hc hS
        go_wp2_with fail
        refine (KE.out.2.1).mono ?_
        rintro e w3 ⟨rfl, hb3⟩
        have K3 := Lib.hid (And.intro (KE.out.2.2.1.trans (hb3.mono KE.out.2.2.1.size)) (KE.out.2.2.2.belowAll hb3))
        clear hb3
        go_wp2
        go_roundw
        case rel => exact ⟨k + 1, c, by omega, by simp, rfl, by omega, KE.out.1, K3.out.1, K3.out.2⟩
        case measure => simp [intOf]; omega
      · have hgo : goal = m := by have := HV.out; rw [hdrop] at this; unfold refL at this; rw [if_neg he] at this; exact this.symm
        have KE := Lib.hid (And.intro hgo hbe)
        clear hgo hbe hdrop hS
        go_wp2
        go_ret
        exact ⟨by rw [KE.out.1]; rfl, KE.out.2⟩
    · obtain rfl : k = kids.length := by omega
      have hgo : goal = m := by have := HV.out; rw [List.drop_length] at this; unfold refL at this; exact this.symm
      have KE := Lib.hid (And.intro hgo hbe)
      clear hgo hbe hS
      go_wp2
      go_ret
      exact ⟨by rw [KE.out.1]; rfl, KE.out.2⟩
theorem rc_all : ∀ t, RcOk t := Nd.induct rc_step

set_option maxRecDepth 100000 in
theorem size_any (t : Nd) (v : Value) (w : World) (h : NodeIn 0 w t v) :
    Calls Try.prog 10 #[v] w fun e w' => e = .returned (.int .i64 (cntN t 401 : Int)) ∧ Below w.heap.size w w' := by
  obtain ⟨ra, rc, ka, kc, rfl⟩ := id h.shape
  have hb0 := (Below.refl w.heap.size w).alloc (Nat.le_refl _) (.cells #[.int .i64 t.op, .slice ra t.rs.length rc, .string t.nm, .slice ka t.kids.length kc, .int .i64 t.mn, .int .i64 t.mx] 25)
  have hc := cnt_all t _ w _ 401 h hb0 (by omega) (by omega)
  have H := Lib.hid (And.intro hb0 hc)
  clear hb0 hc h
  go_enter Try.func10, Try.ntmps10
  go_wp2_with fail
  refine (H.out.2).mono ?_
  rintro e w1 ⟨rfl, hb1⟩
  go_wp2
  go_ret
  exact ⟨rfl, H.out.1.trans (hb1.mono H.out.1.size)⟩
set_option maxRecDepth 100000 in
theorem rsize_any (t : Nd) (v : Value) (w : World) (h : NodeIn 0 w t v) :
    Calls Try.prog 11 #[v] w fun e w' => e = .returned (.int .i64 (cntN t 401 : Int)) ∧ Below w.heap.size w w' := by
  obtain ⟨ra, rc, ka, kc, rfl⟩ := id h.shape
  have hb0 := (Below.refl w.heap.size w).alloc (Nat.le_refl _) (.cells #[.int .i64 t.op, .slice ra t.rs.length rc, .string t.nm, .slice ka t.kids.length kc, .int .i64 t.mn, .int .i64 t.mx] 25)
  have hc := rc_all t _ w _ 0 h hb0 (by omega)
  rw [ref_size] at hc
  have H := Lib.hid (And.intro hb0 hc)
  clear hb0 hc h
  go_enter Try.func11, Try.ntmps11
  go_wp2_with fail
  refine (H.out.2).mono ?_
  rintro e w1 ⟨rfl, hb1⟩
  go_wp2
  go_ret
  exact ⟨rfl, H.out.1.trans (hb1.mono H.out.1.size)⟩
end Go.Proofs.Ytfmoidhpafpgnaa
