/- The contract of value where it is no object. -/
import Derived.Test.YtdjkemodlbbmaaaDoorJsD
import Derived.Test.YtdjkemodlbbmaaaDoorJsE
import Derived.Test.YtdjkemodlbbmaaaDoorStepOwn
import Derived.Deep.RegionLaw
import Derived.Deep.AppendLies
import Derived.Lib.OwnKind
namespace Go.Proofs.YtdjkemodlbbmaaaDoor
open Go.RowKit

/-- One field more, 33 at most. -/
def accJ (F : List FldV) (P : List ByteArray) (v : List UInt8) : List FldV := if F.length < 33 then F ++ [(⟨(jnB P).toArray⟩, ⟨v.toArray⟩)] else F
theorem DocI.grown2 {D : Nat} {w w3 : World} {r : List UInt8} {P : List ByteArray} {vp vf vf' : Value} {F F' : List FldV}
    (h1 : w.heap[D]? = some (.cells #[.string ⟨r.toArray⟩, vp, vf] 62 (0, 0))) (h2 : w.ownsRow (D + 1) 9 1 vp P.length (encT P)) (h3 : FsR (D + 1) w vf F) (hg : w.grownBy w3 vf.ownBlock) (hr : FsR (D + 1) w3 vf' F') :
    DocI D (w3.setCell ⟨D, 2, none⟩ vf') r P F' ∧ Below D w (w3.setCell ⟨D, 2, none⟩ vf') ∧ w3.cell? ⟨D, 2, none⟩ = some vf ∧ w3.frozen? ⟨D, 2, none⟩ = false := by
  have hlt : D < w.heap.size := (Array.getElem?_eq_some_iff.1 h1).1
  have hne : ∀ g, vf.ownBlock = some g → D + 1 ≤ g := fun g hg => (World.ownsRow.lt h3 g hg).1
  have h1' : w3.heap[D]? = some (.cells #[.string ⟨r.toArray⟩, vp, vf] 62 (0, 0)) := (World.grownBy.block hg D hlt (fun e => by have := hne D e.symm; omega)).trans h1
  have hdis : vp.ownBlock = none ∨ vp.ownBlock ≠ vf.ownBlock := by
    cases hv : vp.ownBlock with
    | none => exact .inl rfl
    | some g =>
      refine .inr (fun e => ?_)
      obtain ⟨c1, z1, e1⟩ := Lib.ownsRow_kind h2 g hv
      obtain ⟨c2, z2, e2⟩ := Lib.ownsRow_kind h3 g e.symm
      rw [e1] at e2
      have := Option.some.inj e2
      injection this with _ a _
      exact absurd a (by decide)
  have h2' := h2.kept hg hdis
  refine ⟨⟨vp, vf', ?_, row_other h2' (by omega) _, row_other hr (by omega) _⟩, ?_, ?_, Lib.frozen_of_heap h1' 2⟩
  · simp [World.setCell, Array.getElem?_modify, h1']
  · exact ((Below.refl D w).grown hg (Nat.le_of_lt hlt) (fun g e => by have := hne g e; omega)).setCell (p := ⟨D, 2, none⟩) (Nat.le_refl _) _
  · rw [Lib.cell_of_heap h1']; rfl
theorem valC3 (D : Nat) (w2 w3 : World) (u : List UInt8) (vp vf : Value) (h1 : w2.heap[D]? = some (.cells #[.string ⟨u.toArray⟩, vp, vf] 62 (0, 0))) (hb : Below w2.heap.size w2 w3) :
    (w3.cell? ⟨D, 2, none⟩ = some vf) ∧ ∀ o, (w3.alloc o).cell? ⟨D, 2, none⟩ = some vf := by
  have hlt : D < w2.heap.size := (Array.getElem?_eq_some_iff.1 h1).1
  have h3 := (hb.block D hlt).trans h1
  have h4 : ∀ o, (w3.alloc o).heap[D]? = some (.cells #[.string ⟨u.toArray⟩, vp, vf] 62 (0, 0)) := fun o => ((bel_new w3 o).block D (Nat.lt_of_lt_of_le hlt hb.size)).trans h3
  exact ⟨(doc3 h3).2.2.1, fun o => (doc3 (h4 o)).2.2.1⟩
theorem valR3 (D : Nat) (w2 w3 : World) (u : List UInt8) (P : List ByteArray) (F : List FldV) (m : Nat) (fa : Option Addr) (fc : Nat) (vp : Value) (nm : ByteArray) (v : List UInt8) (hm : F.length = m) (h1 : w2.heap[D]? = some (.cells #[.string ⟨u.toArray⟩, vp, .slice fa m fc] 62 (0, 0)))
    (h2 : w2.ownsRow (D + 1) 9 1 vp P.length (encT P)) (h3 : FsR (D + 1) w2 (.slice fa m fc) F) (hb : Below w2.heap.size w2 w3) :
    w3.ownsRow (D + 1) 31 2 (.slice fa m fc) m (encL F) ∧
    (∀ j x, [Value.string nm, .string ⟨v.toArray⟩][j]? = some x → (w3.alloc (.cells #[.string nm, .string ⟨v.toArray⟩] 31)).cell? ((⟨w3.heap.size, 0, none⟩ : Addr).add j) = some x) ∧
    (∀ x ∈ [Value.string nm, .string ⟨v.toArray⟩], x.oneCell' = true) ∧
    (D + 1 ≤ (w3.alloc (.cells #[.string nm, .string ⟨v.toArray⟩] 31)).heap.size) ∧
    (∀ v' w4, w4.ownsRow (D + 1) 31 2 v' (m + 1) (encL F ++ [.string nm, .string ⟨v.toArray⟩]) → (w3.alloc (.cells #[.string nm, .string ⟨v.toArray⟩] 31)).grownBy w4 (Value.slice fa m fc).ownBlock →
      w4.cell? ⟨D, 2, none⟩ = some (.slice fa m fc) ∧ w4.frozen? ⟨D, 2, none⟩ = false ∧ Hid (DocI D (w4.setCell ⟨D, 2, none⟩ v') u P (F ++ [(nm, ⟨v.toArray⟩)]) ∧ Below D w2 (w4.setCell ⟨D, 2, none⟩ v'))) := by
  have hlt : D < w2.heap.size := (Array.getElem?_eq_some_iff.1 h1).1
  have k1 := (hb.block D hlt).trans h1
  have k2 := rowf_below h2 hb
  have k3 := h3.below hb
  have hr : w3.ownsRow (D + 1) 31 2 (.slice fa m fc) m (encL F) := by
    unfold FsR at k3
    rw [hm] at k3
    exact k3
  have hs3 : D + 1 ≤ w3.heap.size := Nat.lt_of_lt_of_le hlt hb.size
  refine ⟨hr, fun j x hj => ?_, fun x hx => ?_, by simp; omega, fun v' w4 hown hg => ?_⟩
  · obtain ⟨e0, e1, -, -⟩ := box2 (heap_alloc_new w3 (.cells #[.string nm, .string ⟨v.toArray⟩] 31))
    rw [Addr.add_lit, Nat.zero_add]
    match j, hj with
    | 0, hj => rw [e0]; simpa using hj
    | 1, hj => rw [e1]; simpa using hj
  · simp only [List.mem_cons, List.not_mem_nil, or_false] at hx
    rcases hx with rfl | rfl <;> rfl
  · have bn := bel_new w3 (.cells #[.string nm, .string ⟨v.toArray⟩] 31)
    have k1' := (bn.block D (by omega)).trans k1
    have hr4 : FsR (D + 1) w4 v' (F ++ [(nm, ⟨v.toArray⟩)]) := by
      show World.ownsRow _ _ _ _ _ _ _
      rw [encL_app, List.length_append, hm]
      exact hown
    obtain ⟨a1, a2, a3, a4⟩ := DocI.grown2 k1' (rowf_below k2 bn) (k3.below bn) hg hr4
    exact ⟨a3, a4, Lib.hid ⟨a1, (hb.mono (Nat.le_of_lt hlt)).trans ((bn.mono (by omega)).trans a2)⟩⟩
/-- What a method that reads on answers: an error, or what is left and the fields. -/
def ValR (D : Nat) (w : World) (o : Except Nat (List UInt8 × List FldV)) (P : List ByteArray) (e : Ending) (w' : World) : Prop := match o with
  | .error c => e = .returned (.int .i64 (c : Int)) ∧ ∃ r' F', DocO D w r' P F' w'
  | .ok q => e = .returned (.int .i64 0) ∧ DocO D w q.1 P q.2 w'
def scR (r : List UInt8) (P : List ByteArray) (F : List FldV) : Except Nat (List UInt8 × List FldV) := match scO r with
  | none => .error 1
  | some (v, u) => .ok (u, accJ F P v)
set_option maxRecDepth 100000 in
set_option maxHeartbeats 8000000 in
theorem value_sc (D : Nat) (w : World) (r : List UInt8) (P : List ByteArray) (F : List FldV) (h : DocI D w r P F) (hr : r.length ≤ 1000000) (ho : tkB [123] r = false) (hF : F.length ≤ 33) (hP1 : 1 ≤ P.length) (hP2 : P.length ≤ 20) (hsz : ∀ x ∈ P, x.size ≤ 10000) :
    Calls Tryd.prog 90 #[.pointer (some ⟨D, 0, none⟩)] w (ValR D w (scR (tkR [123] r) P F) P) := by
  have hk := take1_any D w r P F 123 h
  rw [ho] at hk
  have HK := Lib.hid hk
  obtain ⟨r1, hr1⟩ : ∃ x, tkR [123] r = x := ⟨_, rfl⟩
  have hl1 : r1.length ≤ 1000000 := by have := tkR_len [123] r; rw [hr1] at this; omega
  rw [hr1] at HK ⊢
  have hX := fun W (q : DocI D W r1 P F) => scalar_any D W r1 P F q hl1
  unfold scR
  obtain ⟨R, hR⟩ : ∃ R, scO r1 = R := ⟨_, rfl⟩
  rw [hR] at hX ⊢
  have HX := Lib.hid hX
  have HSZ := Lib.hid hsz
  clear hk h ho hr1 hr hX hR hsz
  obtain ⟨i0, hi0, hz0, hz1, hz2⟩ := info_parts infoFld
  obtain ⟨m, hm⟩ : ∃ m, F.length = m := ⟨_, rfl⟩
  obtain ⟨pn, hpn⟩ : ∃ pn, P.length = pn := ⟨_, rfl⟩
  have HM := Lib.hid hm
  have HPN := Lib.hid hpn
  rw [hm] at hF
  rw [hpn] at hP1 hP2
  clear hm hpn
  go_enter Tryd.func90, Tryd.ntmps90
  go_wp2_with fail
  refine (HK.out).mono ?_
  rintro e w1 ⟨rfl, h1⟩
  have H1 := Lib.hid h1
  clear h1
  go_wp2_with fail
  refine (HX.out _ H1.out.1).mono ?_
  cases R with
  | none =>
    rintro e w2 ⟨⟨a, rfl⟩, ⟨r', h2⟩, hb2⟩
    have H2 := Lib.hid (And.intro h2 (H1.out.2.trans hb2))
    clear hb2 h2
    go_wp2
    go_ret
    exact ⟨rfl, r', F, H2.out⟩
  | some q =>
    obtain ⟨v, u⟩ := q
    rintro e w2 ⟨rfl, h2, hb2⟩
    have H2 := Lib.hid (And.intro h2 (H1.out.2.trans hb2))
    obtain ⟨vp, vf, h21, h22, h23⟩ := id h2.ex
    obtain ⟨d0, d1, d2, g0, g1, g2⟩ := doc3 h21
    obtain ⟨fa, fc, rfl⟩ := rowf_slice h23
    rw [HM.out] at d2 h21 h23
    have HE := Lib.hid (And.intro h21 (And.intro h22 h23))
    clear h2 hb2 h21 h22 h23
    by_cases hm33 : m < 33
    · have hJ : ∀ W, Below w2.heap.size w2 W → Calls Tryd.prog 100 #[vp, .string ⟨#[46]⟩] W fun e w' => e = .returned (.string ⟨(jnB P).toArray⟩) ∧ Below W.heap.size W w' := fun W hW => by
        have hs : StI W vp P := (show StR (D + 1) w2 vp P from HE.out.2.1).shows.below hW
        by_cases h1 : P.length = 1
        · obtain ⟨x, hx⟩ := List.length_eq_one_iff.1 h1
          subst hx
          refine (join_one x vp W hs).mono fun e w' h => ⟨?_, h.2⟩
          rw [h.1]
          congr 2
          exact str_of _ _ (by simp [jnB])
        · refine join_many P vp W hs (by rw [HPN.out] at h1 ⊢; omega) (by rw [HPN.out]; omega) HSZ.out (fun a c e => ?_)
          rcases rowf_form HE.out.2.1 with ⟨e2, h0⟩ | ⟨g, cap, e2, -, -, h3, -⟩
          · have := HPN.out; omega
          · rw [e] at e2
            simp only [Value.slice.injEq] at e2
            omega
      have HJ := Lib.hid hJ
      clear hJ
      obtain ⟨pa, pc, hvp⟩ := rowf_slice HE.out.2.1
      rw [HPN.out] at hvp
      subst hvp
      have HB0 := Lib.hid (show Below w2.heap.size w2 w2.drew from (Below.refl _ _).drew)
      have HNM : ∃ nm : ByteArray, (⟨(jnB P).toArray⟩ : ByteArray) = nm := ⟨_, rfl⟩
      obtain ⟨nm, hnm⟩ := HNM
      rw [hnm] at HJ
      have HNM := Lib.hid hnm
      clear hnm
      go_wp2_with fail
      go_region_law (first
        | (refine step_append_own rfl (.tmp 26) (.tmp 34) 22 rfl (D + 1) 31 i0 (.agg #[.string ⟨#[]⟩, .string ⟨#[]⟩]) 2 32 Tryd.underlying22 hi0 hz0 hz1 hz2 rfl (by decide) (.slice fa m fc) m _ (by simp [Act.eval]) (HR3.out.1.alloc _) ⟨w3.heap.size, 0, none⟩ 1 1 [.string nm, .string ⟨v.toArray⟩] (by simp [Act.eval]) rfl HR3.out.2.1 HR3.out.2.2.1 (by unfold maxLen; omega) (by omega) HR3.out.2.2.2.1 ?_; intro v' w4 hown4 hg4 _; obtain ⟨p4, p4f, HW4⟩ := HR3.out.2.2.2.2 v' w4 hown4 hg4; obtain ⟨g4, cap4, rfl⟩ := rowf_slice hown4; clear hown4 hg4)
        | (go_simp; go_wp2_with (go_at_call 100; refine (HJ.out _ HB0.out).mono ?_; rintro e w3 ⟨rfl, hb3⟩; have HR3 := Lib.hid (valR3 D w2 w3 u P F m fa fc _ nm v HM.out HE.out.1 HE.out.2.1 HE.out.2.2 (HB0.out.trans hb3)); obtain ⟨q1, q2⟩ := valC3 D w2 w3 u _ _ HE.out.1 (HB0.out.trans hb3); clear hb3)))
      all_goals
        go_wp2
        go_ret
        refine ⟨rfl, ?_⟩
        unfold accJ
        rw [if_pos (by rw [HM.out]; exact hm33), HNM.out]
        exact ⟨HW4.out.1, H2.out.2.trans HW4.out.2⟩
    · go_wp2
      go_ret
      refine ⟨rfl, ?_⟩
      unfold accJ
      rw [if_neg (by rw [HM.out]; exact hm33)]
      exact H2.out
end Go.Proofs.YtdjkemodlbbmaaaDoor
