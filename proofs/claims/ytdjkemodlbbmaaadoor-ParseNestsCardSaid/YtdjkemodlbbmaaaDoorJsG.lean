/- The contract of member. -/
import Derived.Test.YtdjkemodlbbmaaaDoorJsF
import Derived.Test.YtdjkemodlbbmaaaDoorKvX
namespace Go.Proofs.YtdjkemodlbbmaaaDoor
open Go.RowKit

theorem DocI.grown1 {D : Nat} {w w3 : World} {r : List UInt8} {P P' : List ByteArray} {vp vf vp' : Value} {F : List FldV}
    (h1 : w.heap[D]? = some (.cells #[.string ⟨r.toArray⟩, vp, vf] 62 (0, 0))) (h2 : w.ownsRow (D + 1) 9 1 vp P.length (encT P)) (h3 : FsR (D + 1) w vf F) (hg : w.grownBy w3 vp.ownBlock) (hr : w3.ownsRow (D + 1) 9 1 vp' P'.length (encT P')) :
    DocI D (w3.setCell ⟨D, 1, none⟩ vp') r P' F ∧ Below D w (w3.setCell ⟨D, 1, none⟩ vp') ∧ w3.cell? ⟨D, 1, none⟩ = some vp ∧ w3.frozen? ⟨D, 1, none⟩ = false := by
  have hlt : D < w.heap.size := (Array.getElem?_eq_some_iff.1 h1).1
  have hne : ∀ g, vp.ownBlock = some g → D + 1 ≤ g := fun g hg => (World.ownsRow.lt h2 g hg).1
  have h1' : w3.heap[D]? = some (.cells #[.string ⟨r.toArray⟩, vp, vf] 62 (0, 0)) := (World.grownBy.block hg D hlt (fun e => by have := hne D e.symm; omega)).trans h1
  have hdis : vf.ownBlock = none ∨ vf.ownBlock ≠ vp.ownBlock := by
    cases hv : vf.ownBlock with
    | none => exact .inl rfl
    | some g =>
      refine .inr (fun e => ?_)
      obtain ⟨c1, z1, e1⟩ := Lib.ownsRow_kind h3 g hv
      obtain ⟨c2, z2, e2⟩ := Lib.ownsRow_kind h2 g e.symm
      rw [e1] at e2
      have := Option.some.inj e2
      injection this with _ a _
      exact absurd a (by decide)
  have h3' : FsR (D + 1) w3 vf F := World.ownsRow.kept h3 hg hdis
  refine ⟨⟨vp', vf, ?_, row_other hr (by omega) _, row_other h3' (by omega) _⟩, ?_, ?_, Lib.frozen_of_heap h1' 1⟩
  · simp [World.setCell, Array.getElem?_modify, h1']
  · exact ((Below.refl D w).grown hg (Nat.le_of_lt hlt) (fun g e => by have := hne g e; omega)).setCell (p := ⟨D, 1, none⟩) (Nat.le_refl _) _
  · rw [Lib.cell_of_heap h1']; rfl
theorem DocI.pop {D : Nat} {w : World} {r : List UInt8} {P : List ByteArray} {x : ByteArray} {F : List FldV} (h : DocI D w r (P ++ [x]) F) :
    ∃ g c vf, w.heap[D]? = some (.cells #[.string ⟨r.toArray⟩, .slice (some ⟨g, 0, none⟩) (P.length + 1) c, vf] 62 (0, 0)) ∧ P.length + 1 ≤ c ∧
      DocI D (w.setCell ⟨D, 1, none⟩ (.slice (some ⟨g, 0, none⟩) P.length c)) r P F ∧ Below D w (w.setCell ⟨D, 1, none⟩ (.slice (some ⟨g, 0, none⟩) P.length c)) := by
  obtain ⟨vp, vf, h1, h2, h3⟩ := h.ex
  rw [List.length_append] at h2
  rcases rowf_form h2 with ⟨-, h0⟩ | ⟨g, cap, rfl, -, -, hc, -⟩
  · simp at h0
  · have h2' : w.ownsRow (D + 1) 9 1 (.slice (some ⟨g, 0, none⟩) (P.length + 1) cap) (P.length + 1) (encT P ++ [.string x]) := by
      have : encT (P ++ [x]) = encT P ++ [.string x] := by simp [encT]
      rw [this] at h2
      exact h2
    have h4 := ownsRow_pop (n := P.length) (size := 1) (by simp [encT]) h2'
    refine ⟨g, cap, vf, h1, hc, ⟨⟨_, vf, ?_, row_other h4 (by omega) _, row_other h3 (by omega) _⟩⟩, (Below.refl D w).setCell (p := ⟨D, 1, none⟩) (Nat.le_refl _) _⟩
    simp [World.setCell, Array.getElem?_modify, h1]
theorem run_uptoT (a : Option Addr) (n c k : Nat) (h1 : k ≤ n) (h2 : n ≤ c) (W : World) :
    (Instr.slice 37 (.slice a n c) none (some (.int .i64 (k : Int))) none).run Tryd.prog W = .ok (.slice a k c) W := by
  have u := run_underlying Tryd.underlying37
  simp [go_sem, Instr.slice, u]
  exact fun h => absurd h (by omega)
/-- What member answers, by what value answers. -/
def meR (r : List UInt8) (V : List UInt8 → List UInt8 → Except Nat (List UInt8 × List FldV)) : Except Nat (List UInt8 × List FldV) := match txO r with
  | none => .error 1
  | some (nm, r1) => if tkB [58] r1 then V nm (tkR [58] r1) else .error 1
theorem DocO.drew {D : Nat} {w w' : World} {r : List UInt8} {P : List ByteArray} {F : List FldV} (h : DocI D w' r P F ∧ Below D w w') : DocO D w r P F w'.drew := ⟨h.1.below ⟨rfl, rfl, rfl, Nat.le_refl _, fun _ _ => rfl⟩, h.2.drew⟩
theorem ValR.ret {D : Nat} {w : World} {o : Except Nat (List UInt8 × List FldV)} {P : List ByteArray} {e : Ending} {w' : World} (h : ValR D w o P e w') : ∃ c : Nat, e = .returned (.int .i64 (c : Int)) := by
  cases o with
  | error c => exact ⟨c, h.1⟩
  | ok q => exact ⟨0, h.1⟩
set_option maxRecDepth 100000 in
set_option maxHeartbeats 8000000 in
theorem member_any (D : Nat) (w : World) (r : List UInt8) (P : List ByteArray) (F : List FldV) (V : List UInt8 → List UInt8 → Except Nat (List UInt8 × List FldV)) (h : DocI D w r P F) (hr : r.length ≤ 1000000) (hPl : P.length ≤ 20)
    (hV : ∀ nm r1, txO r = some (nm, r1) → ∀ W, DocI D W (tkR [58] r1) (P ++ [⟨nm.toArray⟩]) F → Calls Tryd.prog 90 #[.pointer (some ⟨D, 0, none⟩)] W (ValR D W (V nm (tkR [58] r1)) (P ++ [⟨nm.toArray⟩]))) :
    Calls Tryd.prog 77 #[.pointer (some ⟨D, 0, none⟩)] w (ValR D w (meR r V) P) := by
  have hX := text_any D w r P F h hr
  obtain ⟨i0, hi0, hz0, hz1, hz2⟩ := info_parts infoStr
  unfold meR
  cases ht : txO r with
  | none =>
    rw [ht] at hX
    have HX := Lib.hid hX
    clear hX ht hV h
    go_enter Tryd.func77, Tryd.ntmps77
    go_wp2_with fail
    refine (HX.out).mono ?_
    rintro e w1 ⟨⟨a, rfl⟩, ⟨r', h1⟩, hb1⟩
    have H1 := Lib.hid (show DocO D w r' P F w1 from ⟨h1, hb1⟩)
    clear h1 hb1
    go_wp2
    go_ret
    exact ⟨rfl, r', F, H1.out⟩
  | some q =>
    obtain ⟨nm, r1⟩ := q
    rw [ht] at hX
    have hV1 := hV nm r1 ht
    have HX := Lib.hid hX
    have HT := Lib.hid (fun W (q : DocI D W r1 P F) => take1_any D W r1 P F 58 q)
    clear hX ht hV h
    simp only []
    cases hb : tkB [58] r1 with
    | false =>
      rw [hb] at HT
      rw [if_neg (by simp)]
      clear hb hV1
      go_enter Tryd.func77, Tryd.ntmps77
      go_wp2_with fail
      refine (HX.out).mono ?_
      rintro e w1 ⟨rfl, h1⟩
      have H1 := Lib.hid h1
      clear h1
      go_wp2_with fail
      refine (HT.out _ H1.out.1).mono ?_
      rintro e w2 ⟨rfl, h2⟩
      have H2 := Lib.hid (H1.out.trans h2)
      clear h2
      go_wp2
      go_ret
      exact ⟨rfl, _, F, H2.out⟩
    | true =>
      rw [hb] at HT
      rw [if_pos rfl]
      obtain ⟨r2, hr2⟩ : ∃ x, tkR [58] r1 = x := ⟨_, rfl⟩
      rw [hr2] at hV1 HT ⊢
      have HV := Lib.hid hV1
      obtain ⟨R, hR⟩ : ∃ R, V nm r2 = R := ⟨_, rfl⟩
      rw [hR] at HV ⊢
      obtain ⟨pn, hpn⟩ : ∃ pn, P.length = pn := ⟨_, rfl⟩
      have HPN := Lib.hid hpn
      rw [hpn] at hPl
      obtain ⟨nb, hnb⟩ : ∃ nb : ByteArray, (⟨nm.toArray⟩ : ByteArray) = nb := ⟨_, rfl⟩
      rw [hnb] at HV
      have HX2 := Lib.hid (show Calls Tryd.prog 89 #[.pointer (some ⟨D, 0, none⟩)] w fun e w' => e = .returned (.tuple #[.string nb, .bool true]) ∧ DocO D w r1 P F w' from HX.out.mono fun e w' h => ⟨by rw [← hnb]; exact h.1, h.2⟩)
      clear hb hV1 hr2 hR hpn hnb HX
      go_enter Tryd.func77, Tryd.ntmps77
      go_wp2_with fail
      refine (HX2.out).mono ?_
      rintro e w1 ⟨rfl, h1⟩
      have H1 := Lib.hid h1
      clear h1
      go_wp2_with fail
      refine (HT.out _ H1.out.1).mono ?_
      rintro e w2 ⟨rfl, h2⟩
      obtain ⟨vp, vf, h21, h22, h23⟩ := id h2.1.ex
      obtain ⟨d0, d1, d2, g0, g1, g2⟩ := doc3 h21
      obtain ⟨pa, pc, rfl⟩ := rowf_slice h22
      rw [HPN.out] at d1 h21 h22
      have hlt2 := h2.1.lt
      have H2 := Lib.hid (H1.out.trans h2)
      have HE := Lib.hid (And.intro h21 (And.intro h22 h23))
      clear h2 h21 h22 h23
      go_wp2_with (at_builtin; refine wpList_append_own _ rfl _ _ 37 rfl (D + 1) 9 i0 (.string ⟨#[]⟩) 1 16 Tryd.underlying37 hi0 hz0 hz1 hz2 rfl (by decide) _ _ _ rfl (HE.out.2.1.alloc _) ⟨w2.heap.size, 0, none⟩ 1 1 [.string nb] rfl rfl ?c1 ?c2 ?c3 ?c4 ?c5 ?_)
      case c1 =>
        intro j q hj
        match j, hj with
        | 0, hj => simp at hj; subst hj; simp [Addr.add]
      case c2 => intro q hq; simp at hq; subst hq; rfl
      case c3 => unfold maxLen; omega
      case c4 => omega
      case c5 => simp; omega
      intro v' w3 hown' hgrow _
      obtain ⟨va', vc', rfl⟩ := rowf_slice hown'
      have bn := bel_new w2 (.cells #[.string nb] 9)
      have hg1 := DocI.grown1 (P' := P ++ [nb]) (vp' := .slice va' (pn + 1) vc') ((bn.block D hlt2).trans HE.out.1) (by rw [HPN.out]; exact rowf_below HE.out.2.1 bn) (HE.out.2.2.below bn) hgrow (by
        rw [List.length_append, HPN.out, show encT (P ++ [nb]) = encT P ++ [.string nb] by simp [encT]]
        exact hown')
      obtain ⟨k1, k2, k3, k4⟩ := hg1
      have H3 := Lib.hid (And.intro k1 ((H2.out.2.trans (bn.mono (Nat.le_of_lt hlt2))).trans k2))
      clear hown' hgrow k1 k2 bn d0 d1 d2 g0 g1 g2
      go_wp2_with fail
      refine (HV.out _ H3.out.1).mono ?_
      intro e w5 h5
      cases R with
      | error c =>
        obtain ⟨rfl, r', F', h5, hb5⟩ := h5
        obtain ⟨g, cc, vf5, h51, hcc, hpop⟩ := h5.pop
        obtain ⟨d0, d1, d2, g0, g1, g2⟩ := doc3 h51
        have hup := run_uptoT (some ⟨g, 0, none⟩) (P.length + 1) cc pn (by rw [HPN.out]; omega) hcc
        rw [HPN.out] at d1 hup hpop
        have HPOP := Lib.hid (And.intro hpop.1 ((H3.out.2.trans hb5).trans hpop.2))
        have hw1 : IntKind.i64.wrap ((pn : Int) + 1 - 1) = (pn : Int) := by rw [show (pn : Int) + 1 - 1 = (pn : Int) by omega]; exact IntWalk.i64_in _ (by omega)
        have hw2 : IntKind.i64.wrap (pn : Int) = (pn : Int) := IntWalk.i64_in _ (by omega)
        have hw3 : pn ≤ cc := by have := HPN.out; omega
        have hw4 : (pn : Int) ≤ (cc : Int) := by omega
        have hw5 : (0 : Int) ≤ (pn : Int) := by omega
        clear h5 hb5 h51 hpop k3 k4
        go_wp2_with fail
        go_region_with (fail)
        all_goals
          go_wp2
          go_ret
          first | exact ⟨rfl, r', F', DocO.drew HPOP.out⟩ | exact ⟨rfl, r', F', HPOP.out⟩
      | ok q =>
        obtain ⟨rfl, h5, hb5⟩ := h5
        obtain ⟨g, cc, vf5, h51, hcc, hpop⟩ := h5.pop
        obtain ⟨d0, d1, d2, g0, g1, g2⟩ := doc3 h51
        have hup := run_uptoT (some ⟨g, 0, none⟩) (P.length + 1) cc pn (by rw [HPN.out]; omega) hcc
        rw [HPN.out] at d1 hup hpop
        have HPOP := Lib.hid (And.intro hpop.1 ((H3.out.2.trans hb5).trans hpop.2))
        have hw1 : IntKind.i64.wrap ((pn : Int) + 1 - 1) = (pn : Int) := by rw [show (pn : Int) + 1 - 1 = (pn : Int) by omega]; exact IntWalk.i64_in _ (by omega)
        have hw2 : IntKind.i64.wrap (pn : Int) = (pn : Int) := IntWalk.i64_in _ (by omega)
        have hw3 : pn ≤ cc := by have := HPN.out; omega
        have hw4 : (pn : Int) ≤ (cc : Int) := by omega
        have hw5 : (0 : Int) ≤ (pn : Int) := by omega
        clear h5 hb5 h51 hpop k3 k4
        go_wp2_with fail
        go_region_with (fail)
        all_goals
          go_wp2
          go_ret
          first | exact ⟨rfl, DocO.drew HPOP.out⟩ | exact ⟨rfl, HPOP.out⟩
end Go.Proofs.YtdjkemodlbbmaaaDoor
