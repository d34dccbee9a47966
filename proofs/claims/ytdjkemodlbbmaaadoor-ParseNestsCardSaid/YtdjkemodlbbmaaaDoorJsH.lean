/- The contract of object, by what member answers. -/
import Derived.Test.YtdjkemodlbbmaaaDoorJsG
namespace Go.Proofs.YtdjkemodlbbmaaaDoor
open Go.RowKit

def obR (ME : List UInt8 → List FldV → Except Nat (List UInt8 × List FldV)) : Nat → List UInt8 → List FldV → Except Nat (List UInt8 × List FldV)
  | 0, _, _ => .error 1
  | f + 1, r, F => match ME r F with
    | .error c => .error c
    | .ok q => if tkB [125] q.1 then .ok (tkR [125] q.1, q.2) else if tkB [44] (tkR [125] q.1) then obR ME f (tkR [44] (tkR [125] q.1)) q.2 else .error 1
def objR (ME : List UInt8 → List FldV → Except Nat (List UInt8 × List FldV)) (pn : Nat) (r : List UInt8) (F : List FldV) : Except Nat (List UInt8 × List FldV) :=
  if 8 < pn then .error 5 else if tkB [125] r then .ok (tkR [125] r, F) else obR ME (r.length + 1) (tkR [125] r) F
def restLen (D : Nat) (w : World) : Nat := match w.cell? ⟨D, 0, none⟩ with
  | some (.string s) => s.size
  | _ => 0
theorem DocI.rest {D : Nat} {w : World} {r : List UInt8} {P : List ByteArray} {F : List FldV} (h : DocI D w r P F) : restLen D w = r.length := by
  obtain ⟨vp, vf, h1, -, -⟩ := h.ex
  unfold restLen
  rw [(doc3 h1).1]
  rfl
theorem ValR.err {D : Nat} {w a b : World} {r : List UInt8} {P : List ByteArray} {F : List FldV} {o : Except Nat (List UInt8 × List FldV)} {e : Ending} (h : DocO D w r P F a) (k : ValR D a o P e b) : ValR D w o P e b := by
  cases o with
  | error c => obtain ⟨he, r', F', k1⟩ := k; exact ⟨he, r', F', h.trans k1⟩
  | ok q => exact ⟨k.1, h.trans k.2⟩
structure ObI (D : Nat) (w : World) (P : List ByteArray) (ME : List UInt8 → List FldV → Except Nat (List UInt8 × List FldV)) (Inv : List UInt8 → List FldV → Prop) (R : Except Nat (List UInt8 × List FldV)) (wr : World) : Prop where
  ex : ∃ r F f, DocI D wr r P F ∧ Inv r F ∧ R = obR ME f r F ∧ r.length < f
  hb : Below D w wr
set_option maxRecDepth 100000 in
set_option maxHeartbeats 8000000 in
theorem object_deep (D : Nat) (w : World) (r : List UInt8) (P : List ByteArray) (F : List FldV) (h : DocI D w r P F) (hPl : 8 < P.length) :
    Calls Tryd.prog 51 #[.pointer (some ⟨D, 0, none⟩)] w (ValR D w (.error 5) P) := by
  obtain ⟨vp, vf, h1, h2, -⟩ := id h.ex
  obtain ⟨d0, d1, d2, g0, g1, g2⟩ := doc3 h1
  obtain ⟨pa, pc, rfl⟩ := rowf_slice h2
  obtain ⟨pn, hpn⟩ : ∃ pn, P.length = pn := ⟨_, rfl⟩
  rw [hpn] at d1 hPl
  have H := Lib.hid h
  clear h1 h2 h hpn
  go_enter Tryd.func51, Tryd.ntmps51
  go_wp2
  go_ret
  exact ⟨rfl, r, F, H.out, Below.refl _ _⟩
set_option maxRecDepth 100000 in
set_option maxHeartbeats 8000000 in
theorem object_any (D : Nat) (w : World) (r : List UInt8) (P : List ByteArray) (F : List FldV) (ME : List UInt8 → List FldV → Except Nat (List UInt8 × List FldV)) (Inv : List UInt8 → List FldV → Prop) (h : DocI D w r P F) (hPl : ¬ 8 < P.length)
    (hM : ∀ W r F, Inv r F → DocI D W r P F → Calls Tryd.prog 77 #[.pointer (some ⟨D, 0, none⟩)] W (ValR D W (ME r F) P))
    (h0 : tkB [125] r = false → Inv (tkR [125] r) F)
    (hI : ∀ r F q, Inv r F → ME r F = .ok q → tkB [125] q.1 = false → tkB [44] (tkR [125] q.1) = true → Inv (tkR [44] (tkR [125] q.1)) q.2 ∧ (tkR [44] (tkR [125] q.1)).length < r.length)
    (hc : ∀ r F c, Inv r F → ME r F = .error c → c ≠ 0) :
    Calls Tryd.prog 51 #[.pointer (some ⟨D, 0, none⟩)] w (ValR D w (objR ME P.length r F) P) := by
  have hk := take1_any D w r P F 125 h
  obtain ⟨vp, vf, h1, h2, -⟩ := id h.ex
  obtain ⟨d0, d1, d2, g0, g1, g2⟩ := doc3 h1
  obtain ⟨pa, pc, rfl⟩ := rowf_slice h2
  unfold objR
  rw [if_neg hPl]
  obtain ⟨pn, hpn⟩ : ∃ pn, P.length = pn := ⟨_, rfl⟩
  rw [hpn] at d1 hPl
  have HTL := tkR_len [125] r
  cases hb : tkB [125] r with
  | true =>
    rw [hb] at hk
    rw [if_pos rfl]
    have HK := Lib.hid hk
    clear h1 h2 h hpn hk hb hM h0 hI hc HTL
    go_enter Tryd.func51, Tryd.ntmps51
    go_wp2_with fail
    refine (HK.out).mono ?_
    rintro e w1 ⟨rfl, h1⟩
    have H1 := Lib.hid h1
    clear h1 d0 d1 d2 g0 g1 g2
    go_wp2
    go_ret
    exact ⟨rfl, H1.out⟩
  | false =>
    rw [hb] at hk
    rw [if_neg (by simp)]
    have HK := Lib.hid hk
    have HI0 := Lib.hid (h0 hb)
    have HM := Lib.hid hM
    have HII := Lib.hid hI
    have HCC := Lib.hid hc
    obtain ⟨R, hR⟩ : ∃ R, obR ME (r.length + 1) (tkR [125] r) F = R := ⟨_, rfl⟩
    have HR := Lib.hid hR
    rw [hR]
    clear h1 h2 h hpn hk hb hM h0 hI hc hR
    go_enter Tryd.func51, Tryd.ntmps51
    go_wp2_with fail
    refine (HK.out).mono ?_
    rintro e w1 ⟨rfl, h1, hb1⟩
    have H1 := Lib.hid (And.intro h1 hb1)
    clear h1 hb1 d0 d1 d2 g0 g1 g2
    go_wp2
    go_loopw [3] (fun _ wr => ObI D w P ME Inv R wr) (fun _ wr => restLen D wr)
    case atStart => exact ⟨⟨_, F, _, H1.out.1, HI0.out, HR.out.symm, by omega⟩, H1.out.2⟩
    case round =>
      obtain ⟨⟨r2, F2, f, hd, hin, hRe, hlf⟩, hbel⟩ := hrel
      obtain ⟨f, rfl⟩ : ∃ f', f = f' + 1 := ⟨f - 1, by omega⟩
      have hmem := HM.out _ r2 F2 hin hd
      have hrest := hd.rest
      have HQ := Lib.hid (And.intro hd (And.intro hin (And.intro hbel hrest)))
      rw [obR] at hRe
      cases hme : ME r2 F2 with
      | error c =>
        rw [hme] at hmem hRe
        have hc0 := HCC.out r2 F2 c hin hme
        have HMM := Lib.hid hmem
        have HRE := Lib.hid (show R = .error c from hRe)
        have hcz : ((c : Int) != 0) = true := by simp; omega
        clear hd hin hbel hmem hRe hme hrest hc0
        go_wp2_with fail
        refine (HMM.out).mono ?_
        rintro e w2 ⟨rfl, r', F', h2, hb2⟩
        have H2 := Lib.hid (And.intro h2 (HQ.out.2.2.1.trans hb2))
        clear h2 hb2
        go_wp2
        go_ret
        rw [HRE.out]
        exact ⟨rfl, r', F', H2.out⟩
      | ok q =>
        obtain ⟨u, F3⟩ := q
        rw [hme] at hmem hRe
        have hinv := HII.out r2 F2 _ hin hme
        have HMM := Lib.hid hmem
        have HT := Lib.hid (fun W (q : DocI D W u P F3) => take1_any D W u P F3 125 q)
        simp only [] at hinv hRe
        cases hb1 : tkB [125] u with
        | true =>
          rw [hb1, if_pos rfl] at hRe
          rw [hb1] at HT
          have HRE := Lib.hid hRe
          clear hd hin hbel hmem hRe hme hinv hb1 hrest
          go_wp2_with fail
          refine (HMM.out).mono ?_
          rintro e w2 ⟨rfl, h2, hb2⟩
          have H2 := Lib.hid (And.intro h2 (HQ.out.2.2.1.trans hb2))
          clear h2 hb2
          go_wp2_with fail
          refine (HT.out _ H2.out.1).mono ?_
          rintro e w3 ⟨rfl, h3, hb3⟩
          have H3 := Lib.hid (And.intro h3 (H2.out.2.trans hb3))
          clear h3 hb3
          go_wp2
          go_ret
          rw [HRE.out]
          exact ⟨rfl, H3.out⟩
        | false =>
          rw [hb1, if_neg (by simp)] at hRe
          rw [hb1] at HT
          have hinv := hinv hb1
          have HT2 := Lib.hid (fun W (q : DocI D W (tkR [125] u) P F3) => take1_any D W (tkR [125] u) P F3 44 q)
          cases hb2 : tkB [44] (tkR [125] u) with
          | false =>
            rw [hb2, if_neg (by simp)] at hRe
            rw [hb2] at HT2
            have HRE := Lib.hid hRe
            clear hd hin hbel hmem hRe hme hinv hb1 hb2 hrest
            go_wp2_with fail
            refine (HMM.out).mono ?_
            rintro e w2 ⟨rfl, h2, hb2⟩
            have H2 := Lib.hid (And.intro h2 (HQ.out.2.2.1.trans hb2))
            clear h2 hb2
            go_wp2_with fail
            refine (HT.out _ H2.out.1).mono ?_
            rintro e w3 ⟨rfl, h3, hb3⟩
            have H3 := Lib.hid (And.intro h3 (H2.out.2.trans hb3))
            clear h3 hb3
            go_wp2_with fail
            refine (HT2.out _ H3.out.1).mono ?_
            rintro e w4 ⟨rfl, h4, hb4⟩
            have H4 := Lib.hid (And.intro h4 (H3.out.2.trans hb4))
            clear h4 hb4
            go_wp2
            go_ret
            rw [HRE.out]
            exact ⟨rfl, _, F3, H4.out⟩
          | true =>
            rw [hb2, if_pos rfl] at hRe
            rw [hb2] at HT2
            have HNV := Lib.hid (hinv hb2)
            have HRE := Lib.hid hRe
            clear hd hin hbel hmem hRe hme hinv hb1 hb2 hrest
            go_wp2_with fail
            refine (HMM.out).mono ?_
            rintro e w2 ⟨rfl, h2, hb2⟩
            have H2 := Lib.hid (And.intro h2 (HQ.out.2.2.1.trans hb2))
            clear h2 hb2
            go_wp2_with fail
            refine (HT.out _ H2.out.1).mono ?_
            rintro e w3 ⟨rfl, h3, hb3⟩
            have H3 := Lib.hid (And.intro h3 (H2.out.2.trans hb3))
            clear h3 hb3
            go_wp2_with fail
            refine (HT2.out _ H3.out.1).mono ?_
            rintro e w4 ⟨rfl, h4, hb4⟩
            have H4 := Lib.hid (And.intro h4 (H3.out.2.trans hb4))
            clear h4 hb4
            go_wp2
            go_roundw
            case rel => exact ⟨⟨_, F3, f, H4.out.1, HNV.out.1, HRE.out, by have := HNV.out.2; omega⟩, H4.out.2⟩
            case measure => rw [H4.out.1.rest, HQ.out.2.2.2]; exact HNV.out.2
end Go.Proofs.YtdjkemodlbbmaaaDoor
