/- The contracts of text, integer and scalar. -/
import Derived.Test.YtdjkemodlbbmaaaDoorJsB
namespace Go.Proofs.YtdjkemodlbbmaaaDoor
open Go.RowKit

theorem u8ne {c : UInt8} {k : Nat} (hk : k < 256) (h : c ≠ UInt8.ofNat k) : ((c.toNat : Int) == (k : Int)) = false := by
  rw [beq_eq_false_iff_ne]
  intro q
  refine h (UInt8.toNat_inj.1 ?_)
  rw [UInt8.toNat_ofNat', Nat.mod_eq_of_lt hk]
  omega
theorem escJ_is : EscIs 98 escJ := fun c w => by
  by_cases h1 : c = 34
  · subst h1
    go_enter Tryd.func98, Tryd.ntmps98
    go_wp2
    go_ret2
    exact ⟨⟨34, rfl, fun y hy => by simp [escJ] at hy; exact hy.symm⟩, rfl⟩
  · by_cases h2 : c = 92
    · subst h2
      go_enter Tryd.func98, Tryd.ntmps98
      go_wp2
      go_ret2
      exact ⟨⟨92, rfl, fun y hy => by simp [escJ] at hy; exact hy.symm⟩, rfl⟩
    · by_cases h3 : c = 47
      · subst h3
        go_enter Tryd.func98, Tryd.ntmps98
        go_wp2
        go_ret2
        exact ⟨⟨47, rfl, fun y hy => by simp [escJ] at hy; exact hy.symm⟩, rfl⟩
      · by_cases h4 : c = 110
        · subst h4
          go_enter Tryd.func98, Tryd.ntmps98
          go_wp2
          go_ret2
          exact ⟨⟨10, rfl, fun y hy => by simp [escJ] at hy; exact hy.symm⟩, rfl⟩
        · by_cases h5 : c = 116
          · subst h5
            go_enter Tryd.func98, Tryd.ntmps98
            go_wp2
            go_ret2
            exact ⟨⟨9, rfl, fun y hy => by simp [escJ] at hy; exact hy.symm⟩, rfl⟩
          · by_cases h6 : c = 114
            · subst h6
              go_enter Tryd.func98, Tryd.ntmps98
              go_wp2
              go_ret2
              exact ⟨⟨13, rfl, fun y hy => by simp [escJ] at hy; exact hy.symm⟩, rfl⟩
            · have e : escJ c = none := by
                unfold escJ
                rw [if_neg (by rintro (h | h | h); exact h1 h; exact h2 h; exact h3 h), if_neg h4, if_neg h5, if_neg h6]
              have t1 : ((c.toNat : Int) == 34) = false := u8ne (by decide) h1
              have t2 : ((c.toNat : Int) == 92) = false := u8ne (by decide) h2
              have t3 : ((c.toNat : Int) == 47) = false := u8ne (by decide) h3
              have t4 : ((c.toNat : Int) == 110) = false := u8ne (by decide) h4
              have t5 : ((c.toNat : Int) == 116) = false := u8ne (by decide) h5
              have t6 : ((c.toNat : Int) == 114) = false := u8ne (by decide) h6
              have H := Lib.hid e
              clear e h1 h2 h3 h4 h5 h6
              go_enter Tryd.func98, Tryd.ntmps98
              go_wp2
              go_ret2
              exact ⟨⟨0, by rw [H.out]; rfl, fun y hy => by rw [H.out] at hy; cases hy⟩, rfl⟩
theorem eg_unesc : ∀ args w, (callFunc 98 args).run Tryd.prog w = .ok (.enter 98 args) w := enters_of Tryd.func98 (by kernel_rfl) rfl
/-- What reading a value hands back and leaves. -/
def ReadO (D : Nat) (w : World) (o : Option (List UInt8 × List UInt8)) (P : List ByteArray) (F : List FldV) (e : Ending) (w' : World) : Prop := match o with
  | none => (∃ a : ByteArray, e = .returned (.tuple #[.string a, .bool false])) ∧ (∃ r', DocI D w' r' P F) ∧ Below D w w'
  | some (t, u) => e = .returned (.tuple #[.string ⟨t.toArray⟩, .bool true]) ∧ DocO D w u P F w'
set_option maxRecDepth 100000 in
set_option maxHeartbeats 4000000 in
theorem text_any (D : Nat) (w : World) (r : List UInt8) (P : List ByteArray) (F : List FldV) (h : DocI D w r P F) (hr : r.length ≤ 1000000) :
    Calls Tryd.prog 89 #[.pointer (some ⟨D, 0, none⟩)] w (ReadO D w (txO r) P F) := by
  have HS := Lib.hid (skip_any D w r P F h)
  have hP : ∀ W, Calls Tryd.prog 40 #[.string ⟨(skL r).toArray⟩, .string ⟨#[34]⟩] W fun e w' => e = .returned (.bool (q34 (skL r))) ∧ W = w' := fun W => by
    have := Tryd.strings_HasPrefix ⟨(skL r).toArray⟩ ⟨#[34]⟩ W
    rw [show (⟨(skL r).toArray⟩ : ByteArray).data.toList = skL r from rfl, show (⟨#[34]⟩ : ByteArray).data.toList = [34] from rfl, pre34] at this
    exact this.mono fun _ _ h => ⟨h.1, h.2.symm⟩
  have hsl := skL_len r
  obtain ⟨R, hR⟩ : ∃ R, txO r = R := ⟨_, rfl⟩
  rw [hR]
  unfold txO at hR
  cases hq : q34 (skL r) with
  | false =>
    rw [hq] at hP hR
    have HP := Lib.hid hP
    have HR := Lib.hid (show R = none from hR.symm)
    clear h hP hR hq
    go_enter Tryd.func89, Tryd.ntmps89
    go_wp2_with fail
    refine (HS.out).mono ?_
    rintro e w1 ⟨rfl, h1, hb1⟩
    obtain ⟨vp1, vf1, h11, -, -⟩ := id h1.ex
    obtain ⟨d0, d1, d2, g0, g1, g2⟩ := doc3 h11
    have H1 := Lib.hid (And.intro h1 hb1)
    clear h1 h11 hb1
    go_wp2_with fail
    refine (HP.out _).mono ?_
    rintro e w2 ⟨rfl, rfl⟩
    go_wp2
    go_ret2
    rw [HR.out]
    exact ⟨⟨_, rfl⟩, ⟨_, H1.out.1⟩, H1.out.2⟩
  | true =>
    have hq1 := (valR_q hq).2
    rw [hq, if_pos rfl] at hR
    rw [hq] at hP
    have hQ : ∀ W, Calls Tryd.prog 74 #[.string ⟨(skL r).toArray⟩, .int .u8 32, .func (.func 98) #[] #[]] W fun e w' => e = .returned (qR R) ∧ Below W.heap.size W w' := fun W => by
      have := quoted_any ⟨(skL r).toArray⟩ 32 _ escJ W hq1 (by show (skL r).length ≤ _; omega) escJ_is eg_unesc (by decide)
      rw [show (⟨(skL r).toArray⟩ : ByteArray).data.toList = skL r from rfl, hR] at this
      exact this
    have HP := Lib.hid hP
    have HQ := Lib.hid hQ
    clear h hP hR hq hQ hq1
    go_enter Tryd.func89, Tryd.ntmps89
    go_wp2_with fail
    refine (HS.out).mono ?_
    rintro e w1 ⟨rfl, h1, hb1⟩
    obtain ⟨vp1, vf1, h11, -, -⟩ := id h1.ex
    obtain ⟨d0, d1, d2, g0, g1, g2⟩ := doc3 h11
    have H1 := Lib.hid (And.intro h1 hb1)
    clear h1 h11 hb1
    go_wp2_with fail
    refine (HP.out _).mono ?_
    rintro e w2 ⟨rfl, rfl⟩
    go_wp2_with fail
    refine (HQ.out _).mono ?_
    clear d0 d1 d2 g0 g1 g2
    cases R with
    | none =>
      unfold qR
      rintro e w3 ⟨rfl, hb3⟩
      have h3 := H1.out.1.below hb3
      obtain ⟨vp1, vf1, h11, -, -⟩ := id h3.ex
      obtain ⟨d0, d1, d2, g0, g1, g2⟩ := doc3 h11
      have HR := Lib.hid (And.intro (h3.setRest [] ⟨#[]⟩ rfl) (H1.out.2.trans (hb3.mono (Nat.le_of_lt H1.out.1.lt))))
      clear h3 h11 hb3
      go_wp2
      go_ret2
      exact ⟨⟨_, rfl⟩, ⟨_, HR.out.1.1⟩, HR.out.2.trans HR.out.1.2⟩
    | some p =>
      obtain ⟨t, u⟩ := p
      unfold qR
      rintro e w3 ⟨rfl, hb3⟩
      have h3 := H1.out.1.below hb3
      obtain ⟨vp1, vf1, h11, -, -⟩ := id h3.ex
      obtain ⟨d0, d1, d2, g0, g1, g2⟩ := doc3 h11
      have HR := Lib.hid (And.intro (h3.setRest u ⟨u.toArray⟩ rfl) (H1.out.2.trans (hb3.mono (Nat.le_of_lt H1.out.1.lt))))
      clear h3 h11 hb3
      go_wp2
      go_ret2
      exact ⟨rfl, HR.out.1.1, HR.out.2.trans HR.out.1.2⟩
theorem ts_suf (r u : List UInt8) (h : u <:+ r) : Lib.trimSuffix r u = r.take (r.length - u.length) := by
  unfold Lib.trimSuffix Lib.hasSuffix
  rw [if_pos (List.isSuffixOf_iff_suffix.2 h)]
set_option maxRecDepth 100000 in
set_option maxHeartbeats 4000000 in
theorem integer_any (D : Nat) (w : World) (r : List UInt8) (P : List ByteArray) (F : List FldV) (h : DocI D w r P F) (hr : r.length ≤ 1000000) :
    Calls Tryd.prog 102 #[.pointer (some ⟨D, 0, none⟩)] w (ReadO D w (inO r) P F) := by
  have hlt := h.lt
  obtain ⟨dg, hdg⟩ : ∃ dg, inD r = dg := ⟨_, rfl⟩
  obtain ⟨af, haf⟩ : ∃ af, inA r = af := ⟨_, rfl⟩
  have hsuf := inA_suf r
  have hR : inO r = if af.length < dg.length then some (r.take (r.length - af.length), af) else none := by unfold inO; rw [haf, hdg]
  have hH : ∀ W, Calls Tryd.prog 40 #[.string ⟨dg.toArray⟩, .string ⟨#[48]⟩] W fun e w' => e = .returned (.bool (Lib.hasPrefix dg [48])) ∧ W = w' := fun W => (Tryd.strings_HasPrefix ⟨dg.toArray⟩ ⟨#[48]⟩ W).mono fun _ _ h => ⟨h.1, h.2.symm⟩
  have hTP : ∀ W, Calls Tryd.prog 104 #[.string ⟨r.toArray⟩, .string ⟨#[45]⟩] W fun e w' => e = .returned (.string ⟨dg.toArray⟩) ∧ W = w' := fun W => (Tryd.strings_TrimPrefix ⟨r.toArray⟩ ⟨#[45]⟩ W).mono fun _ _ h => ⟨by rw [h.1, ← hdg]; rfl, h.2.symm⟩
  have hTL : ∀ W, Calls Tryd.prog 30 #[.string ⟨dg.toArray⟩, .string ⟨#[48, 49, 50, 51, 52, 53, 54, 55, 56, 57]⟩] W fun e w' => e = .returned (.string ⟨(dgL dg).toArray⟩) ∧ Below W.heap.size W w' := fun W => trimSet_any ⟨dg.toArray⟩ dgS W (by decide) (by decide)
  have hTS : ∀ W, Calls Tryd.prog 105 #[.string ⟨r.toArray⟩, .string ⟨af.toArray⟩] W fun e w' => e = .returned (.string ⟨(r.take (r.length - af.length)).toArray⟩) ∧ W = w' := fun W => (Tryd.strings_TrimSuffix ⟨r.toArray⟩ ⟨af.toArray⟩ W (by show r.length ≤ _; omega)).mono fun _ _ h => ⟨by
    rw [h.1, show (⟨r.toArray⟩ : ByteArray).data.toList = r from rfl, show (⟨af.toArray⟩ : ByteArray).data.toList = af from rfl, ts_suf r af (by rw [← haf]; exact hsuf)], h.2.symm⟩
  have hafv : af = if Lib.hasPrefix dg [48] then dg.drop 1 else dgL dg := by rw [← haf]; unfold inA; rw [hdg]
  have hal : af.length ≤ 1000000 := by have := hsuf.length_le; rw [haf] at this; omega
  have hdl : dg.length ≤ 1000000 := by have := (tp_suf r [45]).length_le; unfold inD at hdg; rw [hdg] at this; omega
  have hds : (⟨dg.toArray⟩ : ByteArray).size = dg.length := rfl
  have has : (⟨af.toArray⟩ : ByteArray).size = af.length := rfl
  have HTP := Lib.hid hTP
  have HTL := Lib.hid hTL
  have HTS := Lib.hid hTS
  have HRV := Lib.hid hR
  have H := Lib.hid h
  obtain ⟨vp, vf, h1, -, -⟩ := id h.ex
  obtain ⟨c0, c1, c2, f0, f1, f2⟩ := doc3 h1
  cases hp : Lib.hasPrefix dg [48] with
  | true =>
    rw [hp, if_pos rfl] at hafv
    rw [hp] at hH
    have HH := Lib.hid hH
    have hd1 : 1 ≤ dg.length := pre_len hp
    obtain ⟨z, hz⟩ : ∃ z : ByteArray, z = ⟨dg.toArray⟩ := ⟨_, rfl⟩
    obtain ⟨y, hy⟩ : ∃ y : ByteArray, y = ⟨af.toArray⟩ := ⟨_, rfl⟩
    have hzs : z.size = dg.length := by rw [hz]; rfl
    have hys : y.size = af.length := by rw [hy]; rfl
    have hz1 : 1 ≤ z.size := by omega
    have hzx : z.extract 1 z.size = y := by rw [hy, hafv]; exact str_of _ _ (by rw [extract_from, hz])
    have HZX := Lib.hid hzx
    clear hzx
    have HY := Lib.hid hy
    rw [← hz] at HTP HH HTL
    rw [← hy] at HTS
    rw [← hzs, ← hys] at HRV
    rw [← hys] at HTS
    clear hTP hTL hTS hH hR hafv hp hdg haf hsuf h h1 hz hy hds has hzs hys c0 c1 c2 f0 f1 f2
    by_cases hlt2 : y.size < z.size
    all_goals
      go_enter Tryd.func102, Tryd.ntmps102
      obtain ⟨vp0, vf0, h00, -, -⟩ := id H.out.ex
      obtain ⟨c0, c1, c2, f0, f1, f2⟩ := doc3 h00
      clear h00
      go_wp2_with fail
      refine (HTP.out _).mono ?_
      rintro e w1 ⟨rfl, rfl⟩
      go_wp2_with fail
      refine (HTL.out _).mono ?_
      rintro e w2 ⟨rfl, hb2⟩
      clear c0 c1 c2 f0 f1 f2
      have h2 := H.out.below hb2
      obtain ⟨vp1, vf1, h11, -, -⟩ := id h2.ex
      obtain ⟨d0, d1, d2, g0, g1, g2⟩ := doc3 h11
      have HR := Lib.hid (And.intro (h2.setRest af y (by rw [HY.out])) (hb2.mono (Nat.le_of_lt hlt)))
      clear h2 h11 hb2
      go_wp2_with fail
      refine (HH.out _).mono ?_
      rintro e w3 ⟨rfl, rfl⟩
      go_wp2_with fail
      rw [HZX.out]
      refine (HTS.out _).mono ?_
      rintro e w4 ⟨rfl, rfl⟩
      go_wp2
      go_ret2
      rw [HRV.out]
      first
        | (rw [if_pos hlt2]; exact ⟨rfl, HR.out.1.1, HR.out.2.trans HR.out.1.2⟩)
        | (rw [if_neg hlt2]; exact ⟨⟨_, rfl⟩, ⟨_, HR.out.1.1⟩, HR.out.2.trans HR.out.1.2⟩)
  | false =>
    rw [hp, if_neg (by simp)] at hafv
    rw [hp] at hH
    have HH := Lib.hid hH
    obtain ⟨z, hz⟩ : ∃ z : ByteArray, z = ⟨dg.toArray⟩ := ⟨_, rfl⟩
    obtain ⟨y, hy⟩ : ∃ y : ByteArray, y = ⟨af.toArray⟩ := ⟨_, rfl⟩
    have hzs : z.size = dg.length := by rw [hz]; rfl
    have hys : y.size = af.length := by rw [hy]; rfl
    rw [← hafv] at HTL
    have HY := Lib.hid hy
    rw [← hz] at HTP HH HTL
    rw [← hy] at HTS HTL
    rw [← hzs, ← hys] at HRV
    rw [← hys] at HTS
    clear hTP hTL hTS hH hR hafv hp hdg haf hsuf h h1 hz hy hds has hzs hys c0 c1 c2 f0 f1 f2
    by_cases hlt2 : y.size < z.size
    all_goals
      go_enter Tryd.func102, Tryd.ntmps102
      obtain ⟨vp0, vf0, h00, -, -⟩ := id H.out.ex
      obtain ⟨c0, c1, c2, f0, f1, f2⟩ := doc3 h00
      clear h00
      go_wp2_with fail
      refine (HTP.out _).mono ?_
      rintro e w1 ⟨rfl, rfl⟩
      go_wp2_with fail
      refine (HTL.out _).mono ?_
      rintro e w2 ⟨rfl, hb2⟩
      clear c0 c1 c2 f0 f1 f2
      have h2 := H.out.below hb2
      obtain ⟨vp1, vf1, h11, -, -⟩ := id h2.ex
      obtain ⟨d0, d1, d2, g0, g1, g2⟩ := doc3 h11
      have HR := Lib.hid (And.intro (h2.setRest af y (by rw [HY.out])) (hb2.mono (Nat.le_of_lt hlt)))
      clear h2 h11 hb2
      go_wp2_with fail
      refine (HH.out _).mono ?_
      rintro e w3 ⟨rfl, rfl⟩
      go_wp2_with fail
      refine (HTS.out _).mono ?_
      rintro e w4 ⟨rfl, rfl⟩
      go_wp2
      go_ret2
      rw [HRV.out]
      first
        | (rw [if_pos hlt2]; exact ⟨rfl, HR.out.1.1, HR.out.2.trans HR.out.1.2⟩)
        | (rw [if_neg hlt2]; exact ⟨⟨_, rfl⟩, ⟨_, HR.out.1.1⟩, HR.out.2.trans HR.out.1.2⟩)
end Go.Proofs.YtdjkemodlbbmaaaDoor
