/- The contract of scalar. -/
import Derived.Test.YtdjkemodlbbmaaaDoorJsC
namespace Go.Proofs.YtdjkemodlbbmaaaDoor
open Go.RowKit

theorem takeT_any (D : Nat) (w : World) (r : List UInt8) (P : List ByteArray) (F : List FldV) (h : DocI D w r P F) :
    Calls Tryd.prog 50 #[.pointer (some ⟨D, 0, none⟩), .string ⟨#[116, 114, 117, 101]⟩] w fun e w' => e = .returned (.bool (tkB tokT r)) ∧ DocO D w (tkR tokT r) P F w' := take_any D w r P F tokT h
theorem takeF_any (D : Nat) (w : World) (r : List UInt8) (P : List ByteArray) (F : List FldV) (h : DocI D w r P F) :
    Calls Tryd.prog 50 #[.pointer (some ⟨D, 0, none⟩), .string ⟨#[102, 97, 108, 115, 101]⟩] w fun e w' => e = .returned (.bool (tkB tokF r)) ∧ DocO D w (tkR tokF r) P F w' := take_any D w r P F tokF h
theorem takeN_any (D : Nat) (w : World) (r : List UInt8) (P : List ByteArray) (F : List FldV) (h : DocI D w r P F) :
    Calls Tryd.prog 50 #[.pointer (some ⟨D, 0, none⟩), .string ⟨#[110, 117, 108, 108]⟩] w fun e w' => e = .returned (.bool (tkB tokN r)) ∧ DocO D w (tkR tokN r) P F w' := take_any D w r P F tokN h
theorem take1_any (D : Nat) (w : World) (r : List UInt8) (P : List ByteArray) (F : List FldV) (c : UInt8) (h : DocI D w r P F) :
    Calls Tryd.prog 50 #[.pointer (some ⟨D, 0, none⟩), .string ⟨#[c]⟩] w fun e w' => e = .returned (.bool (tkB [c] r)) ∧ DocO D w (tkR [c] r) P F w' := take_any D w r P F [c] h
theorem DocO.trans {D : Nat} {w a b : World} {r r' : List UInt8} {P P' : List ByteArray} {F F' : List FldV} (h : DocO D w r P F a) (k : DocO D a r' P' F' b) : DocO D w r' P' F' b := ⟨k.1, h.2.trans k.2⟩
theorem ReadO.after {D : Nat} {w a : World} {r : List UInt8} {P : List ByteArray} {F : List FldV} {o : Option (List UInt8 × List UInt8)} {e : Ending} {b : World} (h : DocO D w r P F a) (k : ReadO D a o P F e b) : ReadO D w o P F e b := by
  cases o with
  | none => exact ⟨k.1, k.2.1, h.2.trans k.2.2⟩
  | some q => exact ⟨k.1, k.2.1, h.2.trans k.2.2⟩
theorem ReadO.tuple {D : Nat} {w : World} {P : List ByteArray} {F : List FldV} {o : Option (List UInt8 × List UInt8)} {e : Ending} {b : World} (h : ReadO D w o P F e b) : ∃ x y, e = .returned (.tuple #[x, y]) := by
  cases o with
  | none => obtain ⟨⟨a, he⟩, -⟩ := h; exact ⟨_, _, he⟩
  | some q => exact ⟨_, _, h.1⟩
set_option maxRecDepth 100000 in
set_option maxHeartbeats 4000000 in
theorem scalar_any (D : Nat) (w : World) (r : List UInt8) (P : List ByteArray) (F : List FldV) (h : DocI D w r P F) (hr : r.length ≤ 1000000) :
    Calls Tryd.prog 99 #[.pointer (some ⟨D, 0, none⟩)] w (ReadO D w (scO r) P F) := by
  obtain ⟨R, hR⟩ : ∃ R, scO r = R := ⟨_, rfl⟩
  rw [hR]
  unfold scO at hR
  have HT := Lib.hid (fun W (q : DocI D W r P F) => takeT_any D W r P F q)
  have H := Lib.hid h
  clear h
  cases h1 : tkB tokT r with
  | true =>
    rw [h1, if_pos rfl] at hR
    rw [h1] at HT
    have HR := Lib.hid hR
    clear hR h1
    go_enter Tryd.func99, Tryd.ntmps99
    go_wp2_with fail
    refine (HT.out _ H.out).mono ?_
    rintro e w1 ⟨rfl, h1⟩
    have H1 := Lib.hid h1
    clear h1
    go_wp2
    go_ret2
    rw [← HR.out]
    exact ⟨rfl, H1.out⟩
  | false =>
    rw [h1, if_neg (by simp)] at hR
    rw [h1] at HT
    obtain ⟨r1, hr1⟩ : ∃ x, tkR tokT r = x := ⟨_, rfl⟩
    have hl1 : r1.length ≤ 1000000 := by have := tkR_len tokT r; rw [hr1] at this; omega
    rw [hr1] at hR HT
    have HF := Lib.hid (fun W (q : DocI D W r1 P F) => takeF_any D W r1 P F q)
    clear h1 hr1 hr
    cases h2 : tkB tokF r1 with
    | true =>
      rw [h2, if_pos rfl] at hR
      rw [h2] at HF
      have HR := Lib.hid hR
      clear hR h2
      go_enter Tryd.func99, Tryd.ntmps99
      go_wp2_with fail
      refine (HT.out _ H.out).mono ?_
      rintro e w1 ⟨rfl, h1⟩
      have H1 := Lib.hid h1
      clear h1
      go_wp2_with fail
      refine (HF.out _ H1.out.1).mono ?_
      rintro e w2 ⟨rfl, h2⟩
      have H2 := Lib.hid (H1.out.trans h2)
      clear h2
      go_wp2
      go_ret2
      rw [← HR.out]
      exact ⟨rfl, H2.out⟩
    | false =>
      rw [h2, if_neg (by simp)] at hR
      rw [h2] at HF
      obtain ⟨r2, hr2⟩ : ∃ x, tkR tokF r1 = x := ⟨_, rfl⟩
      have hl2 : r2.length ≤ 1000000 := by have := tkR_len tokF r1; rw [hr2] at this; omega
      rw [hr2] at hR HF
      have HN := Lib.hid (fun W (q : DocI D W r2 P F) => takeN_any D W r2 P F q)
      clear h2 hr2 hl1
      cases h3 : tkB tokN r2 with
      | true =>
        rw [h3, if_pos rfl] at hR
        rw [h3] at HN
        have HR := Lib.hid hR
        clear hR h3
        go_enter Tryd.func99, Tryd.ntmps99
        go_wp2_with fail
        refine (HT.out _ H.out).mono ?_
        rintro e w1 ⟨rfl, h1⟩
        have H1 := Lib.hid h1
        clear h1
        go_wp2_with fail
        refine (HF.out _ H1.out.1).mono ?_
        rintro e w2 ⟨rfl, h2⟩
        have H2 := Lib.hid (H1.out.trans h2)
        clear h2
        go_wp2_with fail
        refine (HN.out _ H2.out.1).mono ?_
        rintro e w3 ⟨rfl, h3⟩
        have H3 := Lib.hid (H2.out.trans h3)
        clear h3
        go_wp2
        go_ret2
        rw [← HR.out]
        exact ⟨rfl, H3.out⟩
      | false =>
        rw [h3, if_neg (by simp)] at hR
        rw [h3] at HN
        obtain ⟨r3, hr3⟩ : ∃ x, tkR tokN r2 = x := ⟨_, rfl⟩
        have hl3 : r3.length ≤ 1000000 := by have := tkR_len tokN r2; rw [hr3] at this; omega
        rw [hr3] at hR HN
        have hP : ∀ W, Calls Tryd.prog 40 #[.string ⟨r3.toArray⟩, .string ⟨#[34]⟩] W fun e w' => e = .returned (.bool (q34 r3)) ∧ W = w' := fun W => by
          have := Tryd.strings_HasPrefix ⟨r3.toArray⟩ ⟨#[34]⟩ W
          rw [show (⟨r3.toArray⟩ : ByteArray).data.toList = r3 from rfl, show (⟨#[34]⟩ : ByteArray).data.toList = [34] from rfl, pre34] at this
          exact this.mono fun _ _ h => ⟨h.1, h.2.symm⟩
        clear h3 hr3 hl2
        cases h4 : q34 r3 with
        | true =>
          rw [h4, if_pos rfl] at hR
          rw [h4] at hP
          have HP := Lib.hid hP
          have hX := fun W (q : DocI D W r3 P F) => text_any D W r3 P F q hl3
          rw [hR] at hX
          have HX := Lib.hid hX
          clear hR h4 hP hX
          go_enter Tryd.func99, Tryd.ntmps99
          go_wp2_with fail
          refine (HT.out _ H.out).mono ?_
          rintro e w1 ⟨rfl, h1⟩
          have H1 := Lib.hid h1
          clear h1
          go_wp2_with fail
          refine (HF.out _ H1.out.1).mono ?_
          rintro e w2 ⟨rfl, h2⟩
          have H2 := Lib.hid (H1.out.trans h2)
          clear h2
          go_wp2_with fail
          refine (HN.out _ H2.out.1).mono ?_
          rintro e w3 ⟨rfl, h3⟩
          obtain ⟨vp0, vf0, h00, -, -⟩ := id h3.1.ex
          obtain ⟨c0, c1, c2, f0, f1, f2⟩ := doc3 h00
          have H3 := Lib.hid (H2.out.trans h3)
          clear h3 h00
          go_wp2_with fail
          refine (HP.out _).mono ?_
          rintro e w4 ⟨rfl, rfl⟩
          go_wp2_with fail
          refine (HX.out _ H3.out.1).mono ?_
          intro e w4 h4
          have h5 := ReadO.after H3.out h4
          obtain ⟨x, y, rfl⟩ := h5.tuple
          have H5 := Lib.hid h5
          clear h4 h5
          go_wp2
          go_ret2
          exact H5.out
        | false =>
          rw [h4, if_neg (by simp)] at hR
          rw [h4] at hP
          have HP := Lib.hid hP
          have hX := fun W (q : DocI D W r3 P F) => integer_any D W r3 P F q hl3
          rw [hR] at hX
          have HX := Lib.hid hX
          clear hR h4 hP hX
          go_enter Tryd.func99, Tryd.ntmps99
          go_wp2_with fail
          refine (HT.out _ H.out).mono ?_
          rintro e w1 ⟨rfl, h1⟩
          have H1 := Lib.hid h1
          clear h1
          go_wp2_with fail
          refine (HF.out _ H1.out.1).mono ?_
          rintro e w2 ⟨rfl, h2⟩
          have H2 := Lib.hid (H1.out.trans h2)
          clear h2
          go_wp2_with fail
          refine (HN.out _ H2.out.1).mono ?_
          rintro e w3 ⟨rfl, h3⟩
          obtain ⟨vp0, vf0, h00, -, -⟩ := id h3.1.ex
          obtain ⟨c0, c1, c2, f0, f1, f2⟩ := doc3 h00
          have H3 := Lib.hid (H2.out.trans h3)
          clear h3 h00
          go_wp2_with fail
          refine (HP.out _).mono ?_
          rintro e w4 ⟨rfl, rfl⟩
          go_wp2_with fail
          refine (HX.out _ H3.out.1).mono ?_
          intro e w4 h4
          have h5 := ReadO.after H3.out h4
          obtain ⟨x, y, rfl⟩ := h5.tuple
          have H5 := Lib.hid h5
          clear h4 h5
          go_wp2
          go_ret2
          exact H5.out
end Go.Proofs.YtdjkemodlbbmaaaDoor
