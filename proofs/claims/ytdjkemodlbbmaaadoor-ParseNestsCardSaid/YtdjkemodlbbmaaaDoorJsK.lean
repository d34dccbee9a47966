/- The contracts of whole and JSON at objects in objects. -/
import Derived.Test.YtdjkemodlbbmaaaDoorJsJ
namespace Go.Proofs.YtdjkemodlbbmaaaDoor
open Go.RowKit

/-- What the whole document's reading answers. -/
def whR (m : List UInt8) (q j : Nat) : Except Nat (List FldV) := match noR m q j [] with
  | .error c => .error c
  | .ok x => if x.1 = [] then .ok x.2 else .error 1
def WhO (D : Nat) (w : World) (o : Except Nat (List FldV)) (e : Ending) (w' : World) : Prop := match o with
  | .error c => e = .returned (.int .i64 (c : Int)) ∧ Below D w w'
  | .ok F => e = .returned (.int .i64 0) ∧ (∃ r, DocI D w' r [] F) ∧ Below D w w'
set_option maxRecDepth 100000 in
set_option maxHeartbeats 4000000 in
theorem whole_nst (D : Nat) (w : World) (m : List UInt8) (q j : Nat) (h : DocI D w (123 :: ntl m q j) [] []) (hf : Flat m) (hl : (m ++ brs q).length ≤ 10000) (hj : j ≤ 9) (hln : (ntl m q j).length ≤ 100000) :
    Calls Tryd.prog 32 #[.pointer (some ⟨D, 0, none⟩)] w (WhO D w (whR m q j)) := by
  have hk := take1_any D w _ [] [] 123 h
  rw [(tk_123 _).1, (tk_123 _).2] at hk
  have HK := Lib.hid hk
  have hO := fun W (hd : DocI D W (ntl m q j) [] []) => object_nst D m q hf hl j [] W hd (by simp; omega) (fun x hx => by cases hx) hln
  unfold whR
  have herr := noR_err m q hf j [] (by simp)
  have hok := noR_ok m q hf j [] (by simp)
  cases hR : noR m q j [] with
  | error c =>
    rw [hR] at hO
    have HO := Lib.hid hO
    have hc := herr c hR
    have hcz : ((c : Int) != 0) = true := by simp; omega
    clear hk h hO herr hok hR hc
    go_enter Tryd.func32, Tryd.ntmps32
    go_wp2_with fail
    refine (HK.out).mono ?_
    rintro e w1 ⟨rfl, h1⟩
    have H1 := Lib.hid h1
    clear h1
    go_wp2_with fail
    refine (HO.out _ H1.out.1).mono ?_
    rintro e w2 ⟨rfl, r', F', h2⟩
    have H2 := Lib.hid (H1.out.2.trans h2.2)
    clear h2
    go_wp2
    go_ret
    exact ⟨rfl, H2.out⟩
  | ok x =>
    rw [hR] at hO
    have HO := Lib.hid hO
    obtain ⟨k, hk⟩ := hok x hR
    obtain ⟨u, F⟩ := x
    simp only [] at hk ⊢
    subst hk
    have HS := Lib.hid (fun W (hd : DocI D W (brs k) [] F) => skip_any D W (brs k) [] F hd)
    rw [skL_brs] at HS
    clear h hO herr hok hR
    cases k with
    | zero =>
      rw [if_pos (show brs 0 = [] from rfl)]
      go_enter Tryd.func32, Tryd.ntmps32
      go_wp2_with fail
      refine (HK.out).mono ?_
      rintro e w1 ⟨rfl, h1⟩
      have H1 := Lib.hid h1
      clear h1
      go_wp2_with fail
      refine (HO.out _ H1.out.1).mono ?_
      rintro e w2 ⟨rfl, h2, hb2⟩
      have H2 := Lib.hid (And.intro h2 (H1.out.2.trans hb2))
      clear h2 hb2
      go_wp2_with fail
      refine (HS.out _ H2.out.1).mono ?_
      rintro e w3 ⟨rfl, h3, hb3⟩
      obtain ⟨vp0, vf0, h00, -, -⟩ := id h3.ex
      obtain ⟨c0, c1, c2, f0, f1, f2⟩ := doc3 h00
      have H3 := Lib.hid (And.intro h3 (H2.out.2.trans hb3))
      have c0' : w3.cell? ⟨D, 0, none⟩ = some (.string ⟨#[]⟩) := c0
      clear h3 hb3 h00 c0
      go_wp2
      go_ret
      exact ⟨rfl, ⟨_, H3.out.1⟩, H3.out.2⟩
    | succ k =>
      rw [if_neg (by rw [brs_succ]; simp)]
      obtain ⟨z, hz⟩ : ∃ z : ByteArray, z = ⟨(brs (k + 1)).toArray⟩ := ⟨_, rfl⟩
      have hzs : ¬ z.size = 0 := by rw [hz, brs_succ]; exact Nat.succ_ne_zero _
      obtain ⟨hn1, hn2, hn3⟩ := str_ne z hzs
      have HZ := Lib.hid hz
      clear hz hzs
      go_enter Tryd.func32, Tryd.ntmps32
      go_wp2_with fail
      refine (HK.out).mono ?_
      rintro e w1 ⟨rfl, h1⟩
      have H1 := Lib.hid h1
      clear h1
      go_wp2_with fail
      refine (HO.out _ H1.out.1).mono ?_
      rintro e w2 ⟨rfl, h2, hb2⟩
      have H2 := Lib.hid (And.intro h2 (H1.out.2.trans hb2))
      clear h2 hb2
      go_wp2_with fail
      refine (HS.out _ H2.out.1).mono ?_
      rintro e w3 ⟨rfl, h3, hb3⟩
      obtain ⟨vp0, vf0, h00, -, -⟩ := id h3.ex
      obtain ⟨c0, c1, c2, f0, f1, f2⟩ := doc3 h00
      rw [← HZ.out] at c0
      have H3 := Lib.hid (And.intro h3 (H2.out.2.trans hb3))
      clear h3 hb3 h00
      go_wp2
      go_ret
      exact ⟨rfl, H3.out.2⟩
def JsO (o : Except Nat (List FldV)) (e : Ending) (w' : World) : Prop := match o with
  | .error c => e = .returned (.tuple #[.slice none 0 0, .int .i64 (c : Int)])
  | .ok F => SortA F e w'
theorem DocI.start (s : ByteArray) (r : List UInt8) (hs : s.data.toList = r) (w : World) : DocI w.heap.size (w.alloc (.cells #[.string s, .slice none 0 0, .slice none 0 0] 62)) r [] [] :=
  ⟨⟨.slice none 0 0, .slice none 0 0, by rw [str_of s r hs]; exact heap_alloc_new w _, World.ownsRow_nil _ _ _ _, FsR.nil _ _⟩⟩
set_option maxRecDepth 100000 in
set_option maxHeartbeats 4000000 in
theorem json_nst (s : ByteArray) (w : World) (m : List UInt8) (q j : Nat) (hs : s.data.toList = 123 :: ntl m q j) (hf : Flat m) (hl : (m ++ brs q).length ≤ 10000) (hj : j ≤ 9) (hln : (ntl m q j).length ≤ 100000) :
    Calls Tryd.prog 21 #[.string s] w fun e w' => JsO (whR m q j) e w' ∧ Below w.heap.size w w' := by
  have hW := whole_nst w.heap.size _ m q j (DocI.start s _ hs w) hf hl hj hln
  have hc : ∀ c, whR m q j = .error c → c ≠ 0 := fun c h => by
    unfold whR at h
    have herr := noR_err m q hf j [] (by simp)
    cases hR : noR m q j [] with
    | error c' => rw [hR] at h; cases h; exact herr _ hR
    | ok x =>
      rw [hR] at h
      simp only [] at h
      split at h
      · cases h
      · cases h; decide
  obtain ⟨R, hR⟩ : ∃ R, whR m q j = R := ⟨_, rfl⟩
  rw [hR] at hW hc ⊢
  have HW := Lib.hid hW
  clear hW hR hs
  cases R with
  | error c =>
    have hc0 := hc c rfl
    have hcz : ((c : Int) != 0) = true := by simp; omega
    clear hc0 hc
    go_enter Tryd.func21, Tryd.ntmps21
    go_wp2_with fail
    refine (HW.out).mono ?_
    rintro e w1 ⟨rfl, hb1⟩
    have H1 := Lib.hid (((Below.refl _ w).alloc (Nat.le_refl _) _).trans hb1)
    clear hb1
    go_wp2
    go_ret2
    exact ⟨rfl, H1.out⟩
  | ok F =>
    clear hc
    go_enter Tryd.func21, Tryd.ntmps21
    go_wp2_with fail
    refine (HW.out).mono ?_
    rintro e w1 ⟨rfl, ⟨r, h1⟩, hb1⟩
    obtain ⟨vp0, vf0, h00, -, h02⟩ := id h1.ex
    obtain ⟨c0, c1, c2, f0, f1, f2⟩ := doc3 h00
    have H1 := Lib.hid (((Below.refl _ w).alloc (Nat.le_refl _) _).trans hb1)
    have HS := Lib.hid (sort_any F vf0 w1 h02.shows)
    obtain ⟨fa, fc, rfl⟩ := rowf_slice h02
    clear hb1 h1 h00 h02
    go_wp2_with fail
    refine (HS.out).mono ?_
    rintro e w2 ⟨hso, hb2⟩
    obtain ⟨z1, z2, rfl⟩ : ∃ z1 z2, e = .returned (.tuple #[z1, z2]) := by
      rcases hso with ⟨-, S, v', -, -, -, he⟩ | ⟨-, he⟩
      · exact ⟨_, _, he⟩
      · exact ⟨_, _, he⟩
    have HO := Lib.hid (And.intro hso hb2)
    clear hso hb2
    go_wp2
    go_ret2
    exact ⟨HO.out.1, H1.out.trans (HO.out.2.mono H1.out.size)⟩
end Go.Proofs.YtdjkemodlbbmaaaDoor
