/- The contracts of object without objects, and of objects in objects. -/
import Derived.Test.YtdjkemodlbbmaaaDoorJsI
namespace Go.Proofs.YtdjkemodlbbmaaaDoor
open Go.RowKit

theorem object_flat (D : Nat) (w : World) (m : List UInt8) (n : Nat) (P : List ByteArray) (F : List FldV) (h : DocI D w (m ++ brs n) P F) (hf : Flat m) (hP : ¬ 8 < P.length) (hsz : ∀ x ∈ P, x.size ≤ 10000) (hl : (m ++ brs n).length ≤ 10000) (hF : F.length ≤ 33) :
    Calls Tryd.prog 51 #[.pointer (some ⟨D, 0, none⟩)] w (ValR D w (objR (meF P) P.length (m ++ brs n) F) P) := by
  refine object_any D w (m ++ brs n) P F (meF P) (InvF n 10000) h hP ?_ ?_ ?_ ?_
  · rintro W r F ⟨⟨m, hf, rfl⟩, hl, hF⟩ hd
    refine member_any D W (m ++ brs n) P F _ hd (by omega) (by omega) (fun nm r1 ht V hdv => ?_)
    have ht2 := ht
    rw [txO_app] at ht2
    cases hq : txO m with
    | none => rw [hq] at ht2; cases ht2
    | some q =>
      obtain ⟨nm', u⟩ := q
      rw [hq] at ht2
      simp only [Option.map_some, Option.some.injEq, Prod.mk.injEq] at ht2
      obtain ⟨rfl, rfl⟩ := ht2
      have hfu := txO_flat hq hf
      have hnl := txO_out hq
      have hul := txO_len hq
      rw [List.length_append] at hl
      have hlen2 : (tkR [58] (u ++ brs n)).length ≤ 1000000 := by
        have := tkR_len [58] (u ++ brs n)
        rw [List.length_append] at this
        omega
      refine value_sc D V _ (P ++ [⟨nm'.toArray⟩]) F hdv hlen2 ?_ hF (by simp) (by simp; omega) (fun x hx => ?_)
      · rw [tkR_app n [58] u (by decide)]
        exact tkB_open n hfu.tkR
      · rcases List.mem_append.1 hx with hx | hx
        · exact hsz x hx
        · simp only [List.mem_cons, List.not_mem_nil, or_false] at hx
          subst hx
          show nm'.length ≤ _
          omega
  · intro hb
    refine ⟨⟨skL m, hf.skL, ?_⟩, ?_, hF⟩
    · rw [tkR_no hb, skL_app]
    · have := tkR_len [125] (m ++ brs n)
      omega
  · rintro r F q ⟨⟨m, hf, rfl⟩, hl, hF⟩ hme h125 h44
    rw [meF_app P n m F hf] at hme
    cases hmo : meO m with
    | none => rw [hmo] at hme; cases hme
    | some x =>
      obtain ⟨⟨nm, v⟩, u⟩ := x
      rw [hmo] at hme
      simp only [Except.ok.injEq] at hme
      subst hme
      obtain ⟨hfu, hul⟩ := meO_flat hmo hf
      simp only [] at h125 h44 ⊢
      have e : tkR [44] (tkR [125] (u ++ brs n)) = tkR [44] (skL u) ++ brs n := by rw [tkR_no h125, skL_app, tkR_app n [44] _ (by decide)]
      rw [e]
      have l1 := skL_len u
      have l2 := tkR_len [44] (skL u)
      rw [List.length_append] at hl ⊢
      refine ⟨⟨⟨_, hfu.skL.tkR, rfl⟩, ?_, accJ_len _ _ _ hF⟩, ?_⟩
      · rw [List.length_append]; omega
      · rw [List.length_append]; omega
  · rintro r F c ⟨⟨m, hf, rfl⟩, hl, hF⟩ hme
    rw [meF_app P n m F hf] at hme
    cases hmo : meO m with
    | none => rw [hmo] at hme; cases hme; decide
    | some x => obtain ⟨⟨nm, v⟩, u⟩ := x; rw [hmo] at hme; cases hme
/-- Objects in objects, behind the first brace. -/
def keyK : List UInt8 := [34, 107, 34, 58]
def ntl (m : List UInt8) (q : Nat) : Nat → List UInt8
  | 0 => m ++ brs q
  | j + 1 => keyK ++ 123 :: ntl m q j
def nmK : ByteArray := ⟨#[107]⟩
/-- What object answers there. -/
def noR (m : List UInt8) (q : Nat) : Nat → List ByteArray → Except Nat (List UInt8 × List FldV)
  | 0, P => objR (meF P) P.length (m ++ brs q) []
  | j + 1, P => objR (fun _ _ => noR m q j (P ++ [nmK])) P.length (ntl m q (j + 1)) []
theorem skL_quote (r : List UInt8) : skL (34 :: r) = 34 :: r := by rw [skL_cons, if_neg (by decide)]
theorem txO_key (r : List UInt8) : txO (keyK ++ r) = some ([107], 58 :: r) := by
  unfold txO
  have e : skL (keyK ++ r) = 34 :: 107 :: 34 :: 58 :: r := skL_quote _
  rw [e, if_pos (show q34 (34 :: 107 :: 34 :: 58 :: r) = true from rfl)]
  show qA 32 escJ [] (107 :: 34 :: 58 :: r) = _
  rw [qA_byte _ _ _ (by decide) (by decide) (by decide), qA_end]
  rfl
theorem tk_key125 (r : List UInt8) : tkB [125] (keyK ++ r) = false ∧ tkR [125] (keyK ++ r) = keyK ++ r := by
  have e : skL (keyK ++ r) = keyK ++ r := skL_quote _
  have hb : tkB [125] (keyK ++ r) = false := by unfold tkB; rw [e]; rfl
  exact ⟨hb, by rw [tkR_no hb, e]⟩
theorem tk_58 (r : List UInt8) : tkB [58] (58 :: r) = true ∧ tkR [58] (58 :: r) = r := by
  have e : skL (58 :: r) = 58 :: r := by rw [skL_cons, if_neg (by decide)]
  have hb : tkB [58] (58 :: r) = true := by unfold tkB; rw [e]; unfold Lib.hasPrefix; cases r <;> rfl
  exact ⟨hb, by rw [tkR_yes hb, e]; rfl⟩
theorem tk_123 (r : List UInt8) : tkB [123] (123 :: r) = true ∧ tkR [123] (123 :: r) = r := by
  have e : skL (123 :: r) = 123 :: r := by rw [skL_cons, if_neg (by decide)]
  have hb : tkB [123] (123 :: r) = true := by unfold tkB; rw [e]; unfold Lib.hasPrefix; cases r <;> rfl
  exact ⟨hb, by rw [tkR_yes hb, e]; rfl⟩
/-- The answer in closed form. -/
theorem noR_deep (m : List UInt8) (q : Nat) : ∀ (j : Nat) (P : List ByteArray), P.length ≤ 9 → 9 ≤ P.length + j → noR m q j P = .error 5
  | 0, P, h1, h2 => by unfold noR objR; rw [if_pos (by omega)]
  | j + 1, P, h1, h2 => by
    by_cases h9 : 8 < P.length
    · unfold noR objR; rw [if_pos h9]
    · have ih := noR_deep m q j (P ++ [nmK]) (by simp; omega) (by simp; omega)
      unfold noR objR
      rw [if_neg h9]
      obtain ⟨a, b⟩ := tk_key125 (123 :: ntl m q j)
      have a' : tkB [125] (ntl m q (j + 1)) = false := a
      rw [a', if_neg (by simp), obR, ih]
def rk : Nat → List ByteArray → List ByteArray
  | 0, P => P
  | j + 1, P => rk j (P ++ [nmK])
theorem noR_flat (m : List UInt8) (q : Nat) (hf : Flat m) : ∀ (j : Nat) (P : List ByteArray), P.length + j ≤ 8 → (match paO m with
    | none => ∃ c, c ≠ 0 ∧ noR m q j P = .error c
    | some L => if j + 1 ≤ q then noR m q j P = .ok (brs (q - (j + 1)), addL (rk j P) [] L) else ∃ c, c ≠ 0 ∧ noR m q j P = .error c)
  | 0, P, h => by
    have h0 := objR_flat P q m [] hf (by omega)
    unfold ansO at h0
    unfold noR
    cases hp : paO m with
    | none => rw [hp] at h0; exact h0
    | some L =>
      rw [hp] at h0
      cases q with
      | zero => exact h0
      | succ k => simp only []; rw [if_pos (by omega)]; exact h0
  | j + 1, P, h => by
    have ih := noR_flat m q hf j (P ++ [nmK]) (by simp; omega)
    have hun : noR m q (j + 1) P = match noR m q j (P ++ [nmK]) with
        | .error c => .error c
        | .ok x => if tkB [125] x.1 then .ok (tkR [125] x.1, x.2) else if tkB [44] (tkR [125] x.1) then obR (fun _ _ => noR m q j (P ++ [nmK])) (ntl m q (j + 1)).length (tkR [44] (tkR [125] x.1)) x.2 else .error 1 := by
      rw [noR]
      unfold objR
      rw [if_neg (by omega)]
      obtain ⟨a, b⟩ := tk_key125 (123 :: ntl m q j)
      have a' : tkB [125] (ntl m q (j + 1)) = false := a
      rw [a', if_neg (by simp), obR]
      rfl
    rw [hun]
    cases hp : paO m with
    | none =>
      rw [hp] at ih
      obtain ⟨c, hc, he⟩ := ih
      rw [he]
      exact ⟨c, hc, rfl⟩
    | some L =>
      rw [hp] at ih
      simp only [] at ih ⊢
      by_cases hq : j + 1 ≤ q
      · rw [if_pos hq] at ih
        rw [ih]
        simp only []
        obtain ⟨k, hk⟩ : ∃ k, q - (j + 1) = k := ⟨_, rfl⟩
        rw [hk]
        cases k with
        | zero =>
          rw [if_neg (by omega)]
          exact ⟨1, by decide, rfl⟩
        | succ k =>
          rw [if_pos (by omega), show q - (j + 1 + 1) = k by omega]
          have e : skL (brs (k + 1)) = brs (k + 1) := skL_brs _
          have hb : tkB [125] (brs (k + 1)) = true := by unfold tkB; rw [e]; unfold Lib.hasPrefix; cases k <;> rfl
          rw [hb, if_pos rfl, tkR_yes hb, e]
          rfl
      · rw [if_neg hq] at ih
        rw [if_neg (by omega)]
        obtain ⟨c, hc, he⟩ := ih
        rw [he]
        exact ⟨c, hc, rfl⟩
theorem noR_err (m : List UInt8) (q : Nat) (hf : Flat m) (j : Nat) (P : List ByteArray) (hP : P.length ≤ 9) (c : Nat) (h : noR m q j P = .error c) : c ≠ 0 := by
  by_cases h9 : 9 ≤ P.length + j
  · rw [noR_deep m q j P hP h9] at h
    cases h; decide
  · have := noR_flat m q hf j P (by omega)
    cases hp : paO m with
    | none =>
      rw [hp] at this
      obtain ⟨c', hc, he⟩ := this
      rw [he] at h; cases h; exact hc
    | some L =>
      rw [hp] at this
      simp only [] at this
      split at this
      · rw [this] at h; cases h
      · obtain ⟨c', hc, he⟩ := this
        rw [he] at h; cases h; exact hc
theorem noR_ok (m : List UInt8) (q : Nat) (hf : Flat m) (j : Nat) (P : List ByteArray) (hP : P.length ≤ 9) (x : List UInt8 × List FldV) (h : noR m q j P = .ok x) : ∃ k, x.1 = brs k := by
  by_cases h9 : 9 ≤ P.length + j
  · rw [noR_deep m q j P hP h9] at h
    cases h
  · have := noR_flat m q hf j P (by omega)
    cases hp : paO m with
    | none =>
      rw [hp] at this
      obtain ⟨c', hc, he⟩ := this
      rw [he] at h; cases h
    | some L =>
      rw [hp] at this
      simp only [] at this
      split at this
      · rw [this] at h; cases h; exact ⟨_, rfl⟩
      · obtain ⟨c', hc, he⟩ := this
        rw [he] at h; cases h
theorem object_nst (D : Nat) (m : List UInt8) (q : Nat) (hf : Flat m) (hl : (m ++ brs q).length ≤ 10000) : ∀ (j : Nat) (P : List ByteArray) (W : World), DocI D W (ntl m q j) P [] → P.length + j ≤ 9 → (∀ x ∈ P, x.size ≤ 10000) → (ntl m q j).length ≤ 100000 →
    Calls Tryd.prog 51 #[.pointer (some ⟨D, 0, none⟩)] W (ValR D W (noR m q j P) P)
  | 0, P, W, h, hP, hsz, _ => by
    unfold noR
    by_cases h8 : 8 < P.length
    · have := object_deep D W _ P [] h h8
      unfold objR
      rw [if_pos h8]
      exact this
    · exact object_flat D W m q P [] h hf h8 hsz hl (by simp)
  | j + 1, P, W, h, hP, hsz, hln => by
    have h8 : ¬ 8 < P.length := by omega
    rw [noR]
    have hln2 : (ntl m q j).length ≤ 100000 := by
      have : (ntl m q (j + 1)).length = (ntl m q j).length + 5 := by
        show (keyK ++ 123 :: ntl m q j).length = _
        simp [keyK]
      omega
    have hlast : ∀ x, noR m q j (P ++ [nmK]) = .ok x → tkB [125] x.1 = false → tkB [44] (tkR [125] x.1) = true → False := fun x hx h1 h2 => by
      obtain ⟨k, hk⟩ := noR_ok m q hf j (P ++ [nmK]) (by simp; omega) x hx
      rw [hk] at h1 h2
      cases k with
      | zero => exact absurd h2 (by decide)
      | succ k =>
        have e : skL (brs (k + 1)) = brs (k + 1) := skL_brs _
        have hb : tkB [125] (brs (k + 1)) = true := by unfold tkB; rw [e]; unfold Lib.hasPrefix; cases k <;> rfl
        rw [hb] at h1; cases h1
    refine object_any D W (ntl m q (j + 1)) P [] (fun _ _ => noR m q j (P ++ [nmK])) (fun r F => r = ntl m q (j + 1) ∧ F = []) h h8 ?_ ?_ ?_ ?_
    · rintro V r F ⟨rfl, rfl⟩ hd
      have hm := member_any D V (ntl m q (j + 1)) P [] (fun _ _ => noR m q j (P ++ [nmK])) hd (by omega) (by omega) (fun nm r1 ht U hdv => by
        rw [show ntl m q (j + 1) = keyK ++ 123 :: ntl m q j from rfl, txO_key] at ht
        simp only [Option.some.injEq, Prod.mk.injEq] at ht
        obtain ⟨rfl, rfl⟩ := ht
        rw [(tk_58 _).2] at hdv
        refine value_ob D U _ (P ++ [nmK]) [] _ hdv (tk_123 _).1 (fun U' hd' => ?_)
        rw [(tk_123 _).2] at hd'
        exact object_nst D m q hf hl j (P ++ [nmK]) U' hd' (by simp; omega) (fun x hx => by
          rcases List.mem_append.1 hx with hx | hx
          · exact hsz x hx
          · simp only [List.mem_cons, List.not_mem_nil, or_false] at hx
            subst hx
            decide) hln2)
      have e : meR (ntl m q (j + 1)) (fun _ _ => noR m q j (P ++ [nmK])) = noR m q j (P ++ [nmK]) := by
        unfold meR
        rw [show ntl m q (j + 1) = keyK ++ 123 :: ntl m q j from rfl, txO_key]
        simp only []
        rw [(tk_58 _).1, if_pos rfl]
      rw [e] at hm
      exact hm
    · intro _
      exact ⟨(tk_key125 (123 :: ntl m q j)).2, rfl⟩
    · rintro r F x ⟨rfl, rfl⟩ hme h1 h2
      exact (hlast x hme h1 h2).elim
    · rintro r F c ⟨rfl, rfl⟩ hme
      exact noR_err m q hf j (P ++ [nmK]) (by simp; omega) c hme
end Go.Proofs.YtdjkemodlbbmaaaDoor
