/- Objects without objects, and objects within objects: what their methods answer. -/
import Derived.Test.YtdjkemodlbbmaaaDoorJsH
namespace Go.Proofs.YtdjkemodlbbmaaaDoor
open Go.RowKit

set_option maxRecDepth 100000 in
set_option maxHeartbeats 2000000 in
theorem value_ob (D : Nat) (w : World) (r : List UInt8) (P : List ByteArray) (F : List FldV) (O : Except Nat (List UInt8 × List FldV)) (h : DocI D w r P F) (ho : tkB [123] r = true)
    (hO : ∀ W, DocI D W (tkR [123] r) P F → Calls Tryd.prog 51 #[.pointer (some ⟨D, 0, none⟩)] W (ValR D W O P)) :
    Calls Tryd.prog 90 #[.pointer (some ⟨D, 0, none⟩)] w (ValR D w O P) := by
  have hk := take1_any D w r P F 123 h
  rw [ho] at hk
  have HK := Lib.hid hk
  have HO := Lib.hid hO
  clear hk hO ho h
  go_enter Tryd.func90, Tryd.ntmps90
  go_wp2_with fail
  refine (HK.out).mono ?_
  rintro e w1 ⟨rfl, h1⟩
  have H1 := Lib.hid h1
  clear h1
  go_wp2_with fail
  refine (HO.out _ H1.out.1).mono ?_
  intro e w2 h2
  have h3 := ValR.err H1.out h2
  obtain ⟨c, rfl⟩ := h3.ret
  have H3 := Lib.hid h3
  clear h2 h3
  go_wp2
  go_ret
  exact H3.out
theorem qS_out (esc : UInt8 → Option UInt8) (m : UInt8) : ∀ (l : List UInt8) (p : Bool) (acc t u : List UInt8), qS m esc p acc l = some (t, u) → t.length ≤ acc.length + l.length
  | [], p, acc, t, u, h => by cases p <;> cases h
  | c :: r, true, acc, t, u, h => by
    rw [qS] at h
    cases he : esc c with
    | none => rw [he] at h; cases h
    | some x =>
      rw [he] at h
      have := qS_out esc m r _ _ _ _ h
      simp only [List.length_append, List.length_cons, List.length_nil] at this ⊢
      omega
  | c :: r, false, acc, t, u, h => by
    rw [qS] at h
    split at h
    · cases h; omega
    · split at h
      · cases h
      · split at h
        · have := qS_out esc m r _ _ _ _ h
          simp only [List.length_cons]; omega
        · have := qS_out esc m r _ _ _ _ h
          simp only [List.length_append, List.length_cons, List.length_nil] at this ⊢
          omega
theorem txO_out {r t u : List UInt8} (h : txO r = some (t, u)) : t.length ≤ r.length := by
  unfold txO at h
  split at h
  · have h1 := qS_out escJ 32 _ _ _ _ _ h
    have h2 := skL_len r
    rw [List.length_drop, List.length_nil] at h1
    omega
  · cases h
theorem brs_app (a b : Nat) : brs a ++ brs b = brs (a + b) := by unfold brs; rw [List.replicate_append_replicate]
theorem tkB_open (n : Nat) {m : List UInt8} (hf : Flat m) : tkB [123] (m ++ brs n) = false := by
  unfold tkB
  rw [skL_app]
  have hs := hf.skL
  cases hm : skL m with
  | nil => cases n <;> rfl
  | cons b r =>
    rw [hm] at hs
    have := (hs b (by simp)).1
    show ((123 == b) && _) = false
    rw [beq_eq_false_iff_ne.2 (fun e => this e.symm)]
    rfl
theorem tkB_close (n : Nat) {m : List UInt8} (hf : Flat m) : tkB [125] (m ++ brs n) = (decide (skL m = []) && decide (0 < n)) := by
  unfold tkB
  rw [skL_app]
  have hs := hf.skL
  cases hm : skL m with
  | nil => cases n <;> rfl
  | cons b r =>
    rw [hm] at hs
    have := (hs b (by simp)).2
    show ((125 == b) && _) = _
    rw [beq_eq_false_iff_ne.2 (fun e => this e.symm)]
    rfl
/-- What member answers in an object without objects. -/
def meF (P : List ByteArray) (r : List UInt8) (F : List FldV) : Except Nat (List UInt8 × List FldV) := meR r (fun nm r2 => scR (tkR [123] r2) (P ++ [⟨nm.toArray⟩]) F)
def InvF (n K : Nat) (r : List UInt8) (F : List FldV) : Prop := (∃ m, Flat m ∧ r = m ++ brs n) ∧ r.length ≤ K ∧ F.length ≤ 33
theorem accJ_len (F : List FldV) (P : List ByteArray) (v : List UInt8) (h : F.length ≤ 33) : (accJ F P v).length ≤ 33 := by
  unfold accJ
  split
  · rw [List.length_append]; simp only [List.length_cons, List.length_nil]; omega
  · exact h
/-- The member's answer, by what stands before the closing braces. -/
theorem meF_app (P : List ByteArray) (n : Nat) (m : List UInt8) (F : List FldV) (_hf : Flat m) : meF P (m ++ brs n) F = match meO m with
    | none => .error 1
    | some ((nm, v), u) => .ok (u ++ brs n, accJ F (P ++ [⟨nm.toArray⟩]) v) := by
  unfold meF meR meO
  rw [txO_app]
  cases ht : txO m with
  | none => rfl
  | some q =>
    obtain ⟨nm, r1⟩ := q
    simp only [Option.map_some]
    rw [tkB_app n [58] r1 (by decide), tkR_app n [58] r1 (by decide)]
    cases hb : tkB [58] r1 with
    | false => rfl
    | true =>
      rw [if_pos rfl, if_pos rfl]
      unfold scR
      rw [tkR_app n [123] _ (by decide), scO_app]
      cases scO (tkR [123] (tkR [58] r1)) with
      | none => rfl
      | some q2 => rfl
theorem skL_idem (l : List UInt8) : skL (skL l) = skL l := by
  induction l with
  | nil => rfl
  | cons b r ih =>
    rw [skL_cons]
    split
    · exact ih
    · next h => rw [skL_cons, if_neg h]
/-- The fields of an object without objects. -/
def addL (P : List ByteArray) (F : List FldV) (L : List (List UInt8 × List UInt8)) : List FldV := L.foldl (fun F p => accJ F (P ++ [⟨p.1.toArray⟩]) p.2) F
/-- An object's answer: what it holds, and the braces that are left. -/
def ansO (o : Option (List (List UInt8 × List UInt8))) (P : List ByteArray) (F : List FldV) (n : Nat) (R : Except Nat (List UInt8 × List FldV)) : Prop := match o, n with
  | some L, k + 1 => R = .ok (brs k, addL P F L)
  | _, _ => ∃ c, c ≠ 0 ∧ R = .error c
theorem obR_flat (P : List ByteArray) (n : Nat) : ∀ (f f2 : Nat) (m : List UInt8) (F : List FldV), Flat m → (m ++ brs n).length < f → m.length < f2 → ansO (paL f2 m) P F n (obR (meF P) f (m ++ brs n) F)
  | 0, f2, m, F, _, h, _ => by omega
  | f + 1, 0, m, F, _, _, h => by omega
  | f + 1, f2 + 1, m, F, hf, h, h2 => by
    rw [obR, meF_app P n m F hf, paL]
    cases hme : meO m with
    | none => exact ⟨1, by decide, rfl⟩
    | some q =>
      obtain ⟨⟨nm, v⟩, u⟩ := q
      obtain ⟨hfu, hlu⟩ := meO_flat hme hf
      simp only []
      rw [tkB_close n hfu]
      by_cases hs : skL u = []
      · rw [if_pos hs, decide_eq_true hs]
        cases n with
        | zero =>
          refine ⟨1, by decide, ?_⟩
          have hu : tkR [125] (u ++ brs 0) = [] := by
            have hb : tkB [125] (u ++ brs 0) = false := by rw [tkB_close 0 hfu]; simp
            rw [tkR_no hb, skL_app, hs]; rfl
          rw [if_neg (by simp), hu, if_neg (by decide)]
        | succ k =>
          have hb : tkB [125] (u ++ brs (k + 1)) = true := by rw [tkB_close _ hfu, decide_eq_true hs]; simp
          rw [if_pos (by simp), tkR_yes hb, skL_app, hs]
          rfl
      · rw [if_neg hs, decide_eq_false hs, Bool.false_and, if_neg (show ¬ (false = true) by simp)]
        have hb : tkB [125] (u ++ brs n) = false := by rw [tkB_close n hfu, decide_eq_false hs]; rfl
        rw [tkR_no hb, skL_app, tkB_app n [44] _ (by decide), tkR_app n [44] _ (by decide)]
        cases h44 : tkB [44] (skL u) with
        | false => exact ⟨1, by decide, rfl⟩
        | true =>
          rw [if_pos rfl, if_pos rfl]
          have hl1 := skL_len u
          have hl2 := tkR_len [44] (skL u)
          have ih := obR_flat P n f f2 (tkR [44] (skL u)) (accJ F (P ++ [⟨nm.toArray⟩]) v) hfu.skL.tkR (by rw [List.length_append] at h ⊢; omega) (by omega)
          cases hp : paL f2 (tkR [44] (skL u)) with
          | none => rw [hp] at ih; exact ih
          | some L =>
            rw [hp] at ih
            cases n with
            | zero => exact ih
            | succ k => exact ih
theorem objR_flat (P : List ByteArray) (n : Nat) (m : List UInt8) (F : List FldV) (hf : Flat m) (hP : ¬ 8 < P.length) : ansO (paO m) P F n (objR (meF P) P.length (m ++ brs n) F) := by
  unfold objR paO
  rw [if_neg hP, tkB_close n hf]
  by_cases hs : skL m = []
  · rw [if_pos hs, decide_eq_true hs]
    cases n with
    | zero =>
      rw [if_neg (by simp)]
      have hu : tkR [125] (m ++ brs 0) = [] := by
        have hb : tkB [125] (m ++ brs 0) = false := by rw [tkB_close 0 hf]; simp
        rw [tkR_no hb, skL_app, hs]; rfl
      rw [hu]
      exact ⟨1, by decide, rfl⟩
    | succ k =>
      have hb : tkB [125] (m ++ brs (k + 1)) = true := by rw [tkB_close _ hf, decide_eq_true hs]; simp
      rw [if_pos (by simp), tkR_yes hb, skL_app, hs]
      rfl
  · rw [if_neg hs, decide_eq_false hs, Bool.false_and, if_neg (show ¬ (false = true) by simp)]
    have hb : tkB [125] (m ++ brs n) = false := by rw [tkB_close n hf, decide_eq_false hs]; rfl
    rw [tkR_no hb, skL_app]
    have hl := skL_len m
    exact obR_flat P n _ _ (skL m) F hf.skL (by rw [List.length_append, List.length_append]; omega) (by omega)
end Go.Proofs.YtdjkemodlbbmaaaDoor
