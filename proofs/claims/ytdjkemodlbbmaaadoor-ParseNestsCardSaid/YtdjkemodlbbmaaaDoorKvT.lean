/- Pairs that are written with quoted values are read again: plain mathematics. -/
import Derived.Test.YtdjkemodlbbmaaaDoorKvI
namespace Go.Proofs.YtdjkemodlbbmaaaDoor
open Go.RowKit

/-- A value with its quotes and backslashes escaped. -/
def escd : List UInt8 → List UInt8
  | [] => []
  | b :: r => if b = 34 ∨ b = 92 then 92 :: b :: escd r else b :: escd r
theorem escd_app : ∀ a b, escd (a ++ b) = escd a ++ escd b
  | [], b => rfl
  | c :: r, b => by
    rw [List.cons_append, escd, escd]
    by_cases h : c = 34 ∨ c = 92
    · rw [if_pos h, if_pos h, escd_app r b]; rfl
    · rw [if_neg h, if_neg h, escd_app r b]; rfl
theorem escd_len : ∀ a, (escd a).length ≤ 2 * a.length
  | [] => by simp [escd]
  | c :: r => by
    have := escd_len r
    rw [escd]
    by_cases h : c = 34 ∨ c = 92
    · rw [if_pos h]; simp only [List.length_cons]; omega
    · rw [if_neg h]; simp only [List.length_cons]; omega
theorem qA_escd (t : List UInt8) : ∀ (x acc : List UInt8), qA 0 escQ acc (escd x ++ 34 :: t) = some (acc ++ x, t)
  | [], acc => by rw [escd, List.nil_append, qA_end, List.append_nil]
  | b :: r, acc => by
    rw [escd]
    by_cases h : b = 34 ∨ b = 92
    · rw [if_pos h]
      show qA 0 escQ acc (92 :: b :: (escd r ++ 34 :: t)) = _
      rw [qA_esc acc _ (by decide) (show escQ b = some b by unfold escQ; rw [if_pos h]), qA_escd t r (acc ++ [b])]
      simp
    · rw [if_neg h]
      show qA 0 escQ acc (b :: (escd r ++ 34 :: t)) = _
      rw [qA_byte _ _ _ (fun e => h (.inl e)) (by simp) (fun e => h (.inr e)), qA_escd t r (acc ++ [b])]
      simp
/-- Some blanks and a pair. -/
abbrev PieceT := List UInt8 × FldV
def pieceB (p : PieceT) : List UInt8 := p.1 ++ (p.2.1.data.toList ++ 61 :: 34 :: (escd p.2.2.data.toList ++ [34]))
def txtB (T : List PieceT) : List UInt8 := T.flatMap pieceB
theorem txtB_snoc (T : List PieceT) (p : PieceT) : txtB (T ++ [p]) = txtB T ++ pieceB p := by simp [txtB]
/-- Blanks; a name that is not empty, without blanks and equals signs. -/
def PieceOk (p : PieceT) : Prop := (p.1 = [32] ∨ p.1 = [32, 32]) ∧ p.2.1.data.toList ≠ [] ∧ ∀ b ∈ p.2.1.data.toList, b ≠ 32 ∧ b ≠ 61
theorem hasB_no (c : UInt8) (l : List UInt8) (h : ∀ b ∈ l, b ≠ c) : hasB c l = false := by
  unfold hasB
  rw [indexByte_not l c (fun k e => h c (List.mem_of_getElem? e) rfl)]
  rfl
theorem trimL_bl {bl n t : List UInt8} (hb : bl = [32] ∨ bl = [32, 32]) (hn : n ≠ []) (h : ∀ b ∈ n, b ≠ 32) : trimL 32 (bl ++ (n ++ t)) = n ++ t := by
  cases n with
  | nil => exact absurd rfl hn
  | cons b r =>
    have hb32 := h b (by simp)
    rcases hb with rfl | rfl
    · show trimL 32 (32 :: (b :: (r ++ t))) = _
      rw [trimL_cons_eq, trimL_cons_ne _ hb32]; rfl
    · show trimL 32 (32 :: 32 :: (b :: (r ++ t))) = _
      rw [trimL_cons_eq, trimL_cons_eq, trimL_cons_ne _ hb32]; rfl
theorem cut_name : ∀ (n t : List UInt8), (∀ b ∈ n, b ≠ 61) → untl 61 (n ++ 61 :: t) = n ∧ frm 61 (n ++ 61 :: t) = 61 :: t
  | [], t, _ => by rw [List.nil_append, untl_cons, frm_cons, if_pos rfl, if_pos rfl]; exact ⟨rfl, rfl⟩
  | b :: r, t, h => by
    have hb := h b (by simp)
    have ih := cut_name r t (fun d hd => h d (by simp [hd]))
    rw [List.cons_append, untl_cons, frm_cons, if_neg hb, if_neg hb, ih.1, ih.2]
    exact ⟨rfl, rfl⟩
theorem pairR_piece (n v t : List UInt8) (h : ∀ b ∈ n, b ≠ 32 ∧ b ≠ 61) (ht : endB 32 t = true) : pairR (n ++ 61 :: 34 :: (escd v ++ 34 :: t)) = some ((n, v), t) := by
  obtain ⟨h1, h2⟩ := cut_name n (34 :: (escd v ++ 34 :: t)) (fun b hb => (h b hb).2)
  unfold pairR
  rw [h2]
  simp only []
  rw [h1, if_neg (by rw [hasB_no 32 n (fun b hb => (h b hb).1)]; simp)]
  have hq : q34 (34 :: (escd v ++ 34 :: t)) = true := rfl
  rw [(valR_q hq).1]
  unfold quotR
  have e : (34 :: (escd v ++ 34 :: t)).drop 1 = escd v ++ 34 :: t := rfl
  rw [e, qA_escd t v []]
  simp only [List.nil_append]
  rw [if_pos ht]
theorem txtB_end (T : List PieceT) (h : ∀ p ∈ T, PieceOk p) : endB 32 (txtB T) = true := by
  cases T with
  | nil => rfl
  | cons p T =>
    have := (h p (by simp)).1
    unfold txtB
    rw [List.flatMap_cons]
    unfold pieceB
    rcases this with e | e <;> rw [e] <;> rfl
theorem kvF_txt : ∀ (T : List PieceT) (f : Nat) (acc : List FldV), (∀ p ∈ T, PieceOk p) → acc.length + T.length ≤ 33 → T.length < f → kvF f acc (txtB T) = some (acc ++ T.map (·.2))
  | [], f, acc, _, _, h2 => by
    obtain ⟨f, rfl⟩ : ∃ f', f = f' + 1 := ⟨f - 1, by simp at h2; omega⟩
    rw [show txtB [] = [] from rfl, kvF]
    simp [trimL]
  | p :: T, f, acc, h, h1, h2 => by
    obtain ⟨f, rfl⟩ : ∃ f', f = f' + 1 := ⟨f - 1, by simp at h2; omega⟩
    have hp := h p (by simp)
    obtain ⟨bl, nm, v⟩ := p
    obtain ⟨hb, hn, hc⟩ := hp
    simp only [] at hb hn hc
    have et : txtB ((bl, nm, v) :: T) = bl ++ (nm.data.toList ++ 61 :: 34 :: (escd v.data.toList ++ 34 :: txtB T)) := by
      unfold txtB
      rw [List.flatMap_cons]
      unfold pieceB
      simp
    rw [et, kvF, trimL_bl hb hn (fun b hb => (hc b hb).1)]
    have hne : nm.data.toList ++ 61 :: 34 :: (escd v.data.toList ++ 34 :: txtB T) ≠ [] := by simp
    obtain ⟨c, r, hcr⟩ := List.exists_cons_of_ne_nil hne
    rw [hcr]
    simp only []
    rw [← hcr, pairR_piece _ _ _ hc (txtB_end T (fun q hq => h q (by simp [hq])))]
    simp only []
    have ha : accF acc nm.data.toList v.data.toList = acc ++ [(nm, v)] := by unfold accF; rw [if_pos (by simp at h1; omega)]
    rw [ha, kvF_txt T f (acc ++ [(nm, v)]) (fun q hq => h q (by simp [hq])) (by simp at h1 ⊢; omega) (by simp at h2; omega)]
    simp
theorem txtB_len (T : List PieceT) : T.length ≤ (txtB T).length := by
  induction T with
  | nil => simp
  | cons p T ih =>
    unfold txtB at ih ⊢
    rw [List.flatMap_cons, List.length_append, List.length_cons]
    have : 1 ≤ (pieceB p).length := by unfold pieceB; simp; omega
    omega
theorem kvN_txt (T : List PieceT) (h : ∀ p ∈ T, PieceOk p) (h1 : T.length ≤ 33) : kvN (txtB T) = some (T.map (·.2)) := by
  unfold kvN
  have := txtB_len T
  rw [kvF_txt T _ [] h (by simp; omega) (by omega)]
  simp
end Go.Proofs.YtdjkemodlbbmaaaDoor
