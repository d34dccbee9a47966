/- Mathematics of the statement about nested objects. -/
import Derived.Test.YtdjkemodlbbmaaaDoorJsL
import Derived.Test.YtdjkemodlbbmaaaDoorJsK
import Derived.Test.YtdjkemodlbbmaaaDoorKvY
namespace Go.Proofs.YtdjkemodlbbmaaaDoor
open Go.RowKit

/-- What stands before each name. -/
def pfB : Nat → List UInt8
  | 0 => []
  | j + 1 => 107 :: 46 :: pfB j
theorem pfB_snoc : ∀ j, pfB j ++ [107, 46] = pfB (j + 1)
  | 0 => rfl
  | j + 1 => by rw [pfB, List.cons_append, List.cons_append, pfB_snoc j]; rfl
def preB (k : Nat) : ByteArray := ⟨(pfB k).toArray⟩
def gPre (k : Nat) (x : FldV) : FldV := (preB k ++ x.1, x.2)
theorem rk_eq : ∀ (j : Nat) (P : List ByteArray), rk j P = P ++ List.replicate j nmK
  | 0, P => by rw [rk]; simp
  | j + 1, P => by rw [rk, rk_eq j, List.append_assoc]; rfl
theorem fm_eq (x : ByteArray) : ∀ j, (List.replicate j nmK ++ [x]).flatMap (fun y => 46 :: y.data.toList) = 46 :: (pfB j ++ x.data.toList)
  | 0 => by simp [pfB]
  | j + 1 => by
    rw [List.replicate_succ, List.cons_append, List.flatMap_cons, fm_eq x j]
    rfl
theorem jn_pre (x : ByteArray) (j : Nat) : jnB (rk j [] ++ [x]) = pfB j ++ jnB [x] := by
  rw [rk_eq]
  have e : jnB [x] = x.data.toList := by simp [jnB]
  rw [e]
  cases j with
  | zero => simp [jnB, pfB]
  | succ j =>
    rw [List.replicate_succ, List.nil_append, List.cons_append, jnB, fm_eq]
    rfl
theorem acc_pre (k : Nat) (F : List FldV) (x : ByteArray) (v : List UInt8) : accJ (F.map (gPre k)) (rk k [] ++ [x]) v = (accJ F ([] ++ [x]) v).map (gPre k) := by
  unfold accJ
  rw [List.length_map, jn_pre]
  split
  · rw [List.map_append]
    congr 1
  · rfl
theorem add_pre (k : Nat) : ∀ (L : List (List UInt8 × List UInt8)) (F : List FldV), addL (rk k []) (F.map (gPre k)) L = (addL [] F L).map (gPre k)
  | [], F => rfl
  | p :: L, F => by
    have ih := add_pre k L (accJ F ([] ++ [⟨p.1.toArray⟩]) p.2)
    rw [← acc_pre] at ih
    exact ih
theorem pre_lt {a b : List UInt8} (h : a < b) : ∀ j, pfB j ++ a < pfB j ++ b
  | 0 => h
  | j + 1 => by
    have ih := pre_lt h j
    show (107 :: 46 :: (pfB j ++ a)) < (107 :: 46 :: (pfB j ++ b))
    exact List.cons_lt_cons_iff.2 (.inr ⟨rfl, List.cons_lt_cons_iff.2 (.inr ⟨rfl, ih⟩)⟩)
theorem nlt_pre {a b : ByteArray} (h : nltB a b) (k : Nat) : nltB (preB k ++ a) (preB k ++ b) := by
  unfold nltB at h ⊢
  rw [ByteArray.data_append, Array.toList_append, ByteArray.data_append, Array.toList_append]
  exact pre_lt h k
theorem asc_pre {S : List FldV} (h : Asc S) (k : Nat) : Asc (S.map (gPre k)) := by
  unfold Asc at h ⊢
  rw [List.pairwise_map]
  exact h.imp (fun q => nlt_pre q k)
theorem pre_inj (k : Nat) {a b : ByteArray} (h : preB k ++ a = preB k ++ b) : a = b := by
  apply ext_b
  have := congrArg (fun x => x.data.toList) h
  simp only [ByteArray.data_append, Array.toList_append] at this
  exact List.append_cancel_left this
theorem dup_pre (S : List FldV) (k : Nat) : dupN (S.map (gPre k)) = dupN S := by
  unfold dupN
  congr 1
  rw [decide_eq_decide, List.map_map]
  have e : S.map ((fun x : FldV => x.1) ∘ gPre k) = (S.map (·.1)).map (preB k ++ ·) := by rw [List.map_map]; rfl
  rw [e]
  unfold List.Nodup
  rw [List.pairwise_map]
  constructor
  · exact fun h => h.imp (fun q e => q (by rw [e]))
  · exact fun h => h.imp (fun q e => q (pre_inj k e))
theorem sortE_pre_ne (S : List FldV) (k : Nat) (h : sortE S ≠ 0) (h6 : sortE S ≠ 6) : sortE (S.map (gPre k)) ≠ 0 := by
  unfold sortE at h h6 ⊢
  rw [List.length_map, dup_pre]
  by_cases h32 : 32 < S.length
  · rw [if_pos h32]; decide
  · rw [if_neg h32] at h h6 ⊢
    by_cases ha : S.all okN = true
    · rw [if_pos ha] at h
      split
      · exact h
      · decide
    · rw [if_neg ha] at h6
      exact absurd rfl h6
theorem sortE_pre_ok (S : List FldV) (k : Nat) (h : sortE S = 0) : sortE (S.map (gPre k)) = 0 ∨ sortE (S.map (gPre k)) = 6 := by
  unfold sortE at h ⊢
  rw [List.length_map, dup_pre]
  split at h
  · cases h
  · next h32 =>
    rw [if_neg h32]
    split at h
    · next ha =>
      rw [h]
      split
      · exact .inl rfl
      · exact .inr rfl
    · cases h
/-- The braces and keys of one step. -/
theorem ntl_brs (m : List UInt8) (q : Nat) : ∀ j, ntl m q j ++ [125] = ntl m (q + 1) j
  | 0 => by
    show m ++ brs q ++ [125] = m ++ brs (q + 1)
    rw [List.append_assoc, show [(125 : UInt8)] = brs 1 from rfl, brs_app]
  | j + 1 => by
    show keyK ++ 123 :: ntl m q j ++ [125] = _
    rw [List.append_assoc, List.cons_append, ntl_brs m q j]
    rfl
theorem ntl_step (m : List UInt8) (q j : Nat) : (123 :: keyK) ++ (123 :: ntl m q j) ++ [125] = 123 :: ntl m (q + 1) (j + 1) := by
  rw [← ntl_brs]
  show (123 :: keyK) ++ (123 :: ntl m q j) ++ [125] = 123 :: (keyK ++ 123 :: ntl m q j ++ [125])
  simp
theorem ntl_len (m : List UInt8) (q : Nat) : ∀ j, (ntl m q j).length = m.length + q + 5 * j
  | 0 => by show (m ++ brs q).length = _; simp [brs]
  | j + 1 => by
    show (keyK ++ 123 :: ntl m q j).length = _
    rw [List.length_append, List.length_cons, ntl_len m q j]
    show 4 + _ = _
    omega
theorem whR_flat (m : List UInt8) (q j : Nat) (hf : Flat m) (hj : j ≤ 8) : match paO m with
    | none => ∃ c, c ≠ 0 ∧ whR m q j = .error c
    | some L => if q = j + 1 then whR m q j = .ok (addL (rk j []) [] L) else ∃ c, c ≠ 0 ∧ whR m q j = .error c := by
  have h := noR_flat m q hf j [] (by simp; omega)
  unfold whR
  cases hp : paO m with
  | none =>
    rw [hp] at h
    obtain ⟨c, hc, he⟩ := h
    exact ⟨c, hc, by rw [he]⟩
  | some L =>
    rw [hp] at h
    simp only [] at h ⊢
    by_cases hq : j + 1 ≤ q
    · rw [if_pos hq] at h
      rw [h]
      simp only []
      by_cases he : q = j + 1
      · rw [if_pos he, if_pos]
        rw [he]; simp [brs]
      · rw [if_neg he, if_neg]
        · exact ⟨1, by decide, rfl⟩
        · intro hb
          have := congrArg List.length hb
          simp [brs] at this
          omega
    · rw [if_neg hq] at h
      rw [if_neg (by omega)]
      obtain ⟨c, hc, he⟩ := h
      exact ⟨c, hc, by rw [he]⟩
theorem nests_cases (m : List UInt8) (d k : Nat) (hf : Flat m) (hk9 : k ≤ 9) :
    (∃ c c2, c ≠ 0 ∧ c2 ≠ 0 ∧ whR m d 0 = .error c ∧ whR m (d + k) k = .error c2) ∨
    (∃ F, whR m d 0 = .ok F ∧ ((k ≤ 8 ∧ whR m (d + k) k = .ok (F.map (gPre k))) ∨ (k = 9 ∧ whR m (d + k) k = .error 5))) := by
  have h1 := whR_flat m d 0 hf (by omega)
  by_cases h9 : k = 9
  · subst h9
    have hd : whR m (d + 9) 9 = .error 5 := by
      unfold whR
      rw [noR_deep m (d + 9) 9 [] (by simp) (by simp)]
    cases hp : paO m with
    | none =>
      rw [hp] at h1
      obtain ⟨c, hc, he⟩ := h1
      exact .inl ⟨c, 5, hc, by decide, he, hd⟩
    | some L =>
      rw [hp] at h1
      simp only [] at h1
      split at h1
      · exact .inr ⟨_, h1, .inr ⟨rfl, hd⟩⟩
      · obtain ⟨c, hc, he⟩ := h1
        exact .inl ⟨c, 5, hc, by decide, he, hd⟩
  · have h2 := whR_flat m (d + k) k hf (by omega)
    cases hp : paO m with
    | none =>
      rw [hp] at h1 h2
      obtain ⟨c, hc, he⟩ := h1
      obtain ⟨c2, hc2, he2⟩ := h2
      exact .inl ⟨c, c2, hc, hc2, he, he2⟩
    | some L =>
      rw [hp] at h1 h2
      simp only [] at h1 h2
      by_cases hd : d = 0 + 1
      · rw [if_pos hd] at h1
        rw [if_pos (by omega)] at h2
        refine .inr ⟨_, h1, .inl ⟨by omega, ?_⟩⟩
        rw [h2]
        exact congrArg Except.ok (add_pre k L [])
      · rw [if_neg hd] at h1
        rw [if_neg (by omega)] at h2
        obtain ⟨c, hc, he⟩ := h1
        obtain ⟨c2, hc2, he2⟩ := h2
        exact .inl ⟨c, c2, hc, hc2, he, he2⟩
theorem sortE_small {F : List FldV} (h : sortE F = 0) (x : FldV) (hx : x ∈ F) : x.1.size ≤ 32 := by
  unfold sortE at h
  split at h
  · cases h
  · split at h
    · next ha =>
      have := List.all_eq_true.1 ha x hx
      rcases Nat.lt_or_ge 32 x.1.size with q | q
      · unfold okN at this
        rw [nameL_long q] at this
        cases this
      · exact q
    · cases h
/-- The two answers together. -/
def NestO (k : Nat) (v1 v2 : Value) (c1 c2 : Nat) (w : World) : Prop :=
  (c1 ≠ 0 ∧ (c1 = 6 ∨ c2 ≠ 0)) ∨ (c1 = 0 ∧ k = 9 ∧ c2 = 5) ∨ (c1 = 0 ∧ k ≤ 8 ∧ c2 = 6) ∨
  (c1 = 0 ∧ k ≤ 8 ∧ c2 = 0 ∧ ∃ S : List FldV, S.length ≤ 32 ∧ (∀ x ∈ S, x.1.size ≤ 32) ∧ FsI w v1 S ∧ FsI w v2 (S.map (gPre k)))
theorem JsO.ret {o : Except Nat (List FldV)} {e : Ending} {w : World} (h : JsO o e w) : ∃ (v : Value) (c : Nat), e = .returned (.tuple #[v, .int .i64 (c : Int)]) := by
  cases o with
  | error c => exact ⟨_, c, h⟩
  | ok F =>
    rcases h with ⟨-, S, v', -, -, -, he⟩ | ⟨-, he⟩
    · exact ⟨_, 0, he⟩
    · exact ⟨_, _, he⟩
theorem ret_inj {v v' : Value} {c c' : Nat} (h : Ending.returned (.tuple #[v, .int .i64 (c : Int)]) = .returned (.tuple #[v', .int .i64 (c' : Int)])) : v = v' ∧ c = c' := by
  injection h with h
  injection h with h
  have h2 := congrArg Array.toList h
  simp only [List.cons.injEq, and_true, Value.int.injEq, true_and, Int.natCast_inj] at h2
  exact h2
theorem nest_comb (m : List UInt8) (d k : Nat) (hf : Flat m) (hk9 : k ≤ 9) (v1 v2 : Value) (c1 c2 : Nat) (w1 w2 : World) (h1 : JsO (whR m d 0) (.returned (.tuple #[v1, .int .i64 (c1 : Int)])) w1)
    (h2 : JsO (whR m (d + k) k) (.returned (.tuple #[v2, .int .i64 (c2 : Int)])) w2) (hb : Below w1.heap.size w1 w2) : NestO k v1 v2 c1 c2 w2 := by
  rcases nests_cases m d k hf hk9 with ⟨c, c', hc, hc', e1, e2⟩ | ⟨F, e1, hK⟩
  · rw [e1] at h1
    rw [e2] at h2
    obtain ⟨-, rfl⟩ := ret_inj h1
    obtain ⟨-, rfl⟩ := ret_inj h2
    exact .inl ⟨hc, .inr hc'⟩
  · rw [e1] at h1
    have h1 : SortA F _ w1 := h1
    rcases hK with ⟨hk, e2⟩ | ⟨hk, e2⟩
    · rw [e2] at h2
      have h2 : SortA (F.map (gPre k)) _ w2 := h2
      by_cases z1 : sortE F = 0
      · obtain ⟨S1, v1', he1, hp1, ha1, hf1⟩ := sortA_ok z1 h1
        obtain ⟨rfl, rfl⟩ := ret_inj (c' := 0) he1
        by_cases z2 : sortE (F.map (gPre k)) = 0
        · obtain ⟨S2, v2', he2, hp2, ha2, hf2⟩ := sortA_ok z2 h2
          obtain ⟨rfl, rfl⟩ := ret_inj (c' := 0) he2
          have hSS : S2 = S1.map (gPre k) := asc_uniq ha2 (asc_pre ha1 k) (hp2.trans (hp1.map _).symm)
          subst hSS
          refine .inr (.inr (.inr ⟨rfl, hk, rfl, S1, ?_, fun x hx => sortE_small z1 x (hp1.mem_iff.1 hx), hf1.below hb, hf2⟩))
          have hl : F.length ≤ 32 := by
            unfold sortE at z1
            split at z1
            · cases z1
            · omega
          rw [hp1.length_eq]; exact hl
        · have he2 := sortA_err z2 h2
          obtain ⟨rfl, rfl⟩ := ret_inj he2
          rcases sortE_pre_ok F k z1 with q | q
          · exact absurd q z2
          · exact .inr (.inr (.inl ⟨rfl, hk, q⟩))
      · have he1 := sortA_err z1 h1
        obtain ⟨rfl, rfl⟩ := ret_inj he1
        by_cases z6 : sortE F = 6
        · exact .inl ⟨z1, .inl z6⟩
        · have z2 := sortE_pre_ne F k z1 z6
          have he2 := sortA_err z2 h2
          obtain ⟨rfl, rfl⟩ := ret_inj he2
          exact .inl ⟨z1, .inr z2⟩
    · rw [e2] at h2
      obtain ⟨-, rfl⟩ := ret_inj h2
      by_cases z1 : sortE F = 0
      · obtain ⟨S1, v1', he1, -, -, -⟩ := sortA_ok z1 h1
        obtain ⟨rfl, rfl⟩ := ret_inj (c' := 0) he1
        exact .inr (.inl ⟨rfl, hk, rfl⟩)
      · have he1 := sortA_err z1 h1
        obtain ⟨rfl, rfl⟩ := ret_inj he1
        exact .inl ⟨z1, .inr (by decide)⟩
end Go.Proofs.YtdjkemodlbbmaaaDoor
