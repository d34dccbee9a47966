/- A region that draws its order, walked by what holds of each operation's value, whatever has come up before it: each operation is looked at once. -/
import Derived.Orders
import Derived.Test.YtbpboghjgbgjfaaProg
namespace Go.Proofs.Ytbpboghjgbgjfaa
open Go

def updX (x : Nat → Value) (j : Nat) (v : Value) : Nat → Value := fun k => if k = j then v else x k
theorem updX_same (x : Nat → Value) (j : Nat) (v : Value) : updX x j v j = v := if_pos rfl
theorem updX_ne (x : Nat → Value) {j k : Nat} (v : Value) (h : k ≠ j) : updX x j v k = x k := if_neg h
/-- A frame into which the operations' values are put. -/
def chainA (x : Nat → Value) : List (Option Tmp) → Nat → Act → Act
  | [], _, a => a
  | d :: r, i, a => chainA x r (i + 1) (a.put d (x i))
theorem chain_comm (x : Nat → Value) (d : Option Tmp) (v : Value) : ∀ (ds : List (Option Tmp)) (i : Nat) (a : Act), (∀ e ∈ ds, ∀ t, d = some t → e ≠ some t) → (chainA x ds i a).put d v = chainA x ds i (a.put d v)
  | [], _, _, _ => rfl
  | e :: r, i, a, h => by
    show (chainA x r (i + 1) (a.put e (x i))).put d v = chainA x r (i + 1) ((a.put d v).put e (x i))
    rw [chain_comm x d v r (i + 1) _ (fun q hq => h q (by simp [hq])), Act.put_comm a v (x i) (h e (by simp))]
theorem chain_upd (x y : Nat → Value) : ∀ (ds : List (Option Tmp)) (i : Nat) (a : Act), (∀ k, i ≤ k → x k = y k) → chainA x ds i a = chainA y ds i a
  | [], _, _, _ => rfl
  | e :: r, i, a, h => by
    show chainA x r (i + 1) (a.put e (x i)) = chainA y r (i + 1) (a.put e (y i))
    rw [h i (Nat.le_refl _), chain_upd x y r (i + 1) _ (fun k hk => h k (by omega))]
theorem put_put (a : Act) (d : Option Tmp) (u v : Value) : (a.put d u).put d v = a.put d v := by
  cases d with
  | none => rfl
  | some t => simp [Act.put, Array.setIfInBounds_setIfInBounds]
def Apart (ds : List (Option Tmp)) : Prop := ds.Pairwise fun a b => ∀ t, a = some t → b ≠ some t
theorem chain_put (x : Nat → Value) (v : Value) : ∀ (ds : List (Option Tmp)) (i : Nat) (a : Act) (j : Nat) (d : Option Tmp), Apart ds → ds[j]? = some d → (chainA x ds i a).put d v = chainA (updX x (i + j) v) ds i a
  | [], _, _, j, _, _, h => by simp at h
  | e :: r, i, a, 0, d, hp, h => by
    obtain ⟨h1, h2⟩ := List.pairwise_cons.1 hp
    obtain rfl : e = d := by simpa using h
    show (chainA x r (i + 1) (a.put e (x i))).put e v = chainA (updX x i v) r (i + 1) (a.put e (updX x i v i))
    rw [chain_comm x e v r (i + 1) _ h1, put_put, updX_same, chain_upd x (updX x i v) r (i + 1) _ (fun k hk => (updX_ne x v (by omega)).symm)]
  | e :: r, i, a, j + 1, d, hp, h => by
    obtain ⟨h1, h2⟩ := List.pairwise_cons.1 hp
    show (chainA x r (i + 1) (a.put e (x i))).put d v = chainA (updX x (i + (j + 1)) v) r (i + 1) (a.put e (updX x (i + (j + 1)) v i))
    rw [updX_ne x v (show i ≠ i + (j + 1) by omega), chain_put x v r (i + 1) _ j d h2 (by simpa using h), show i + 1 + j = i + (j + 1) by omega]
theorem chain_other (x : Nat → Value) (t : Tmp) : ∀ (ds : List (Option Tmp)) (i : Nat) (a : Act), (∀ e ∈ ds, e ≠ some t) → (chainA x ds i a).eval (.tmp t) = a.eval (.tmp t)
  | [], _, _, _ => rfl
  | e :: r, i, a, h => by
    show (chainA x r (i + 1) (a.put e (x i))).eval (.tmp t) = _
    rw [chain_other x t r (i + 1) _ (fun q hq => h q (by simp [hq]))]
    exact Act.eval_put (fun d hd e2 => h e (by simp) (by rw [hd]; injection e2 with e2; rw [e2]))
theorem size_put (a : Act) (d : Option Tmp) (v : Value) : (a.put d v).tmps.size = a.tmps.size := by cases d <;> simp [Act.put]
theorem chain_eval (x : Nat → Value) (t : Tmp) : ∀ (ds : List (Option Tmp)) (i : Nat) (a : Act) (j : Nat), Apart ds → ds[j]? = some (some t) → t < a.tmps.size → (chainA x ds i a).eval (.tmp t) = x (i + j)
  | [], _, _, j, _, h, _ => by simp at h
  | e :: r, i, a, 0, hp, h, hs => by
    obtain ⟨h1, h2⟩ := List.pairwise_cons.1 hp
    obtain rfl : e = some t := by simpa using h
    show (chainA x r (i + 1) (a.put (some t) (x i))).eval (.tmp t) = x (i + 0)
    rw [chain_other x t r (i + 1) _ (fun q hq => h1 q hq t rfl)]
    simp [Act.eval, Act.put, hs]
  | e :: r, i, a, j + 1, hp, h, hs => by
    obtain ⟨h1, h2⟩ := List.pairwise_cons.1 hp
    show (chainA x r (i + 1) (a.put e (x i))).eval (.tmp t) = x (i + (j + 1))
    rw [chain_eval x t r (i + 1) _ j h2 (by simpa using h) (by rw [size_put]; exact hs), show i + 1 + j = i + (j + 1) by omega]
theorem chain_self (x : Nat → Value) : ∀ (ds : List (Option Tmp)) (i : Nat) (a : Act), (∀ j t, ds[j]? = some (some t) → t < a.tmps.size ∧ x (i + j) = a.tmps.getD t undef) → chainA x ds i a = a
  | [], _, _, _ => rfl
  | e :: r, i, a, h => by
    have he : a.put e (x i) = a := by
      cases e with
      | none => rfl
      | some t =>
        obtain ⟨h1, h2⟩ := h 0 t rfl
        have h3 : x i = a.tmps.getD t undef := h2
        rw [h3]
        show ({ a with tmps := a.tmps.setIfInBounds t (a.tmps.getD t undef) } : Act) = a
        have : a.tmps.setIfInBounds t (a.tmps.getD t undef) = a.tmps := by
          apply Array.ext
          · simp
          · intro q h4 h5
            rw [Array.getElem_setIfInBounds h5]
            split
            · rename_i e; subst e; simp
            · rfl
        rw [this]
    show chainA x r (i + 1) (a.put e (x i)) = a
    rw [he]
    exact chain_self x r (i + 1) a (fun j t hj => by have := h (j + 1) t (by simpa using hj); rwa [show i + (j + 1) = i + 1 + j by omega] at this)

section
variable {P : Program} {ops : Array Oper} {Q : Exit → Act → World → Prop} {md : Region.Mode}
/-- What has come up has its sources come up. -/
def ClosedL (md : Region.Mode) (ops : Array Oper) (L : Array Bool) : Prop := ∀ k o, ops[k]? = some o → L.getD k false = true → ∀ e ∈ o.after, Region.binds md e = true → L.getD e.on false = true
def cntF (n : Nat) (L : Array Bool) : Nat := ((List.range n).filter fun i => !L.getD i false).length
theorem filt_lt {p q : Nat → Bool} {j : Nat} (hq : ∀ i, q i = true → p i = true) (hj : p j = true) (hj2 : q j = false) : ∀ l : List Nat, (l.filter q).length ≤ (l.filter p).length ∧ (j ∈ l → (l.filter q).length < (l.filter p).length)
  | [] => ⟨Nat.le_refl _, fun h => by cases h⟩
  | a :: r => by
    obtain ⟨h1, h2⟩ := filt_lt hq hj hj2 r
    cases hqa : q a with
    | true =>
      have hpa := hq a hqa
      simp only [List.filter_cons, hqa, hpa, if_true, List.length_cons]
      refine ⟨by omega, fun h => ?_⟩
      rcases List.mem_cons.1 h with e | h
      · subst e; rw [hj2] at hqa; cases hqa
      · have := h2 h; omega
    | false =>
      cases hpa : p a with
      | true =>
        simp only [List.filter_cons, hqa, hpa, if_true, Bool.false_eq_true, if_false, List.length_cons]
        exact ⟨by omega, fun _ => by omega⟩
      | false =>
        simp only [List.filter_cons, hqa, hpa, Bool.false_eq_true, if_false]
        refine ⟨h1, fun h => ?_⟩
        rcases List.mem_cons.1 h with e | h
        · subst e; rw [hj] at hpa; cases hpa
        · exact h2 h
theorem getD_two {L : Array Bool} {i : Nat} (h : i < L.size) : L.getD i true = L.getD i false := by simp [h]
theorem cnt_set {n j : Nat} {L : Array Bool} (hn : L.size = n) (hj : j < n) (h0 : L.getD j false = false) : cntF n (L.setIfInBounds j true) < cntF n L := by
  refine (filt_lt (p := fun i => !L.getD i false) (q := fun i => !(L.setIfInBounds j true).getD i false) (j := j) (fun i hi => ?_) (by rw [h0]; rfl) ?_ (List.range n)).2 (by simpa using hj)
  · by_cases e : i = j
    · subst e; rw [h0]; rfl
    · rwa [getD_set_ne false (fun q => e q.symm)] at hi
  · simp [hn, hj]
theorem all_of_cnt {n : Nat} {L : Array Bool} (h : cntF n L = 0) : ∀ k, k < n → L.getD k false = true := fun k hk => by
  unfold cntF at h
  have h2 := List.eq_nil_of_length_eq_zero h
  rw [List.filter_eq_nil_iff] at h2
  have := h2 k (by simpa using hk)
  simpa using this
theorem ready_nil {n : Nat} {L : Array Bool} (hn : ops.size = n) (hs : L.size = n) (h : ∀ k, k < n → L.getD k false = true) : Region.ready md ops L = [] := by
  unfold Region.ready
  rw [List.filter_eq_nil_iff]
  intro i hi
  have hi2 : i < n := by rw [List.mem_range, hn] at hi; exact hi
  rw [getD_two (by rw [hs]; exact hi2), h i hi2]
  simp
theorem all_of_ready {n : Nat} {L : Array Bool} (hn : ops.size = n) (hs : L.size = n) (hTop : ∀ j o, ops[j]? = some o → ∀ e ∈ o.after, Region.binds md e = true → e.on < j) (h : Region.ready md ops L = []) : ∀ k, k < n → L.getD k false = true := fun k => by
  induction k using Nat.strongRecOn with
  | ind k ih =>
    intro hk
    cases hL : L.getD k false with
    | true => rfl
    | false =>
      have hm : k ∈ Region.ready md ops L := by
        rw [mem_ready]
        have ho : ops[k]? = some (ops[k]'(by rw [hn]; exact hk)) := Array.getElem?_eq_getElem _
        exact ⟨by rw [getD_two (by rw [hs]; exact hk)]; exact hL, _, ho, fun e he hb => ih e.on (hTop k _ ho e he hb) (Nat.lt_trans (hTop k _ ho e he hb) hk)⟩
      rw [h] at hm
      cases hm
/-- The walk: each operation's value v is known by φ j v, which stands in every later world (R); the operations of 'jump' are left to the caller, with all that follows them. -/
theorem wpAny_stage (F : (Nat → Value) → Act) (φ : Nat → Value → World → Prop) (R : World → World → Prop) (w0 : World) (B jump : Nat → Prop) (n : Nat)
    (hn : ops.size = n) (hg : ∀ (j : Nat) (o : Oper), ops[j]? = some o → o.guard = none)
    (hTop : ∀ j o, ops[j]? = some o → ∀ e ∈ o.after, Region.binds md e = true → e.on < j)
    (hRt : ∀ a b c, R a b → R b c → R a c) (hmono : ∀ j v w w', R w w' → φ j v w → φ j v w')
    (hput : ∀ x j o v, ops[j]? = some o → (F x).put o.dst v = F (updX x j v))
    (hstep : ∀ j o x w, ops[j]? = some o → ¬ B j → ¬ jump j → R w0 w → (∀ e ∈ o.after, Region.binds md e = true → φ e.on (x e.on) w) →
      ∀ K : Act → World → Prop, (∀ v w', R w w' → φ j v w' → K ((F x).put o.dst v) w') → o.wp P (F x) w K Q)
    (hjump : ∀ j o fuel L x w, ops[j]? = some o → jump j → L.size = n → ClosedL md ops L → L.getD j false = true → (∀ k, B k → L.getD k false = true) → R w0 w → (∀ e ∈ o.after, Region.binds md e = true → φ e.on (x e.on) w) →
      (∀ k, k < n → k ≠ j → L.getD k false = true → φ k (x k) w) → cntF n L ≤ fuel → o.wp P (F x) w (wpAny P md ops Q fuel L) Q)
    (hend : ∀ x w, R w0 w → (∀ k, k < n → φ k (x k) w) → Q .normal (F x) w) :
    ∀ fuel L x w, L.size = n → ClosedL md ops L → (∀ k, B k → L.getD k false = true) → R w0 w → (∀ k, k < n → L.getD k false = true → φ k (x k) w) → cntF n L ≤ fuel → wpAny P md ops Q fuel L (F x) w
  | 0, L, x, w, hs, _, _, hR, hφ, hc => by
    have hall := all_of_cnt (n := n) (L := L) (by omega)
    exact ⟨ready_nil hn hs hall, hend x w hR (fun k hk => hφ k hk (hall k hk))⟩
  | fuel + 1, L, x, w, hs, hcl, hB, hR, hφ, hc => by
    refine ⟨fun h0 => hend x w hR (fun k hk => hφ k hk (all_of_ready hn hs hTop h0 k hk)), fun i hi => ?_⟩
    obtain ⟨h0, o, ho, hd⟩ := mem_ready.1 hi
    have hin : i < n := by rw [← hn]; exact (Array.getElem?_eq_some_iff.1 ho).1
    rw [getD_two (by rw [hs]; exact hin)] at h0
    have hsz : (L.setIfInBounds i true).size = n := by simpa using hs
    have hcnt : cntF n (L.setIfInBounds i true) ≤ fuel := by have := cnt_set hs hin h0; omega
    have hself : (L.setIfInBounds i true).getD i false = true := by simp [hs, hin]
    have hcl' : ClosedL md ops (L.setIfInBounds i true) := fun k ok hk hLk e he hb => by
      by_cases ek : k = i
      · subst ek
        rw [ho] at hk
        cases hk
        exact getD_set_true (hd e he hb)
      · rw [getD_set_ne false (fun q => ek q.symm)] at hLk
        exact getD_set_true (hcl k ok hk hLk e he hb)
    have hB' : ∀ k, B k → (L.setIfInBounds i true).getD k false = true := fun k hk => getD_set_true (hB k hk)
    have hφd : ∀ e ∈ o.after, Region.binds md e = true → φ e.on (x e.on) w := fun e he hb => hφ e.on (Nat.lt_trans (hTop i o ho e he hb) hin) (hd e he hb)
    have hw : Region.wanted o (yielded ops (F x).tmps) = true := by simp [Region.wanted, hg i o ho]
    unfold wpOp
    simp only [ho, hw, if_true]
    left
    by_cases hj : jump i
    · exact hjump i o fuel _ x w ho hj hsz hcl' hself hB' hR hφd (fun k hk hne hLk => hφ k hk (by rwa [getD_set_ne false (fun q => hne q.symm)] at hLk)) hcnt
    · refine hstep i o x w ho (fun hb => by rw [hB i hb] at h0; cases h0) hj hR hφd _ (fun v w' hRw hv => ?_)
      rw [hput x i o v ho]
      refine wpAny_stage F φ R w0 B jump n hn hg hTop hRt hmono hput hstep hjump hend fuel _ _ w' hsz hcl' hB' (hRt _ _ _ hR hRw) (fun k hk hLk => ?_) hcnt
      by_cases ek : k = i
      · subst ek
        rw [updX_same]; exact hv
      · rw [updX_ne x v ek]
        rw [getD_set_ne false (fun q => ek q.symm)] at hLk
        exact hmono k _ _ _ hRw (hφ k hk hLk)
end
end Go.Proofs.Ytbpboghjgbgjfaa
