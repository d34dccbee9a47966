/- The contract of pair. -/
import Derived.Test.YtdjkemodlbbmaaaDoorKvF
namespace Go.Proofs.YtdjkemodlbbmaaaDoor
open Go.RowKit

abbrev PairT := (List UInt8 × List UInt8) × List UInt8
def q34 (l : List UInt8) : Bool := match l with
  | [] => false
  | c :: _ => c == 34
def valR (l : List UInt8) : Option (List UInt8 × List UInt8) := if q34 l then quotR l else plainR l
/-- A pair read at the beginning. -/
def pairR (l : List UInt8) : Option PairT := match frm 61 l with
  | [] => none
  | _ :: rest => if hasB 32 (untl 61 l) then none else match valR rest with
    | none => none
    | some (t, u) => some ((untl 61 l, t), u)
def OutP (r : Option PairT) (e : Ending) : Prop := match r with
  | none => ∃ a b c : ByteArray, e = .returned (.tuple #[.agg #[.string a, .string b], .string c, .bool false])
  | some ((n, t), u) => e = .returned (.tuple #[.agg #[.string ⟨n.toArray⟩, .string ⟨t.toArray⟩], .string ⟨u.toArray⟩, .bool true])
theorem eg_pv : ∀ args w, (callFunc 48 args).run Tryd.prog w = .ok (.enter 48 args) w := enters_of Tryd.func48 (by kernel_rfl) rfl
theorem eg_qv : ∀ args w, (callFunc 49 args).run Tryd.prog w = .ok (.enter 49 args) w := enters_of Tryd.func49 (by kernel_rfl) rfl
theorem box2 {w : World} {b : Nat} {x y : Value} {T : TypeId} (h : w.heap[b]? = some (.cells #[x, y] T (0, 0))) :
    w.cell? ⟨b, 0, none⟩ = some x ∧ w.cell? ⟨b, 1, none⟩ = some y ∧ w.frozen? ⟨b, 0, none⟩ = false ∧ w.frozen? ⟨b, 1, none⟩ = false :=
  ⟨by rw [Lib.cell_of_heap h]; rfl, by rw [Lib.cell_of_heap h]; rfl, Lib.frozen_of_heap h 0, Lib.frozen_of_heap h 1⟩
theorem set2 {w : World} {b : Nat} {x y : Value} {T : TypeId} (h : w.heap[b]? = some (.cells #[x, y] T (0, 0))) (u v : Value) :
    ((w.setCell ⟨b, 0, none⟩ u).setCell ⟨b, 1, none⟩ v).heap[b]? = some (.cells #[u, v] T (0, 0)) := by
  simp [World.setCell, Array.getElem?_modify, h]
set_option maxRecDepth 100000 in
set_option maxHeartbeats 2000000 in
theorem pair_none (s : ByteArray) (w : World) (hs : s.size ≤ 1000000) (h : frm 61 s.data.toList = []) :
    Calls Tryd.prog 31 #[.string s] w fun e w' => OutP none e ∧ Below w.heap.size w w' := by
  have hC := fun (W : World) => cut_any s 61 W (by unfold maxLen; omega)
  unfold cutV at hC
  obtain ⟨v, hv⟩ : ∃ v, untl 61 s.data.toList = v := ⟨_, rfl⟩
  rw [hv, h] at hC
  have HC := Lib.hid hC
  clear hC hv h
  go_enter Tryd.func31, Tryd.ntmps31
  go_wp2_with fail
  refine (HC.out _).mono ?_
  rintro e w1 ⟨rfl, hb1⟩
  have hc1 : w1.heap[w.heap.size]? = some (.cells #[.string ⟨#[]⟩, .string ⟨#[]⟩] 31 (0, 0)) := by
    rw [hb1.block _ (by simp)]; exact heap_alloc_new w _
  obtain ⟨c0, c1, f0, f1⟩ := box2 hc1
  have h2 := set2 hc1 (.string ⟨#[]⟩) (.string ⟨#[]⟩)
  have hbW : Below w.heap.size w ((w1.setCell ⟨w.heap.size, 0, none⟩ (.string ⟨#[]⟩)).setCell ⟨w.heap.size, 1, none⟩ (.string ⟨#[]⟩)) :=
    ((bel_trans (bel_new w _) hb1).setCell (p := ⟨w.heap.size, 0, none⟩) (Nat.le_refl _) _).setCell (p := ⟨w.heap.size, 1, none⟩) (Nat.le_refl _) _
  have HB := Lib.hid (And.intro hbW h2)
  clear hb1 hc1 h2 hbW
  go_wp2
  obtain ⟨W, hW⟩ : ∃ W, (w1.setCell ⟨w.heap.size, 0, none⟩ (.string ⟨#[]⟩)).setCell ⟨w.heap.size, 1, none⟩ (.string ⟨#[]⟩) = W := ⟨_, rfl⟩
  rw [hW] at HB ⊢
  obtain ⟨d0, d1, -, -⟩ := box2 HB.out.2
  exact bodyPost_ret (v := .tuple #[.agg #[.string ⟨#[]⟩, .string ⟨#[]⟩], .string ⟨#[]⟩, .bool false]) (by simp [results, Tryd.results31, go_sem, d0, d1]) rfl ⟨⟨_, _, _, rfl⟩, HB.out.1⟩
theorem pre34 (l : List UInt8) : Lib.hasPrefix l [34] = q34 l := by
  cases l with
  | nil => rfl
  | cons c r =>
    show ((34 == c) && List.isPrefixOf [] r) = (c == 34)
    rw [show List.isPrefixOf [] r = true by cases r <;> rfl, Bool.and_true, Bool.eq_iff_iff, beq_iff_eq, beq_iff_eq]
    exact ⟨fun h => h.symm, fun h => h.symm⟩
theorem valR_q {l : List UInt8} (h : q34 l = true) : valR l = quotR l ∧ 1 ≤ l.length := by
  cases l with
  | nil => cases h
  | cons c r => exact ⟨by unfold valR; rw [if_pos h], by simp⟩
theorem valR_p {l : List UInt8} (h : q34 l = false) : valR l = plainR l := by
  unfold valR; rw [if_neg (by rw [h]; simp)]
set_option maxRecDepth 100000 in
set_option maxHeartbeats 2000000 in
theorem pair_blank (s : ByteArray) (w : World) (hs : s.size ≤ 1000000) (c : UInt8) (r : List UInt8) (h : frm 61 s.data.toList = c :: r) (h2 : hasB 32 (untl 61 s.data.toList) = true) :
    Calls Tryd.prog 31 #[.string s] w fun e w' => OutP none e ∧ Below w.heap.size w w' := by
  have hC := fun (W : World) => cut_any s 61 W (by unfold maxLen; omega)
  unfold cutV at hC
  obtain ⟨v, hv⟩ : ∃ v, untl 61 s.data.toList = v := ⟨_, rfl⟩
  rw [hv, h] at hC
  rw [hv] at h2
  have hK : ∀ W, Calls Tryd.prog 47 #[.string ⟨v.toArray⟩, .string ⟨#[32]⟩] W fun e w' => e = .returned (.bool true) ∧ W = w' := fun W => by
    have := contains_any ⟨v.toArray⟩ 32 W
    rw [show (⟨v.toArray⟩ : ByteArray).data.toList = v from rfl, h2] at this
    exact this.mono fun _ _ h => ⟨h.1, h.2.symm⟩
  have HC := Lib.hid hC
  have HK := Lib.hid hK
  clear hC hv h hK h2
  go_enter Tryd.func31, Tryd.ntmps31
  go_wp2_with fail
  refine (HC.out _).mono ?_
  rintro e w1 ⟨rfl, hb1⟩
  have hc1 : w1.heap[w.heap.size]? = some (.cells #[.string ⟨#[]⟩, .string ⟨#[]⟩] 31 (0, 0)) := by
    rw [hb1.block _ (by simp)]; exact heap_alloc_new w _
  obtain ⟨c0, c1, f0, f1⟩ := box2 hc1
  have h2 := set2 hc1 (.string ⟨#[]⟩) (.string ⟨#[]⟩)
  have hbW : Below w.heap.size w ((w1.setCell ⟨w.heap.size, 0, none⟩ (.string ⟨#[]⟩)).setCell ⟨w.heap.size, 1, none⟩ (.string ⟨#[]⟩)) :=
    ((bel_trans (bel_new w _) hb1).setCell (p := ⟨w.heap.size, 0, none⟩) (Nat.le_refl _) _).setCell (p := ⟨w.heap.size, 1, none⟩) (Nat.le_refl _) _
  have HB := Lib.hid (And.intro hbW h2)
  clear hb1 hc1 h2 hbW
  go_wp2_with (go_at_call 47; refine (HK.out _).mono ?_; rintro e w2 ⟨rfl, rfl⟩)
  obtain ⟨W, hW⟩ : ∃ W, (w1.setCell ⟨w.heap.size, 0, none⟩ (.string ⟨#[]⟩)).setCell ⟨w.heap.size, 1, none⟩ (.string ⟨#[]⟩) = W := ⟨_, rfl⟩
  rw [hW] at HB ⊢
  obtain ⟨d0, d1, -, -⟩ := box2 HB.out.2
  exact bodyPost_ret (v := .tuple #[.agg #[.string ⟨#[]⟩, .string ⟨#[]⟩], .string ⟨#[]⟩, .bool false]) (by simp [results, Tryd.results31, go_sem, d0, d1]) rfl ⟨⟨_, _, _, rfl⟩, HB.out.1⟩
/-- What is handed back of a value. -/
def OutB (ok : Bool) (Q : ByteArray → ByteArray → Prop) (e : Ending) : Prop := ∃ a b : ByteArray, e = .returned (.tuple #[.string a, .string b, .bool ok]) ∧ Q a b
theorem outS_b {r : Option (List UInt8 × List UInt8)} {e : Ending} (h : OutS r e) : OutB r.isSome (fun a b => ∀ t u, r = some (t, u) → a = ⟨t.toArray⟩ ∧ b = ⟨u.toArray⟩) e := by
  cases r with
  | none => obtain ⟨a, b, h⟩ := h; exact ⟨a, b, h, fun _ _ h => by cases h⟩
  | some p => exact ⟨_, _, h, fun t u h => by cases h; exact ⟨rfl, rfl⟩⟩
set_option maxRecDepth 100000 in
set_option maxHeartbeats 4000000 in
theorem pair_val (s : ByteArray) (w : World) (hs : s.size ≤ 1000000) (c : UInt8) (r : List UInt8) (h : frm 61 s.data.toList = c :: r) (h2 : hasB 32 (untl 61 s.data.toList) = false) :
    Calls Tryd.prog 31 #[.string s] w fun e w' => (∃ a b : ByteArray, e = .returned (.tuple #[.agg #[.string ⟨(untl 61 s.data.toList).toArray⟩, .string a], .string b, .bool (valR r).isSome]) ∧ ∀ t u, valR r = some (t, u) → a = ⟨t.toArray⟩ ∧ b = ⟨u.toArray⟩) ∧ Below w.heap.size w w' := by
  have hC := fun (W : World) => cut_any s 61 W (by unfold maxLen; omega)
  unfold cutV at hC
  have hlen := frm_len 61 s.data.toList
  obtain ⟨v, hv⟩ : ∃ v, untl 61 s.data.toList = v := ⟨_, rfl⟩
  rw [hv, h, size_b] at hlen
  simp only [List.length_cons] at hlen
  rw [hv, h, show (c :: r).drop 1 = r from rfl] at hC
  rw [hv] at h2 ⊢
  have hK : ∀ W, Calls Tryd.prog 47 #[.string ⟨v.toArray⟩, .string ⟨#[32]⟩] W fun e w' => e = .returned (.bool false) ∧ W = w' := fun W => by
    have := contains_any ⟨v.toArray⟩ 32 W
    rw [show (⟨v.toArray⟩ : ByteArray).data.toList = v from rfl, h2] at this
    exact this.mono fun _ _ h => ⟨h.1, h.2.symm⟩
  have hrs : (⟨r.toArray⟩ : ByteArray).size ≤ 1000000 := by show r.length ≤ _; omega
  have HC := Lib.hid hC
  have HK := Lib.hid hK
  obtain ⟨R, hR⟩ : ∃ R, valR r = R := ⟨_, rfl⟩
  rw [hR]
  obtain ⟨ok, hok⟩ : ∃ ok, R.isSome = ok := ⟨_, rfl⟩
  cases hq : q34 r
  all_goals
    have hP : ∀ W, Calls Tryd.prog 40 #[.string ⟨r.toArray⟩, .string ⟨#[34]⟩] W fun e w' => e = .returned (.bool (q34 r)) ∧ W = w' := fun W => by
      have := Tryd.strings_HasPrefix ⟨r.toArray⟩ ⟨#[34]⟩ W
      rw [show (⟨r.toArray⟩ : ByteArray).data.toList = r from rfl, show (⟨#[34]⟩ : ByteArray).data.toList = [34] from rfl, pre34] at this
      exact this.mono fun _ _ h => ⟨h.1, h.2.symm⟩
    rw [hq] at hP
    first
      | (have hV : ∀ W, Calls Tryd.prog 48 #[.string ⟨r.toArray⟩] W fun e w' => OutB ok (fun a b => ∀ t u, R = some (t, u) → a = ⟨t.toArray⟩ ∧ b = ⟨u.toArray⟩) e ∧ Below W.heap.size W w' := fun W => by
          have hx := plain_any ⟨r.toArray⟩ W hrs
          rw [show plainR (⟨r.toArray⟩ : ByteArray).data.toList = R by rw [← hR, valR_p hq]] at hx
          exact hx.mono fun e w' h => ⟨by rw [← hok]; exact outS_b h.1, h.2⟩
         have HV := Lib.hid hV)
      | (have hV : ∀ W, Calls Tryd.prog 49 #[.string ⟨r.toArray⟩] W fun e w' => OutB ok (fun a b => ∀ t u, R = some (t, u) → a = ⟨t.toArray⟩ ∧ b = ⟨u.toArray⟩) e ∧ Below W.heap.size W w' := fun W => by
          have hx := quot_any ⟨r.toArray⟩ W (valR_q hq).2 hrs
          rw [show quotR (⟨r.toArray⟩ : ByteArray).data.toList = R by rw [← hR, (valR_q hq).1]] at hx
          exact hx.mono fun e w' h => ⟨by rw [← hok]; exact outS_b h.1, h.2⟩
         have HV := Lib.hid hV)
    have HP := Lib.hid hP
    have HO := Lib.hid hok
    have ev := eg_pv
    have eq := eg_qv
    clear hP hV hC hK hv h h2 hR hok hq hrs hlen
    go_enter Tryd.func31, Tryd.ntmps31
    go_wp2_with fail
    refine (HC.out _).mono ?_
    rintro e w1 ⟨rfl, hb1⟩
    have hc1 : w1.heap[w.heap.size]? = some (.cells #[.string ⟨#[]⟩, .string ⟨#[]⟩] 31 (0, 0)) := by
      rw [hb1.block _ (by simp)]; exact heap_alloc_new w _
    have HB := Lib.hid (And.intro hb1 hc1)
    clear hb1 hc1
    go_wp2_with (go_at_call 47; refine (HK.out _).mono ?_; rintro e w2 ⟨rfl, rfl⟩)
    refine (HP.out _).mono ?_
    rintro e w2 ⟨rfl, rfl⟩
    go_wp2_with fail
    refine (HV.out _).mono ?_
    rintro e w3 ⟨⟨a, b, rfl, hab⟩, hb3⟩
    have hc3 : w3.heap[w.heap.size]? = some (.cells #[.string ⟨#[]⟩, .string ⟨#[]⟩] 31 (0, 0)) := by
      rw [hb3.block _ (Array.getElem?_eq_some_iff.1 HB.out.2).1]; exact HB.out.2
    obtain ⟨c0, c1, f0, f1⟩ := box2 hc3
    have h2 := set2 hc3 (.string ⟨v.toArray⟩) (.string a)
    have hbW : Below w.heap.size w ((w3.setCell ⟨w.heap.size, 0, none⟩ (.string ⟨v.toArray⟩)).setCell ⟨w.heap.size, 1, none⟩ (.string a)) :=
      ((bel_trans (bel_trans (bel_new w _) HB.out.1) hb3).setCell (p := ⟨w.heap.size, 0, none⟩) (Nat.le_refl _) _).setCell (p := ⟨w.heap.size, 1, none⟩) (Nat.le_refl _) _
    have HBB := Lib.hid (And.intro hbW (And.intro h2 hab))
    clear hb3 hc3 h2 hbW hab
    go_wp2
    obtain ⟨W, hW⟩ : ∃ W, (w3.setCell ⟨w.heap.size, 0, none⟩ (.string ⟨v.toArray⟩)).setCell ⟨w.heap.size, 1, none⟩ (.string a) = W := ⟨_, rfl⟩
    rw [hW] at HBB ⊢
    obtain ⟨d0, d1, -, -⟩ := box2 HBB.out.2.1
    exact bodyPost_ret (v := .tuple #[.agg #[.string ⟨v.toArray⟩, .string a], .string b, .bool ok]) (by simp [results, Tryd.results31, go_sem, d0, d1]) rfl ⟨⟨a, b, by rw [HO.out], HBB.out.2.2⟩, HBB.out.1⟩
theorem pair_any (s : ByteArray) (w : World) (hs : s.size ≤ 1000000) :
    Calls Tryd.prog 31 #[.string s] w fun e w' => OutP (pairR s.data.toList) e ∧ Below w.heap.size w w' := by
  cases hf : frm 61 s.data.toList with
  | nil =>
    rw [show pairR s.data.toList = none by unfold pairR; rw [hf]]
    exact pair_none s w hs hf
  | cons c r =>
    cases hb : hasB 32 (untl 61 s.data.toList) with
    | true =>
      rw [show pairR s.data.toList = none by unfold pairR; rw [hf]; simp only []; rw [if_pos hb]]
      exact pair_blank s w hs c r hf hb
    | false =>
      have h := pair_val s w hs c r hf hb
      have e : pairR s.data.toList = match valR r with
        | none => none
        | some (t, u) => some ((untl 61 s.data.toList, t), u) := by unfold pairR; rw [hf]; simp only []; rw [if_neg (by rw [hb]; simp)]
      rw [e]
      refine h.mono fun e w' => ?_
      rintro ⟨⟨a, b, he, hab⟩, hbl⟩
      refine ⟨?_, hbl⟩
      cases hv : valR r with
      | none =>
        rw [hv] at he
        exact ⟨_, _, _, he⟩
      | some p =>
        obtain ⟨t, u⟩ := p
        obtain ⟨rfl, rfl⟩ := hab t u hv
        rw [hv] at he
        exact he
end Go.Proofs.YtdjkemodlbbmaaaDoor
