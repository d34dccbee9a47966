/- Consistent, at any contents: by a map from numbers to contents. -/
import Derived.Test.YtfihnmfbgdjkpaaFpA
import Derived.Test.YtfihnmfbgdjkpaaShelf
import Derived.Maps.Own
import Derived.Maps.Views
import Derived.Maps.OwnOps
namespace Go.Proofs.Ytfihnmfbgdjkpaa
open Go.RowKit Go.Maps Go.ChangeMaps

abbrev HV := Value
/-- An element of a map, as it stands. -/
def heldR (v : Value) : Option (DataW HV × List MemPlace) := some (.held v, [])
theorem law3 : Keyed Try.prog 3 := int_keyed Try.underlying3
theorem zeroB (w : World) : (zeroValue 22).run Try.prog w = .ok (.slice none 0 0) w := by kernel_rfl
def nums (l : List UInt8) : List Int := l.map fun b => (b.toNat : Int)
theorem nums_back (l : List UInt8) : Lib.bytesOf (nums l) = l := by
  unfold Lib.bytesOf nums
  rw [List.map_map]
  have e : ((fun n : Int => UInt8.ofNat n.toNat) ∘ fun b : UInt8 => (b.toNat : Int)) = id := by
    funext b; simp
  rw [e, List.map_id]
theorem bytesIn {w : World} {a : Option Addr} {n c : Nat} {l : List UInt8} (h : BySl w (.slice a n c) l) : Lib.BytesIn w a n (nums l) := fun hn => by
  obtain ⟨a2, c2, h1, h2, h3⟩ := h
  cases h1
  obtain ⟨g, o, h4, h5, h6⟩ := h3 0 hn
  refine ⟨g, o, h4, fun i hi => ?_⟩
  obtain ⟨g2, o2, h7, h8, h9⟩ := h3 i hi
  rw [h4] at h7
  cases h7
  rw [h9]
  simp [nums, hi]
/-- HasPrefix of two slices of bytes. -/
theorem hasPre {w : World} {a b : Option Addr} {n m c d : Nat} {l p : List UInt8} (h1 : BySl w (.slice a n c) l) (h2 : BySl w (.slice b m d) p) :
    Calls Try.prog 48 #[.slice a n c, .slice b m d] w fun e w' => e = .returned (.bool (p.isPrefixOf l)) ∧ w = w' := by
  obtain ⟨a1, c1, e1, k1, -⟩ := id h1
  obtain ⟨a2, c2, e2, k2, -⟩ := id h2
  have hn : n = l.length := by cases e1; rfl
  have hm : m = p.length := by cases e2; rfl
  have hc : c = c1 := by cases e1; rfl
  refine (Try.bytes_HasPrefix_all a b n c m d (nums l) (nums p) w (by simp [nums, hn]) (by simp [nums, hm]) (by omega) (bytesIn h1) (bytesIn h2)).mono fun e w' h => ?_
  rw [nums_back, nums_back] at h
  exact ⟨h.1, h.2.symm⟩
def updM (m : Int → List UInt8) (h : Int) (l : List UInt8) : Int → List UInt8 := fun x => if x = h then l else m x
/-- What Consistent answers: the longest contents so far, number by number. -/
def consM (k : Nat) : List (List UInt8) → (Int → List UInt8) → Bool
  | [], _ => true
  | l :: r, m => if l.length < k then consM k r m else
      if l.length < (m (numK l k)).length then (if l.isPrefixOf (m (numK l k)) then consM k r (updM m (numK l k) (m (numK l k))) else false)
      else (if (m (numK l k)).isPrefixOf l then consM k r (updM m (numK l k) l) else false)
/-- The map in memory. -/
structure MapAt (B n : Nat) (m : Int → List UInt8) (w : World) (D : DataW HV) : Prop where
  own : w.ownsMap Try.prog 3 heldR B n D
  isM : IsMap D
  at' : ∀ h : Int, ∃ v, D.atKey (.int .i64 h) (.held (.slice none 0 0)) = .held v ∧ BySl w v (m h)
theorem MapAt.below {B n : Nat} {m : Int → List UInt8} {w w' : World} {D : DataW HV} (h : MapAt B n m w D) (k : Below w.heap.size w w') : MapAt B n m w' D :=
  ⟨h.own.kept (row := none) ⟨k.os, k.tape, k.output, k.size, fun i hi _ => k.block i hi⟩ (by simp), h.isM, fun x => by obtain ⟨v, h1, h2⟩ := h.at' x; exact ⟨v, h1, h2.below k⟩⟩
theorem mapAt_new (w : World) : MapAt w.heap.size 0 (fun _ => []) (w.alloc (.map #[] 0)) (.map []) :=
  ⟨World.ownsMap_made _ _ _ _, isMap_empty, fun _ => ⟨_, rfl, byS_nil _⟩⟩
theorem cell_map {B : Nat} {w w' : World} (hg : w.grownBy w' (some B)) (hb : ∃ es ck, w.heap[B]? = some (.map es ck)) {g o : Nat} {u : Value} (h : w.cell? ⟨g, o, none⟩ = some u) : w'.cell? ⟨g, o, none⟩ = some u := by
  have hne : g ≠ B := fun e => by
    subst e
    obtain ⟨es, ck, hb⟩ := hb
    simp [World.cell?, hb] at h
  have hlt : g < w.heap.size := by
    rcases Nat.lt_or_ge g w.heap.size with h' | h'
    · exact h'
    · simp [World.cell?, Array.getElem?_eq_none h'] at h
  rw [World.cell?_of_block (a := ⟨g, o, none⟩) (World.grownBy.block hg g hlt (by simpa using hne))]
  exact h
theorem BySl.mapped {B : Nat} {w w' : World} {v : Value} {l : List UInt8} (h : BySl w v l) (hg : w.grownBy w' (some B)) (hb : ∃ es ck, w.heap[B]? = some (.map es ck)) : BySl w' v l := by
  obtain ⟨a, c, rfl, h0, h⟩ := h
  refine ⟨a, c, rfl, h0, fun i hi => ?_⟩
  obtain ⟨g, o, h1, h2, h3⟩ := h i hi
  exact ⟨g, o, h1, Nat.lt_of_lt_of_le h2 (World.grownBy.size hg), cell_map hg hb h3⟩
theorem MapAt.put {B n : Nat} {m : Int → List UInt8} {w w' : World} {D : DataW HV} {h : Int} {v : Value} {l : List UInt8} (hm : MapAt B n m w D) (hown : w'.ownsMap Try.prog 3 heldR B (n + 1) (D.put (.int .i64 h) (.held v))) (hg : w.grownBy w' (some B)) (hv : BySl w v l) : MapAt B (n + 1) (updM m h l) w' (D.put (.int .i64 h) (.held v)) := by
  have hb : ∃ es ck, w.heap[B]? = some (.map es ck) := by obtain ⟨es, ck, hb, -⟩ := hm.own; exact ⟨es, ck, hb⟩
  refine ⟨hown, hm.isM.put _ _, fun x => ?_⟩
  by_cases e : x = h
  · subst e
    refine ⟨v, atKey_put_same hm.isM (show WideAt.IsKeyLit (.int .i64 x) from trivial) _ _, ?_⟩
    unfold updM; rw [if_pos rfl]
    exact hv.mapped hg hb
  · obtain ⟨u, h1, h2⟩ := hm.at' x
    refine ⟨u, ?_, ?_⟩
    · rw [atKey_put_other (fun q => e (by injection q))]; exact h1
    · unfold updM; rw [if_neg e]
      exact h2.mapped hg hb
/-- The contents, in a row of slices. -/
def FilesAt (w : World) (g : Nat) (ls : List (List UInt8)) : Prop := ∀ i (h : i < ls.length), ∃ v, w.cell? ⟨g, i, none⟩ = some v ∧ BySl w v ls[i] ∧ g < w.heap.size
theorem FilesAt.below {w w' : World} {g : Nat} {ls : List (List UInt8)} (h : FilesAt w g ls) (k : Below w.heap.size w w') : FilesAt w' g ls := fun i hi => by
  obtain ⟨v, h1, h2, h3⟩ := h i hi
  exact ⟨v, (k.cell (p := ⟨g, i, none⟩) h3).trans h1, h2.below k, Nat.lt_of_lt_of_le h3 k.size⟩
theorem FilesAt.mapped {B : Nat} {w w' : World} {g : Nat} {ls : List (List UInt8)} (h : FilesAt w g ls) (hg : w.grownBy w' (some B)) (hb : ∃ es ck, w.heap[B]? = some (.map es ck)) : FilesAt w' g ls := fun i hi => by
  obtain ⟨v, h1, h2, h3⟩ := h i hi
  exact ⟨v, cell_map hg hb h1, h2.mapped hg hb, Nat.lt_of_lt_of_le h3 (World.grownBy.size hg)⟩
/-- What the loop keeps. -/
structure ConI (w : World) (g B : Nat) (ls : List (List UInt8)) (i : Nat) (m : Int → List UInt8) (D : DataW HV) (wr : World) : Prop where
  f : FilesAt wr g ls
  m : MapAt B i m wr D
  b : Below w.heap.size w wr
theorem ConI.skip {w wr : World} {g B i : Nat} {ls : List (List UInt8)} {m : Int → List UInt8} {D : DataW HV} (h : ConI w g B ls i m D wr) : ConI w g B ls (i + 1) m D wr := ⟨h.f, ⟨h.m.own.mono (Nat.le_succ _), h.m.isM, h.m.at'⟩, h.b⟩
theorem ConI.put {w wr w' : World} {g B i : Nat} {ls : List (List UInt8)} {m : Int → List UInt8} {D : DataW HV} {x : Int} {v : Value} {l : List UInt8} (h : ConI w g B ls i m D wr) (hB : w.heap.size ≤ B) (hown : w'.ownsMap Try.prog 3 heldR B (i + 1) (D.put (.int .i64 x) (.held v))) (hg : wr.grownBy w' (some B)) (hv : BySl wr v l) : ConI w g B ls (i + 1) (updM m x l) (D.put (.int .i64 x) (.held v)) w' := by
  have hb : ∃ es ck, wr.heap[B]? = some (.map es ck) := by obtain ⟨es, ck, hb, -⟩ := h.m.own; exact ⟨es, ck, hb⟩
  exact ⟨h.f.mapped hg hb, h.m.put hown hg hv, h.b.grown hg h.b.size (fun j hj => by cases hj; exact hB)⟩
theorem cons_drop (k : Nat) (ls : List (List UInt8)) (i : Nat) (h : i < ls.length) (m : Int → List UInt8) : consM k (ls.drop i) m = if (ls[i]).length < k then consM k (ls.drop (i + 1)) m else
      if (ls[i]).length < (m (numK ls[i] k)).length then (if (ls[i]).isPrefixOf (m (numK ls[i] k)) then consM k (ls.drop (i + 1)) (updM m (numK ls[i] k) (m (numK ls[i] k))) else false)
      else (if (m (numK ls[i] k)).isPrefixOf ls[i] then consM k (ls.drop (i + 1)) (updM m (numK ls[i] k) ls[i]) else false) := by
  rw [List.drop_eq_getElem_cons h]; rfl
set_option maxRecDepth 100000 in
set_option linter.unusedSimpArgs false in
set_option maxHeartbeats 8000000 in
theorem cons_any (g N C k : Nat) (ls : List (List UInt8)) (w : World) (hN : ls.length = N) (hNl : N ≤ 100000) (hf : FilesAt w g ls) (hk : 1 ≤ k) (hk2 : k ≤ 64) :
    Calls Try.prog 23 #[.slice (some ⟨g, 0, none⟩) N C, .int .i64 (k : Int)] w fun e w' => e = .returned (.bool (consM k ls (fun _ => []))) ∧ Below w.heap.size w w' := by
  have hmm := @run_makeMap Try.prog
  have hI0 : ConI w g w.heap.size ls 0 (fun _ => []) (.map []) (w.alloc (.map #[] 0)) := ⟨hf.below (below_new _ _), mapAt_new w, below_new _ _⟩
  have H := Lib.hid (And.intro hI0 hN)
  clear hI0 hf hN
  obtain ⟨B, hB⟩ : ∃ B, w.heap.size = B := ⟨_, rfl⟩
  have HB := Lib.hid hB
  go_enter Try.func23, Try.ntmps23
  go_wp2_with fail
  obtain ⟨W0, hW0⟩ : ∃ W0, w.alloc (.map #[] 0) = W0 := ⟨_, rfl⟩
  rw [hW0] at H ⊢
  rw [hB] at H
  clear hW0 hmm hB
  go_loopw [15] (fun iv wr => ∃ (i : Nat) (m : Int → List UInt8) (D : DataW HV), i ≤ N ∧ iv = .int .i64 i ∧ consM k ls (fun _ => []) = consM k (ls.drop i) m ∧ ConI w g B ls i m D wr) (fun iv _ => N - (intOf iv).toNat)
  case atStart => exact ⟨0, _, _, Nat.zero_le _, rfl, rfl, H.out.1⟩
  case round =>
    obtain ⟨i, m, D, hi, rfl, hc, hI⟩ := hrel
    by_cases hlt : i < N
    · have e4 : decide ((i : Int) < (N : Int)) = true := by rw [decide_eq_true_iff]; omega
      have e5 : decide (i < N) = true := decide_eq_true hlt
      have hil : i < ls.length := by have := H.out.2; omega
      obtain ⟨v, cv, hv, -⟩ := hI.f i hil
      have hcs := cons_drop k ls i hil m
      rw [← hc] at hcs
      obtain ⟨l, hl⟩ : ∃ l, ls[i] = l := ⟨_, rfl⟩
      rw [hl] at hv hcs
      obtain ⟨a, c, rfl, hlc⟩ := hv.slice
      have HC := Lib.hid hcs
      have HI := Lib.hid (And.intro hI hv)
      clear hcs hc hI hv hl hil
      by_cases hlk : l.length < k
      · obtain ⟨n, hn⟩ : ∃ n, l.length = n := ⟨_, rfl⟩
        rw [hn] at cv hlk HC
        have HN := Lib.hid hn
        clear hn
        go_wp2_with fail
        refine (number_no a n c k _ (.inr (.inr (by omega)))).mono ?_
        rintro e w' ⟨rfl, rfl⟩
        go_wp2
        go_roundw
        case rel => exact ⟨i + 1, m, D, by omega, by go_num, by rw [HC.out, if_pos hlk], HI.out.1.skip⟩
        case measure => simp [intOf]; omega
      · have hnum := number_yes (.slice a l.length c) l k wr HI.out.2 hk hk2 (by omega)
        obtain ⟨b0, b1⟩ := numK_bd l k
        obtain ⟨x, hx⟩ : ∃ x, numK l k = x := ⟨_, rfl⟩
        rw [hx] at hnum b0 b1 HC
        obtain ⟨u, hat, hu⟩ := HI.out.1.m.at' x
        have hkey : keyOf Try.prog 3 (.int .i64 x) = some (.int .i64 x) := keyOf_int_mk Try.underlying3 (WalkArith.wf_i64 (by omega))
        obtain ⟨u2, ps, hrun, hu2⟩ := HI.out.1.m.own.lookup law3 Try.underlying90 (zeroB _) (zd := .held (.slice none 0 0)) (zp := []) rfl hkey
        have hue : u2 = u := by
          rw [hat] at hu2
          simp only [heldR, Option.some.injEq, Prod.mk.injEq, DataW.held.injEq] at hu2
          exact hu2.1
        subst hue
        obtain ⟨s, hs⟩ : ∃ s, m x = s := ⟨_, rfl⟩
        rw [hs] at hu HC
        obtain ⟨a2, c2, rfl, hlc2⟩ := hu.slice
        have hpre1 := hasPre hu HI.out.2
        have hpre2 := hasPre HI.out.2 hu
        have HU := Lib.hid (And.intro hu (And.intro hat (And.intro hkey (And.intro hpre1 (And.intro hpre2 (And.intro hnum hs))))))
        obtain ⟨n, hn⟩ : ∃ n, l.length = n := ⟨_, rfl⟩
        obtain ⟨q, hq⟩ : ∃ q, s.length = q := ⟨_, rfl⟩
        rw [hn] at cv hlk HC HU HI hlc
        rw [hq] at HC HU hrun hlc2
        clear hu hat hkey hpre1 hpre2 hnum hs hu2 hx hn hq
        go_wp2_with fail
        refine HU.out.2.2.2.2.2.1.mono ?_
        rintro e w' ⟨rfl, rfl⟩
        by_cases hsw : n < q
        · have d1 : decide (n < q) = true := decide_eq_true hsw
          have d2 : decide ((n : Int) < (q : Int)) = true := by rw [decide_eq_true_iff]; omega
          cases hp : l.isPrefixOf s with
          | false =>
            have hP := HU.out.2.2.2.1
            rw [hp] at hP
            have HP := Lib.hid hP
            have hz : consM k ls (fun _ => []) = false := by rw [HC.out, if_neg hlk, if_pos hsw, hp]; rfl
            have HZ := Lib.hid hz
            clear hz hP hp
            go_wp2_with fail
            refine HP.out.mono ?_
            rintro e w' ⟨rfl, rfl⟩
            go_wp2
            go_ret
            exact ⟨by rw [HZ.out]; rfl, HI.out.1.b⟩
          | true =>
            have hP := HU.out.2.2.2.1
            rw [hp] at hP
            have HP := Lib.hid hP
            have hz : consM k ls (fun _ => []) = consM k (ls.drop (i + 1)) (updM m x s) := by rw [HC.out, if_neg hlk, if_pos hsw, hp]; rfl
            have HZ := Lib.hid hz
            clear hz hP hp
            go_wp2_with fail
            refine HP.out.mono ?_
            rintro e w' ⟨rfl, rfl⟩
            go_wp2_with (at_mapUpdate; refine wpList_mapUpdate_own _ rfl _ _ _ 90 rfl 3 22 law3 Try.underlying90 heldR B i D rfl HI.out.1.m.own (by unfold maxLen; omega) _ _ (.int .i64 x) rfl rfl HU.out.2.2.1 (.held (.slice a2 q c2)) [] rfl ?_; intro w1 hown1 hgrow1)
            have HG := Lib.hid (And.intro hown1 hgrow1)
            clear hown1 hgrow1
            go_wp2
            go_roundw
            case rel => exact ⟨i + 1, updM m x s, _, by omega, by go_num, HZ.out, HI.out.1.put (by have := HB.out; omega) HG.out.1 HG.out.2 HU.out.1⟩
            case measure => simp [intOf]; omega
        · have d1 : decide (n < q) = false := decide_eq_false hsw
          have d2 : decide ((n : Int) < (q : Int)) = false := by rw [decide_eq_false_iff_not]; omega
          cases hp : s.isPrefixOf l with
          | false =>
            have hP := HU.out.2.2.2.2.1
            rw [hp] at hP
            have HP := Lib.hid hP
            have hz : consM k ls (fun _ => []) = false := by rw [HC.out, if_neg hlk, if_neg hsw, hp]; rfl
            have HZ := Lib.hid hz
            clear hz hP hp
            go_wp2_with fail
            refine HP.out.mono ?_
            rintro e w' ⟨rfl, rfl⟩
            go_wp2
            go_ret
            exact ⟨by rw [HZ.out]; rfl, HI.out.1.b⟩
          | true =>
            have hP := HU.out.2.2.2.2.1
            rw [hp] at hP
            have HP := Lib.hid hP
            have hz : consM k ls (fun _ => []) = consM k (ls.drop (i + 1)) (updM m x l) := by rw [HC.out, if_neg hlk, if_neg hsw, hp]; rfl
            have HZ := Lib.hid hz
            clear hz hP hp
            go_wp2_with fail
            refine HP.out.mono ?_
            rintro e w' ⟨rfl, rfl⟩
            go_wp2_with (at_mapUpdate; refine wpList_mapUpdate_own _ rfl _ _ _ 90 rfl 3 22 law3 Try.underlying90 heldR B i D rfl HI.out.1.m.own (by unfold maxLen; omega) _ _ (.int .i64 x) rfl rfl HU.out.2.2.1 (.held (.slice a n c)) [] rfl ?_; intro w1 hown1 hgrow1)
            have HG := Lib.hid (And.intro hown1 hgrow1)
            clear hown1 hgrow1
            go_wp2
            go_roundw
            case rel => exact ⟨i + 1, updM m x l, _, by omega, by go_num, HZ.out, HI.out.1.put (by have := HB.out; omega) HG.out.1 HG.out.2 HI.out.2⟩
            case measure => simp [intOf]; omega
    · obtain rfl : i = N := by omega
      have e4 : decide ((i : Int) < (i : Int)) = false := by simp
      have e5 : decide (i < i) = false := by simp
      have hz : consM k ls (fun _ => []) = true := by
        rw [hc, List.drop_of_length_le (by have := H.out.2; omega)]; rfl
      have HZ := Lib.hid (And.intro hz hI.b)
      clear hz hc hI hlt
      go_wp2
      go_ret
      exact ⟨by rw [HZ.out.1]; rfl, HZ.out.2⟩
end Go.Proofs.Ytfihnmfbgdjkpaa
