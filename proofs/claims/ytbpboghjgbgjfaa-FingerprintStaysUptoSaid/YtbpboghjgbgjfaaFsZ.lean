/- slices.DeleteFunc at names and files where one element goes. -/
import Derived.Test.YtbpboghjgbgjfaaFsO
import Derived.Deep.AppendSrc
namespace Go.Proofs.Ytbpboghjgbgjfaa
open Go.RowKit

/-- m elements behind place k moved down by one. -/
def shiftL {α : Type} (L : List α) (k : Nat) : Nat → List α
  | 0 => L
  | m + 1 => if h : k + m + 1 < L.length then (shiftL L k m).set (k + m) L[k + m + 1] else shiftL L k m
theorem shiftL_len {α : Type} (L : List α) (k : Nat) : ∀ m, (shiftL L k m).length = L.length
  | 0 => rfl
  | m + 1 => by unfold shiftL; split; rw [List.length_set]; exact shiftL_len L k m; exact shiftL_len L k m
theorem shiftL_get {α : Type} (L : List α) (k : Nat) : ∀ m, k + m < L.length → ∀ t, (shiftL L k m)[t]? = if k ≤ t ∧ t < k + m then L[t + 1]? else L[t]?
  | 0, _, t => by rw [if_neg (by omega)]; rfl
  | m + 1, h, t => by
    unfold shiftL
    rw [dif_pos (by omega), List.getElem?_set]
    by_cases e : k + m = t
    · rw [if_pos e, if_pos (by rw [shiftL_len]; omega), if_pos (by omega), ← e, List.getElem?_eq_getElem]
    · rw [if_neg e, shiftL_get L k m (by omega) t]
      by_cases q : k ≤ t ∧ t < k + m
      · rw [if_pos q, if_pos (by omega)]
      · rw [if_neg q, if_neg (by omega)]
theorem shiftL_end {α : Type} (L : List α) (k : Nat) (h : k < L.length) : (shiftL L k (L.length - 1 - k)).take (L.length - 1) = L.eraseIdx k := by
  apply List.ext_getElem?
  intro t
  rw [List.getElem?_take, List.getElem?_eraseIdx]
  by_cases ht : t < L.length - 1
  · rw [if_pos ht, shiftL_get L k _ (by omega)]
    by_cases hk : t < k
    · rw [if_neg (by omega), if_pos hk]
    · rw [if_pos (by omega), if_neg hk]
  · rw [if_neg ht]
    split
    · omega
    · rw [List.getElem?_eq_none (by omega)]

def TestWN (g : FuncId) (lb : Array Value) (p : NameV → Bool) (L : List NameV) (row : Option Nat) (w : World) : Prop :=
  ∀ i (h : i < L.length) W, w.grownBy W row → Calls Try.prog g (#[.agg #[.string L[i].1, .int .i64 L[i].2]] ++ lb) W fun e w' => e = .returned (.bool (p L[i])) ∧ Below W.heap.size W w'

theorem encN_setAll : ∀ {L : List NameV} {i : Nat} (_ : i < L.length) (x : NameV), ((encN L).set (i * 2) (.string x.1)).set (i * 2 + 1) (.int .i64 x.2) = encN (L.set i x)
  | p :: r, 0, _, x => rfl
  | p :: r, i + 1, h, x => by
    have ih := encN_setAll (L := r) (i := i) (by simpa using h) x
    rw [show (i + 1) * 2 = i * 2 + 1 + 1 by omega]
    simp only [encN, List.set_cons_succ, ih]
theorem encN_take : ∀ (L : List NameV) (m : Nat), (encN L).take (m * 2) = encN (L.take m)
  | [], m => by simp [encN]
  | p :: r, 0 => by simp [encN]
  | p :: r, m + 1 => by
    rw [show (m + 1) * 2 = m * 2 + 1 + 1 by omega]
    simp only [encN, List.take_succ_cons, encN_take r m]
/-- A row cut short. -/
theorem row_short {base : Nat} {e : TypeId} {size : Nat} {g n cap m : Nat} {xs : List Value} {w : World} (h : w.ownsRow base e size (.slice (some ⟨g, 0, none⟩) n cap) n xs) (hm : m ≤ n) : w.ownsRow base e size (.slice (some ⟨g, 0, none⟩) m cap) m (xs.take (m * size)) := by
  refine ⟨?_, ?_⟩
  · rw [List.length_take, h.1]
    exact Nat.min_eq_left (Nat.mul_le_mul_right _ hm)
  · rcases h.2 with ⟨q, -⟩ | ⟨g', cap', cur, q1, q2, q3, q4, q5, q6, q7⟩
    · cases q
    · cases q1
      refine .inr ⟨g, cap, cur, rfl, q2, q3, by omega, q5, q6, ?_⟩
      rw [← q7, List.take_take, Nat.min_eq_left (Nat.mul_le_mul_right _ hm)]
theorem zeroCells_one (Z : Array Value) : Builtin.zeroCells Z 1 = Z := by
  unfold Builtin.zeroCells
  apply Array.ext
  · rw [Array.size_map, Array.size_range, Nat.one_mul]
  · intro i h1 h2
    rw [Array.getElem_map, Array.getElem_range, Nat.mod_eq_of_lt h2]
    exact getElem!_pos Z i h2
theorem run_clear_one (w : World) (t e ty : TypeId) (z : Value) (zs : List Value) (ht : Try.prog.underlying t = some (.slice e)) (hv : ∀ w, (zeroValue e).run Try.prog w = .ok z w) (hz : z.cells.toList = zs) (h1 : ∀ v ∈ zs, v.oneCell' = true) (b o c : Nat)
    (hc : ∀ j, j < zs.length → (w.cell? ⟨b, o + j, none⟩).isSome = true) (hf : ∀ j, j < zs.length → w.frozen? ⟨b, o + j, none⟩ = false) :
    (Builtin.clear_ #[t] ty #[.slice (some ⟨b, o, none⟩) 1 c]).run Try.prog w = .ok (.tuple #[]) (w.setCells b o zs) := by
  have hst := run_storeCells_cells (P := Try.prog) b o zs 0 w (by simpa using hc) (by simpa using hf) h1
  simp only [Nat.add_zero] at hst
  have hzc : (Builtin.zeroCells z.cells 1).toList = zs := by rw [zeroCells_one, hz]
  simp [Builtin.clear_, run_underlying ht, hv, hzc, hst]
theorem zeroN (w : World) : (zeroValue 73).run Try.prog w = .ok (.agg #[.string ⟨#[]⟩, .int .i64 0]) w := by
  obtain ⟨i, hi, hz, -, -⟩ := info_parts infoN
  simp [zeroValue, typeInfo, hi, hz]
/-- A row's cells, moved on by a frame that spares its block. -/
theorem gb_trans {a b c : World} {r : Option Nat} (h : a.grownBy b r) (k : b.grownBy c r) : a.grownBy c r :=
  ⟨(World.grownBy.os k).trans (World.grownBy.os h), (World.grownBy.tape k).trans (World.grownBy.tape h), (World.grownBy.output k).trans (World.grownBy.output h), Nat.le_trans (World.grownBy.size h) (World.grownBy.size k), fun i hi hn => (World.grownBy.block k i (Nat.lt_of_lt_of_le hi (World.grownBy.size h)) hn).trans (World.grownBy.block h i hi hn)⟩
theorem gb_below {a b c : World} {r : Option Nat} (h : a.grownBy b r) (k : Below b.heap.size b c) : a.grownBy c r :=
  gb_trans h ⟨k.os, k.tape, k.output, k.size, fun i hi _ => k.block i hi⟩
theorem gb_refl (a : World) (r : Option Nat) : a.grownBy a r := ⟨rfl, rfl, rfl, Nat.le_refl _, fun _ _ _ => rfl⟩
structure DelI (base g cap n : Nat) (M : List NameV) (w wr : World) : Prop where
  r : NmR base wr (.slice (some ⟨g, 0, none⟩) n cap) M
  l : M.length = n
  f : w.grownBy wr (some g)
  lt : g < wr.heap.size
theorem DelI.below {base g cap n : Nat} {M : List NameV} {w wr wd : World} (h : DelI base g cap n M w wr) (k : Below wr.heap.size wr wd) : DelI base g cap n M w wd := ⟨row_below h.r k, h.l, gb_below h.f k, Nat.lt_of_lt_of_le h.lt k.size⟩
theorem DelI.put {base g cap n : Nat} {M : List NameV} {w wr : World} (h : DelI base g cap n M w wr) (i : Nat) (hi : i < n) (x : NameV) : DelI base g cap n (M.set i x) w ((wr.setCell ⟨g, i * 2, none⟩ (.string x.1)).setCell ⟨g, i * 2 + 1, none⟩ (.int .i64 x.2)) := by
  have hl := h.l
  subst hl
  have h1 := World.ownsRow.stored h.r (i * 2) (.string x.1)
  have h2 := World.ownsRow.stored h1.1 (i * 2 + 1) (.int .i64 x.2)
  rw [encN_setAll hi] at h2
  refine ⟨?_, List.length_set, gb_trans (gb_trans h.f h1.2) h2.2, Nat.lt_of_lt_of_le h.lt (Nat.le_trans (World.grownBy.size h1.2) (World.grownBy.size h2.2))⟩
  unfold NmR
  rw [List.length_set]
  exact h2.1
theorem DelI.cell {base g cap n : Nat} {M : List NameV} {w wr : World} (h : DelI base g cap n M w wr) (i : Nat) (hi : i < M.length) : wr.cell? ⟨g, i * 2, none⟩ = some (.string M[i].1) ∧ wr.cell? ⟨g, i * 2 + 1, none⟩ = some (.int .i64 M[i].2) ∧ wr.frozen? ⟨g, i * 2, none⟩ = false ∧ wr.frozen? ⟨g, i * 2 + 1, none⟩ = false := by
  have hr := h.r
  rw [← h.l] at hr
  obtain ⟨q1, q2⟩ := NmR.cells hr hi
  exact ⟨q1, q2, World.ownsRow.frozenAt hr _, World.ownsRow.frozenAt hr _⟩
set_option maxRecDepth 100000 in
set_option linter.unusedSimpArgs false in
set_option maxHeartbeats 8000000 in
theorem delN_one (L : List NameV) (k n : Nat) (p : NameV → Bool) (base : Nat) (g : FuncId) (lb : Array Value) (gb cap : Nat) (w : World) (hL : L.length = n + 1) (hr : NmR base w (.slice (some ⟨gb, 0, none⟩) (n + 1) cap) L) (hn : n ≤ 900) (hk : k < n + 1)
    (hp : ∀ i (h : i < L.length), p L[i] = decide (i = k)) (eg : ∀ args w, (callFunc g args).run Try.prog w = .ok (.enter g args) w) (ht : TestWN g lb p L (some gb) w) (hlt : gb < w.heap.size) (hcap : n + 1 ≤ cap) (_hcm : cap ≤ 9223372036854775807) :
    Calls Try.prog 80 #[.slice (some ⟨gb, 0, none⟩) ((n + 1 : Nat)) cap, .func (.func g) #[] lb] w fun e w' => e = .returned (.slice (some ⟨gb, 0, none⟩) n cap) ∧ NmR base w' (.slice (some ⟨gb, 0, none⟩) n cap) (L.eraseIdx k) ∧ w.grownBy w' (some gb) := by
  have hix := idxN_any L p k base g lb (.slice (some ⟨gb, 0, none⟩) (n + 1) cap) w hr (by omega) ⟨by omega, fun i h hi => by rw [hp i h]; exact decide_eq_false (by omega), fun h => by rw [hp k h]; exact decide_eq_true rfl⟩ eg (fun i h W hW => ht i h W ⟨hW.os, hW.tape, hW.output, hW.size, fun b hb _ => hW.block b hb⟩)
  have e : placeZ L.length k = (k : Int) := by unfold placeZ; rw [if_pos (by omega)]
  rw [e] at hix
  have hI0 : DelI base gb cap (n + 1) L w w := ⟨hr, hL, gb_refl _ _, hlt⟩
  have H := Lib.hid (And.intro hix (And.intro hI0 (And.intro hp (And.intro ht hL))))
  clear hix hI0 hr hp ht hL e
  obtain ⟨N, hN⟩ : ∃ N, n + 1 = N := ⟨_, rfl⟩
  rw [hN] at H hcap hk ⊢
  go_enter Try.func80, Try.ntmps80
  go_wp2_with fail
  refine H.out.1.mono ?_
  rintro e w1 ⟨rfl, hb1⟩
  have HB := Lib.hid (H.out.2.1.below hb1)
  have dk : ((k : Int) == -1) = false := by rw [beq_eq_false_iff_ne]; omega
  have dk2 : ¬ ((k : Int) = -1) := by omega
  clear hb1
  go_wp2_with fail
  go_loopw [5, 6] (fun iv jv wr => ∃ I m : Nat, iv = .int .i64 I ∧ jv = .int .i64 ((I : Int) + 1) ∧ I = k + m ∧ I < N ∧ DelI base gb cap N (shiftL L k m) w wr) (fun _ jv _ => N - (intOf jv).toNat)
  case atStart => exact ⟨k, 0, rfl, by congr 1, rfl, by omega, HB.out⟩
  case round =>
    obtain ⟨I, m, rfl, rfl, hIm, hm, hI⟩ := hrel
    by_cases hj : I + 1 < N
    · have d1 : decide ((I : Int) + 1 < (N : Int)) = true := by rw [decide_eq_true_iff]; omega
      have hJl : I + 1 < L.length := by have := H.out.2.2.2.2; omega
      have hsl : I + 1 < (shiftL L k m).length := by rw [shiftL_len]; exact hJl
      have hge : (shiftL L k m)[I + 1] = L[I + 1] := by
        have q := shiftL_get L k m (by omega) (I + 1)
        rw [if_neg (by omega), List.getElem?_eq_getElem hsl, List.getElem?_eq_getElem hJl] at q
        exact Option.some.inj q
      obtain ⟨c0, c1, -, -⟩ := hI.cell (I + 1) hsl
      rw [hge] at c0 c1
      have hpx : p L[I + 1] = false := by rw [H.out.2.2.1 (I + 1) hJl]; exact decide_eq_false (by omega)
      have hc := fun W hW => H.out.2.2.2.1 (I + 1) hJl W hW
      rw [hpx] at hc
      have hsh : shiftL L k (m + 1) = (shiftL L k m).set I L[I + 1] := by
        show (if h : k + m + 1 < L.length then (shiftL L k m).set (k + m) L[k + m + 1] else shiftL L k m) = _
        subst hIm
        rw [dif_pos hJl]
      obtain ⟨x, hx⟩ : ∃ x, L[I + 1] = x := ⟨_, rfl⟩
      rw [hx] at c0 c1 hc hsh
      have HC := Lib.hid (And.intro hc (And.intro hsh (And.intro hI hIm)))
      have hfr := gb_below hI.f (below_new wr (.cells #[.string x.1, .int .i64 x.2] 73))
      have HF := Lib.hid hfr
      clear hc hsh hpx hge hx hI hfr hIm
      go_wp2_with (go_at_fn g; refine (HC.out.1 _ HF.out).mono ?_)
      rintro e w2 ⟨rfl, hb2⟩
      have hbx := (BkAt.new 73 #[.string x.1, .int .i64 x.2] wr).below hb2
      obtain ⟨b0, b1⟩ : w2.cell? ⟨wr.heap.size, 0, none⟩ = some (.string x.1) ∧ w2.cell? ⟨wr.heap.size, 1, none⟩ = some (.int .i64 x.2) := ⟨hbx.cell 0, hbx.cell 1⟩
      have hD := (HC.out.2.2.1.below (below_new _ _)).below hb2
      have hsl2 : I < (shiftL L k m).length := by rw [shiftL_len]; omega
      obtain ⟨s0, s1, f0, f1⟩ := hD.cell I hsl2
      have hnx := hD.put I (by omega) x
      rw [← HC.out.2.1] at hnx
      have HD := Lib.hid hnx
      obtain ⟨y, hy⟩ : ∃ y, (shiftL L k m)[I] = y := ⟨_, rfl⟩
      rw [hy] at s0 s1
      clear hbx hD hnx hb2 hy c0 c1
      go_wp2
      go_roundw
      case rel => exact ⟨I + 1, m + 1, by congr 1, by push_cast; rfl, by have := HC.out.2.2.2; omega, hj, HD.out⟩
      case measure => simp [intOf]; omega
    · obtain rfl : N = I + 1 := by omega
      have d1 : decide ((I : Int) + 1 < ((I + 1 : Nat) : Int)) = false := by rw [decide_eq_false_iff_not]; omega
      have hni : n = I := by omega
      subst hni
      have hsl2 : n < (shiftL L k m).length := by rw [shiftL_len]; have := H.out.2.2.2.2; omega
      obtain ⟨s0, s1, f0, f1⟩ := hI.cell n hsl2
      have hnx := hI.put n (by omega) (⟨#[]⟩, 0)
      have hfin : (shiftL L k m).take n = L.eraseIdx k := by
        have hL := H.out.2.2.2.2
        have q := shiftL_end L k (by omega)
        rw [hL, Nat.add_sub_cancel, show n - k = m by omega] at q
        exact q
      have hcl : ∀ ty, (Builtin.clear_ #[29] ty #[.slice (some ⟨gb, n * 2, none⟩) 1 (cap - n)]).run Try.prog wr = .ok (.tuple #[]) ((wr.setCell ⟨gb, n * 2, none⟩ (.string ⟨#[]⟩)).setCell ⟨gb, n * 2 + 1, none⟩ (.int .i64 0)) := fun ty =>
        run_clear_one wr 29 73 ty (.agg #[.string ⟨#[]⟩, .int .i64 0]) [.string ⟨#[]⟩, .int .i64 0] Try.underlying29 (fun w => zeroN w) rfl (fun v hv => by simp only [List.mem_cons, List.not_mem_nil, or_false] at hv; rcases hv with rfl | rfl <;> rfl) gb (n * 2) (cap - n)
          (fun j hj => by
            have h2 : j < 2 := hj
            have h3 : j = 0 ∨ j = 1 := (by omega)
            rcases h3 with rfl | rfl
            · rw [Nat.add_zero, s0]; rfl
            · rw [s1]; rfl) (fun j hj => by
            have h2 : j < 2 := hj
            have h3 : j = 0 ∨ j = 1 := (by omega)
            rcases h3 with rfl | rfl
            · rw [Nat.add_zero]; exact f0
            · exact f1)
      have hrow : ∀ wd, DelI base gb cap (n + 1) ((shiftL L k m).set n (⟨#[]⟩, 0)) w wd → NmR base wd (.slice (some ⟨gb, 0, none⟩) n cap) (L.eraseIdx k) ∧ w.grownBy wd (some gb) := fun wd h => by
        have hr := h.r
        unfold NmR at hr
        rw [h.l] at hr
        have q := row_short hr (m := n) (by omega)
        rw [encN_take, List.take_set_of_le (Nat.le_refl _), hfin] at q
        have hl : (L.eraseIdx k).length = n := by rw [← hfin, List.length_take, shiftL_len, H.out.2.2.2.2]; omega
        unfold NmR
        rw [hl]
        exact ⟨q, h.f⟩
      have HD := Lib.hid (hrow _ hnx)
      clear hnx hfin hrow hI s0 s1 f0 f1 hIm
      go_wp2
      exact bodyPost_ret (v := .slice (some ⟨gb, 0, none⟩) n cap) (by simp [results, Try.results80, go_sem]) rfl ⟨rfl, HD.out⟩
def TestWF (g : FuncId) (lb : Array Value) (p : FileV → Bool) (L : List FileV) (row : Option Nat) (w : World) : Prop :=
  ∀ i (h : i < L.length) W, w.grownBy W row → Calls Try.prog g (#[.agg #[.int .i64 L[i].ino, L[i].dv, .bool L[i].cp, .bool L[i].wh, .int .i64 L[i].lf]] ++ lb) W fun e w' => e = .returned (.bool (p L[i])) ∧ Below W.heap.size W w'

theorem encF_setAll : ∀ {L : List FileV} {i : Nat} (_ : i < L.length) (x : FileV), (((((encF L).set (i * 5) (.int .i64 x.ino)).set (i * 5 + 1) x.dv).set (i * 5 + 2) (.bool x.cp)).set (i * 5 + 3) (.bool x.wh)).set (i * 5 + 4) (.int .i64 x.lf) = encF (L.set i x)
  | p :: r, 0, _, x => rfl
  | p :: r, i + 1, h, x => by
    have ih := encF_setAll (L := r) (i := i) (by simpa using h) x
    rw [show (i + 1) * 5 = i * 5 + 1 + 1 + 1 + 1 + 1 by omega]
    simp only [encF, List.set_cons_succ, ih]
theorem encF_take : ∀ (L : List FileV) (m : Nat), (encF L).take (m * 5) = encF (L.take m)
  | [], m => by simp [encF]
  | p :: r, 0 => by simp [encF]
  | p :: r, m + 1 => by
    rw [show (m + 1) * 5 = m * 5 + 1 + 1 + 1 + 1 + 1 by omega]
    simp only [encF, List.take_succ_cons, encF_take r m]
theorem zeroF (w : World) : (zeroValue 58).run Try.prog w = .ok (.agg #[.int .i64 0, .slice none 0 0, .bool false, .bool false, .int .i64 0]) w := by
  obtain ⟨i, hi, hz, -, -⟩ := info_parts infoF
  simp [zeroValue, typeInfo, hi, hz]
structure DelF (base g cap n : Nat) (M : List FileV) (w wr : World) : Prop where
  r : FlR base wr (.slice (some ⟨g, 0, none⟩) n cap) M
  l : M.length = n
  f : w.grownBy wr (some g)
  lt : g < wr.heap.size
theorem DelF.below {base g cap n : Nat} {M : List FileV} {w wr wd : World} (h : DelF base g cap n M w wr) (k : Below wr.heap.size wr wd) : DelF base g cap n M w wd := ⟨row_below h.r k, h.l, gb_below h.f k, Nat.lt_of_lt_of_le h.lt k.size⟩
theorem DelF.put {base g cap n : Nat} {M : List FileV} {w wr : World} (h : DelF base g cap n M w wr) (i : Nat) (hi : i < n) (x : FileV) : DelF base g cap n (M.set i x) w (((((wr.setCell ⟨g, i * 5, none⟩ (.int .i64 x.ino)).setCell ⟨g, i * 5 + 1, none⟩ x.dv).setCell ⟨g, i * 5 + 2, none⟩ (.bool x.cp)).setCell ⟨g, i * 5 + 3, none⟩ (.bool x.wh)).setCell ⟨g, i * 5 + 4, none⟩ (.int .i64 x.lf)) := by
  have hl := h.l
  subst hl
  have h1 := World.ownsRow.stored h.r (i * 5) (.int .i64 x.ino)
  have h2 := World.ownsRow.stored h1.1 (i * 5 + 1) x.dv
  have h3 := World.ownsRow.stored h2.1 (i * 5 + 2) (.bool x.cp)
  have h4 := World.ownsRow.stored h3.1 (i * 5 + 3) (.bool x.wh)
  have h5 := World.ownsRow.stored h4.1 (i * 5 + 4) (.int .i64 x.lf)
  rw [encF_setAll hi] at h5
  have hg := gb_trans (gb_trans (gb_trans (gb_trans h1.2 h2.2) h3.2) h4.2) h5.2
  refine ⟨?_, List.length_set, gb_trans h.f hg, Nat.lt_of_lt_of_le h.lt (World.grownBy.size hg)⟩
  unfold FlR
  rw [List.length_set]
  exact h5.1
theorem DelF.cell {base g cap n : Nat} {M : List FileV} {w wr : World} (h : DelF base g cap n M w wr) (i : Nat) (hi : i < M.length) : (wr.cell? ⟨g, i * 5, none⟩ = some (.int .i64 M[i].ino) ∧ wr.cell? ⟨g, i * 5 + 1, none⟩ = some M[i].dv ∧ wr.cell? ⟨g, i * 5 + 2, none⟩ = some (.bool M[i].cp) ∧ wr.cell? ⟨g, i * 5 + 3, none⟩ = some (.bool M[i].wh) ∧ wr.cell? ⟨g, i * 5 + 4, none⟩ = some (.int .i64 M[i].lf)) ∧ ∀ j, wr.frozen? ⟨g, j, none⟩ = false := by
  have hr := h.r
  rw [← h.l] at hr
  exact ⟨FlR.cells hr hi, fun j => World.ownsRow.frozenAt hr j⟩
set_option maxRecDepth 100000 in
set_option linter.unusedSimpArgs false in
set_option maxHeartbeats 8000000 in
theorem delF_one (L : List FileV) (k n : Nat) (p : FileV → Bool) (base : Nat) (g : FuncId) (lb : Array Value) (gb cap : Nat) (w : World) (hL : L.length = n + 1) (hr : FlR base w (.slice (some ⟨gb, 0, none⟩) (n + 1) cap) L) (hn : n ≤ 900) (hk : k < n + 1)
    (hp : ∀ i (h : i < L.length), p L[i] = decide (i = k)) (eg : ∀ args w, (callFunc g args).run Try.prog w = .ok (.enter g args) w) (ht : TestWF g lb p L (some gb) w) (hlt : gb < w.heap.size) (hsl : ∀ x ∈ L, ∃ a m c, x.dv = .slice a m c) (hcap : n + 1 ≤ cap) (_hcm : cap ≤ 9223372036854775807) :
    Calls Try.prog 44 #[.slice (some ⟨gb, 0, none⟩) ((n + 1 : Nat)) cap, .func (.func g) #[] lb] w fun e w' => e = .returned (.slice (some ⟨gb, 0, none⟩) n cap) ∧ FlR base w' (.slice (some ⟨gb, 0, none⟩) n cap) (L.eraseIdx k) ∧ w.grownBy w' (some gb) := by
  have hix := idxF_any L p k base g lb (.slice (some ⟨gb, 0, none⟩) (n + 1) cap) w hr (by omega) ⟨by omega, fun i h hi => by rw [hp i h]; exact decide_eq_false (by omega), fun h => by rw [hp k h]; exact decide_eq_true rfl⟩ eg (fun i h W hW => ht i h W ⟨hW.os, hW.tape, hW.output, hW.size, fun b hb _ => hW.block b hb⟩)
  have e : placeZ L.length k = (k : Int) := by unfold placeZ; rw [if_pos (by omega)]
  rw [e] at hix
  have hI0 : DelF base gb cap (n + 1) L w w := ⟨hr, hL, gb_refl _ _, hlt⟩
  have H := Lib.hid (And.intro hix (And.intro hI0 (And.intro hp (And.intro ht (And.intro hL hsl)))))
  clear hix hI0 hr hp ht hL e hsl
  obtain ⟨N, hN⟩ : ∃ N, n + 1 = N := ⟨_, rfl⟩
  rw [hN] at H hcap hk ⊢
  go_enter Try.func44, Try.ntmps44
  go_wp2_with fail
  refine H.out.1.mono ?_
  rintro e w1 ⟨rfl, hb1⟩
  have HB := Lib.hid (H.out.2.1.below hb1)
  have dk : ((k : Int) == -1) = false := by rw [beq_eq_false_iff_ne]; omega
  have dk2 : ¬ ((k : Int) = -1) := by omega
  clear hb1
  go_wp2_with fail
  go_loopw [5, 6] (fun iv jv wr => ∃ I m : Nat, iv = .int .i64 I ∧ jv = .int .i64 ((I : Int) + 1) ∧ I = k + m ∧ I < N ∧ DelF base gb cap N (shiftL L k m) w wr) (fun _ jv _ => N - (intOf jv).toNat)
  case atStart => exact ⟨k, 0, rfl, by congr 1, rfl, by omega, HB.out⟩
  case round =>
    obtain ⟨I, m, rfl, rfl, hIm, hm, hI⟩ := hrel
    by_cases hj : I + 1 < N
    · have d1 : decide ((I : Int) + 1 < (N : Int)) = true := by rw [decide_eq_true_iff]; omega
      have hJl : I + 1 < L.length := by have := H.out.2.2.2.2.1; omega
      have hsl : I + 1 < (shiftL L k m).length := by rw [shiftL_len]; exact hJl
      have hge : (shiftL L k m)[I + 1] = L[I + 1] := by
        have q := shiftL_get L k m (by omega) (I + 1)
        rw [if_neg (by omega), List.getElem?_eq_getElem hsl, List.getElem?_eq_getElem hJl] at q
        exact Option.some.inj q
      obtain ⟨⟨c0, c1, c2, c3, c4⟩, -⟩ := hI.cell (I + 1) hsl
      obtain ⟨va, vm, vc, hdv⟩ := H.out.2.2.2.2.2 L[I + 1] (List.getElem_mem hJl)
      rw [hge] at c0 c1 c2 c3 c4
      have hpx : p L[I + 1] = false := by rw [H.out.2.2.1 (I + 1) hJl]; exact decide_eq_false (by omega)
      have hc := fun W hW => H.out.2.2.2.1 (I + 1) hJl W hW
      rw [hpx] at hc
      have hsh : shiftL L k (m + 1) = (shiftL L k m).set I L[I + 1] := by
        show (if h : k + m + 1 < L.length then (shiftL L k m).set (k + m) L[k + m + 1] else shiftL L k m) = _
        subst hIm
        rw [dif_pos hJl]
      obtain ⟨x, hx⟩ : ∃ x, L[I + 1] = x := ⟨_, rfl⟩
      rw [hx] at c0 c1 c2 c3 c4 hc hsh hdv
      obtain ⟨xi, xd, xc, xw, xl⟩ := x
      simp only at c0 c1 c2 c3 c4 hc hdv
      subst hdv
      have HC := Lib.hid (And.intro hc (And.intro hsh (And.intro hI hIm)))
      have hfr := gb_below hI.f (below_new wr (.cells #[.int .i64 xi, .slice va vm vc, .bool xc, .bool xw, .int .i64 xl] 58))
      have HF := Lib.hid hfr
      clear hc hsh hpx hge hx hI hfr hIm
      go_wp2_with (go_at_fn g; refine (HC.out.1 _ HF.out).mono ?_)
      rintro e w2 ⟨rfl, hb2⟩
      have hbx := (BkAt.new 58 #[.int .i64 xi, .slice va vm vc, .bool xc, .bool xw, .int .i64 xl] wr).below hb2
      obtain ⟨b0, b1, b2, b3, b4⟩ : w2.cell? ⟨wr.heap.size, 0, none⟩ = some (.int .i64 xi) ∧ w2.cell? ⟨wr.heap.size, 1, none⟩ = some (.slice va vm vc) ∧ w2.cell? ⟨wr.heap.size, 2, none⟩ = some (.bool xc) ∧ w2.cell? ⟨wr.heap.size, 3, none⟩ = some (.bool xw) ∧ w2.cell? ⟨wr.heap.size, 4, none⟩ = some (.int .i64 xl) := ⟨hbx.cell 0, hbx.cell 1, hbx.cell 2, hbx.cell 3, hbx.cell 4⟩
      have hD := (HC.out.2.2.1.below (below_new _ _)).below hb2
      have hsl2 : I < (shiftL L k m).length := by rw [shiftL_len]; omega
      obtain ⟨⟨s0, s1, s2, s3, s4⟩, ff⟩ := hD.cell I hsl2
      have f0 := ff (I * 5)
      have f1 := ff (I * 5 + 1)
      have f2 := ff (I * 5 + 2)
      have f3 := ff (I * 5 + 3)
      have f4 := ff (I * 5 + 4)
      have hnx := hD.put I (by omega) ⟨xi, .slice va vm vc, xc, xw, xl⟩
      rw [← HC.out.2.1] at hnx
      have HD := Lib.hid hnx
      obtain ⟨y, hy⟩ : ∃ y, (shiftL L k m)[I] = y := ⟨_, rfl⟩
      rw [hy] at s0 s1 s2 s3 s4
      clear hbx hD hnx hb2 hy c0 c1 c2 c3 c4 ff
      go_wp2
      go_roundw
      case rel => exact ⟨I + 1, m + 1, by congr 1, by push_cast; rfl, by have := HC.out.2.2.2; omega, hj, HD.out⟩
      case measure => simp [intOf]; omega
    · obtain rfl : N = I + 1 := by omega
      have d1 : decide ((I : Int) + 1 < ((I + 1 : Nat) : Int)) = false := by rw [decide_eq_false_iff_not]; omega
      have hni : n = I := by omega
      subst hni
      have hsl2 : n < (shiftL L k m).length := by rw [shiftL_len]; have := H.out.2.2.2.2.1; omega
      obtain ⟨⟨s0, s1, s2, s3, s4⟩, ff⟩ := hI.cell n hsl2
      have hnx := hI.put n (by omega) ⟨0, .slice none 0 0, false, false, 0⟩
      have hfin : (shiftL L k m).take n = L.eraseIdx k := by
        have hL := H.out.2.2.2.2.1
        have q := shiftL_end L k (by omega)
        rw [hL, Nat.add_sub_cancel, show n - k = m by omega] at q
        exact q
      have hcl : ∀ ty, (Builtin.clear_ #[30] ty #[.slice (some ⟨gb, n * 5, none⟩) 1 (cap - n)]).run Try.prog wr = .ok (.tuple #[]) (((((wr.setCell ⟨gb, n * 5, none⟩ (.int .i64 0)).setCell ⟨gb, n * 5 + 1, none⟩ (.slice none 0 0)).setCell ⟨gb, n * 5 + 2, none⟩ (.bool false)).setCell ⟨gb, n * 5 + 3, none⟩ (.bool false)).setCell ⟨gb, n * 5 + 4, none⟩ (.int .i64 0)) := fun ty =>
        run_clear_one wr 30 58 ty (.agg #[.int .i64 0, .slice none 0 0, .bool false, .bool false, .int .i64 0]) [.int .i64 0, .slice none 0 0, .bool false, .bool false, .int .i64 0] Try.underlying30 (fun w => zeroF w) rfl (fun v hv => by simp only [List.mem_cons, List.not_mem_nil, or_false] at hv; rcases hv with rfl | rfl | rfl | rfl | rfl <;> rfl) gb (n * 5) (cap - n)
          (fun j hj => by
            have h2 : j < 5 := hj
            have h3 : j = 0 ∨ j = 1 ∨ j = 2 ∨ j = 3 ∨ j = 4 := (by omega)
            rcases h3 with rfl | rfl | rfl | rfl | rfl
            · rw [Nat.add_zero, s0]; rfl
            · rw [s1]; rfl
            · rw [s2]; rfl
            · rw [s3]; rfl
            · rw [s4]; rfl) (fun j hj => ff _)
      have hrow : ∀ wd, DelF base gb cap (n + 1) ((shiftL L k m).set n ⟨0, .slice none 0 0, false, false, 0⟩) w wd → FlR base wd (.slice (some ⟨gb, 0, none⟩) n cap) (L.eraseIdx k) ∧ w.grownBy wd (some gb) := fun wd h => by
        have hr := h.r
        unfold FlR at hr
        rw [h.l] at hr
        have q := row_short hr (m := n) (by omega)
        rw [encF_take, List.take_set_of_le (Nat.le_refl _), hfin] at q
        have hl : (L.eraseIdx k).length = n := by rw [← hfin, List.length_take, shiftL_len, H.out.2.2.2.2.1]; omega
        unfold FlR
        rw [hl]
        exact ⟨q, h.f⟩
      have HD := Lib.hid (hrow _ hnx)
      clear hnx hfin hrow hI s0 s1 s2 s3 s4 hIm
      go_wp2
      exact bodyPost_ret (v := .slice (some ⟨gb, 0, none⟩) n cap) (by simp [results, Try.results44, go_sem]) rfl ⟨rfl, HD.out⟩
end Go.Proofs.Ytbpboghjgbgjfaa
