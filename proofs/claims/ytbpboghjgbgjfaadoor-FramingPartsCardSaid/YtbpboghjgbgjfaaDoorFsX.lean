/- The spans of the complete lines: the program's Lines and the reference's. -/
import Derived.Test.YtbpboghjgbgjfaaDoorBys
import Derived.Maps.AppendAt
import Derived.Deep.RegionHeld3
namespace Go.Proofs.YtbpboghjgbgjfaaDoor
open Go.RowKit

def lastK (l : List UInt8) : Nat → Nat
  | 0 => 0
  | k + 1 => if l[k]? = some 10 then k + 1 else lastK l k
def spK (l : List UInt8) : Nat → List (Nat × Nat)
  | 0 => []
  | k + 1 => if l[k]? = some 10 then spK l k ++ [(lastK l k, k + 1)] else spK l k
theorem lastK_yes {l : List UInt8} {k : Nat} (h : l[k]? = some 10) : lastK l (k + 1) = k + 1 := if_pos h
theorem lastK_no {l : List UInt8} {k : Nat} (h : ¬ l[k]? = some 10) : lastK l (k + 1) = lastK l k := if_neg h
theorem lastK_le (l : List UInt8) : ∀ k, lastK l k ≤ k
  | 0 => Nat.le_refl _
  | k + 1 => by unfold lastK; split; exact Nat.le_refl _; exact Nat.le_succ_of_le (lastK_le l k)
theorem spK_len (l : List UInt8) : ∀ k, (spK l k).length ≤ k
  | 0 => Nat.le_refl _
  | k + 1 => by
    unfold spK
    split
    · rw [List.length_append]; exact Nat.succ_le_succ (spK_len l k)
    · exact Nat.le_succ_of_le (spK_len l k)
def encS (L : List (Nat × Nat)) : List Value := L.flatMap fun s => [.int .i64 (s.1 : Int), .int .i64 (s.2 : Int)]
theorem encS_app (L M : List (Nat × Nat)) : encS (L ++ M) = encS L ++ encS M := by unfold encS; rw [List.flatMap_append]
def SpR (base : Nat) (w : World) (v : Value) (L : List (Nat × Nat)) : Prop := w.ownsRow base 56 2 v L.length (encS L)
theorem below_own' {w wr wd : World} {row : Option Nat} (h : Below w.heap.size w wr) (g : wr.grownBy wd row) (hr : ∀ k, row = some k → w.heap.size ≤ k) : Below w.heap.size w wd :=
  ⟨(World.grownBy.os g).trans h.os, (World.grownBy.tape g).trans h.tape, (World.grownBy.output g).trans h.output, Nat.le_trans h.size (World.grownBy.size g), fun i hi => (World.grownBy.block g i (Nat.lt_of_lt_of_le hi h.size) (fun e => by have := hr i e.symm; omega)).trans (h.block i hi)⟩
theorem infoS : (Tryd.prog.info? 56).map (fun i => (i.zero, i.size, i.bytes)) = some (some (.agg #[.int .i64 0, .int .i64 0]), 2, 16) := by kernel_rfl
structure LnI (w : World) (l : List UInt8) (k : Nat) (sv v : Value) (wr : World) : Prop where
  r : SpR w.heap.size wr v (spK l k)
  s : BySl wr sv l
  b : Below w.heap.size w wr
theorem LnI.no {w wr : World} {l : List UInt8} {k : Nat} {sv v : Value} (h : LnI w l k sv v wr) (hk : ¬ l[k]? = some 10) : LnI w l (k + 1) sv v wr := by
  refine ⟨?_, h.s, h.b⟩
  unfold spK
  rw [if_neg hk]
  exact h.r
theorem sp_news (w : World) (x y : Int) : ∀ (j : Nat) (u : Value), ([.int .i64 x, .int .i64 y] : List Value)[j]? = some u → (w.alloc (.cells #[.int .i64 x, .int .i64 y] 56)).cell? ((⟨w.heap.size, 0, none⟩ : Addr).add j) = some u := fun j u hj => by
  rw [Addr.add_lit, Nat.zero_add, Lib.cell_of_heap (heap_alloc_new w _)]
  simpa using hj
theorem LnI.yes {w wr wd : World} {l : List UInt8} {k : Nat} {sv v v' : Value} (h : LnI w l k sv v wr) (hw : BySl w sv l) (hk : l[k]? = some 10)
    (hown : wd.ownsRow w.heap.size 56 2 v' ((spK l k).length + 1) (encS (spK l k) ++ [.int .i64 (lastK l k : Int), .int .i64 ((k : Int) + 1)])) (hg : (wr.alloc (.cells #[.int .i64 (lastK l k : Int), .int .i64 ((k : Int) + 1)] 56)).grownBy wd v.ownBlock) : LnI w l (k + 1) sv v' wd := by
  have hb : Below w.heap.size w wd := by
    refine below_own' (bl_trans' h.b (below_new _ _)) hg (fun g hgb => ?_)
    exact (World.ownsRow.lt h.r g hgb).1
  refine ⟨?_, hw.below hb, hb⟩
  unfold spK
  rw [if_pos hk]
  unfold SpR
  rw [List.length_append, encS_app]
  exact hown
set_option maxRecDepth 100000 in
set_option linter.unusedSimpArgs false in
set_option maxHeartbeats 8000000 in
theorem linesP_any (sv : Value) (l : List UInt8) (w : World) (h : BySl w sv l) (hl : l.length ≤ 4000000) :
    Calls Tryd.prog 34 #[sv] w fun e w' => (∃ v, e = .returned v ∧ SpR w.heap.size w' v (spK l l.length)) ∧ Below w.heap.size w w' := by
  obtain ⟨i0, hi, hz0, hz1, hz2⟩ := info_parts infoS
  have hI0 : LnI w l 0 sv (.slice none 0 0) w := ⟨World.ownsRow_nil _ _ _ _, h, Below.refl _ _⟩
  have H := Lib.hid (And.intro h hI0)
  obtain ⟨a, c, rfl, hc1, -⟩ := h
  obtain ⟨n, hn⟩ : ∃ n, l.length = n := ⟨_, rfl⟩
  rw [hn] at H hl hc1 ⊢
  have HN := Lib.hid hn
  clear hI0 hn
  go_enter Tryd.func34, Tryd.ntmps34
  go_wp2_with fail
  go_loopw [3, 4, 9] (fun ov fv iv wr => ∃ (k : Nat), iv = .int .i64 k ∧ fv = .int .i64 (lastK l k : Int) ∧ k ≤ n ∧ LnI w l k (.slice a n c) ov wr) (fun _ _ iv _ => n - (intOf iv).toNat)
  case atStart => exact ⟨0, rfl, rfl, Nat.zero_le _, H.out.2⟩
  case round =>
    obtain ⟨k, rfl, rfl, hk, hI⟩ := hrel
    have HI := Lib.hid hI
    clear hI
    by_cases hlt : k < n
    · have d1 : decide ((k : Int) < (n : Int)) = true := by rw [decide_eq_true_iff]; omega
      obtain ⟨x, hx⟩ : ∃ x, l[k]? = some x := by have := HN.out; exact ⟨_, List.getElem?_eq_getElem (by omega)⟩
      obtain ⟨g, o, rfl, cx⟩ : ∃ (g o : Nat), a = some ⟨g, o, none⟩ ∧ wr.cell? ⟨g, o + k, none⟩ = some (.int .u8 (x.toNat : Int)) := by
        obtain ⟨a2, c2, e2, -, h2⟩ := HI.out.s
        injection e2 with e3 e4 e5
        subst e3
        have hkl : k < l.length := by have := HN.out; omega
        obtain ⟨g, o, h3, h4, h5⟩ := h2 k hkl
        rw [List.getElem?_eq_getElem hkl] at hx
        cases hx
        exact ⟨g, o, h3, h5⟩
      by_cases h10 : x = 10
      · subst h10
        have hx2 := HI.out
        have cx2 : wr.cell? ⟨g, o + k, none⟩ = some (.int .u8 10) := cx
        clear cx
        have HX := Lib.hid hx
        clear hx hx2
        go_wp2_with (at_builtin; refine wpList_append_own_at _ rfl (.tmp 16) (.tmp 21) 53 rfl w.heap.size 56 i0 (.agg #[.int .i64 0, .int .i64 0]) 2 16 Tryd.underlying53 hi hz0 hz1 hz2 rfl (by decide) _ (spK l k).length _ rfl (row_below HI.out.r (below_new _ _)) ⟨wr.heap.size, 0, none⟩ 1 1 [.int .i64 (lastK l k : Int), .int .i64 ((k : Int) + 1)] rfl rfl ?c1 ?c2 ?c3 ?c4 ?c5 ?_)
        case c1 => exact sp_news wr _ _
        case c2 => exact fun u hu => by simp only [List.mem_cons, List.not_mem_nil, or_false] at hu; rcases hu with rfl | rfl <;> rfl
        case c3 => have := spK_len l k; unfold maxLen; omega
        case c4 => have := spK_len l k; omega
        case c5 => exact Nat.le_trans HI.out.b.size (by simp)
        intro v' w1 hown hgrow _ _
        have HJ := Lib.hid (HI.out.yes H.out.1 HX.out hown hgrow)
        have hlk : lastK l (k + 1) = k + 1 := lastK_yes HX.out
        have HL := Lib.hid hlk
        clear hown hgrow hlk
        go_wp2
        go_roundw
        case rel => exact ⟨k + 1, by congr 1, by rw [HL.out]; congr 1, by omega, HJ.out⟩
        case measure => simp [intOf]; omega
      · have hne : ¬ l[k]? = some 10 := by rw [hx]; exact fun e => h10 (Option.some.inj e)
        have hx10 : ¬ ((x.toNat : Int) = 10) := fun e => h10 (UInt8.toNat_inj.1 (by show x.toNat = 10; omega))
        have d2 : decide ((x.toNat : Int) = 10) = false := decide_eq_false hx10
        have HJ := Lib.hid (HI.out.no hne)
        have hlk : lastK l (k + 1) = lastK l k := lastK_no hne
        have HL := Lib.hid hlk
        obtain ⟨y, hy⟩ : ∃ y : Int, (x.toNat : Int) = y := ⟨_, rfl⟩
        rw [hy] at cx hx10 d2
        clear hlk hne hx hy
        go_wp2
        go_roundw
        case rel => exact ⟨k + 1, by congr 1, by rw [HL.out], by omega, HJ.out⟩
        case measure => simp [intOf]; omega
    · obtain rfl : k = n := by omega
      have d1 : decide ((k : Int) < (k : Int)) = false := by simp
      obtain ⟨ra, rn, rc, rfl⟩ := row_slice HI.out.r
      go_wp2
      go_ret
      exact ⟨⟨_, rfl, HI.out.r⟩, HI.out.b⟩
set_option maxRecDepth 100000 in
set_option linter.unusedSimpArgs false in
set_option maxHeartbeats 8000000 in
theorem linesR_any (sv : Value) (l : List UInt8) (w : World) (h : BySl w sv l) (hl : l.length ≤ 4000000) :
    Calls Tryd.prog 24 #[sv] w fun e w' => (∃ v, e = .returned v ∧ SpR w.heap.size w' v (spK l l.length)) ∧ Below w.heap.size w w' := by
  obtain ⟨i0, hi, hz0, hz1, hz2⟩ := info_parts infoS
  have hI0 : LnI w l 0 sv (.slice none 0 0) w := ⟨World.ownsRow_nil _ _ _ _, h, Below.refl _ _⟩
  have H := Lib.hid (And.intro h hI0)
  obtain ⟨a, c, rfl, hc1, -⟩ := h
  obtain ⟨n, hn⟩ : ∃ n, l.length = n := ⟨_, rfl⟩
  rw [hn] at H hl hc1 ⊢
  have HN := Lib.hid hn
  clear hI0 hn
  go_enter Tryd.func24, Tryd.ntmps24
  go_wp2_with fail
  go_loopw [3, 4, 5] (fun ov fv iv wr => ∃ (k : Nat), iv = .int .i64 k ∧ fv = .int .i64 (lastK l k : Int) ∧ k ≤ n ∧ LnI w l k (.slice a n c) ov wr) (fun _ _ iv _ => n - (intOf iv).toNat)
  case atStart => exact ⟨0, rfl, rfl, Nat.zero_le _, H.out.2⟩
  case round =>
    obtain ⟨k, rfl, rfl, hk, hI⟩ := hrel
    have HI := Lib.hid hI
    clear hI
    by_cases hlt : k < n
    · have d1 : decide ((k : Int) < (n : Int)) = true := by rw [decide_eq_true_iff]; omega
      obtain ⟨x, hx⟩ : ∃ x, l[k]? = some x := by have := HN.out; exact ⟨_, List.getElem?_eq_getElem (by omega)⟩
      obtain ⟨g, o, rfl, cx⟩ : ∃ (g o : Nat), a = some ⟨g, o, none⟩ ∧ wr.cell? ⟨g, o + k, none⟩ = some (.int .u8 (x.toNat : Int)) := by
        obtain ⟨a2, c2, e2, -, h2⟩ := HI.out.s
        injection e2 with e3 e4 e5
        subst e3
        have hkl : k < l.length := by have := HN.out; omega
        obtain ⟨g, o, h3, h4, h5⟩ := h2 k hkl
        rw [List.getElem?_eq_getElem hkl] at hx
        cases hx
        exact ⟨g, o, h3, h5⟩
      by_cases h10 : x = 10
      · subst h10
        have hx2 := HI.out
        have cx2 : wr.cell? ⟨g, o + k, none⟩ = some (.int .u8 10) := cx
        clear cx
        have HX := Lib.hid hx
        clear hx hx2
        go_wp2_with (at_builtin; refine wpList_append_own_at _ rfl (.tmp 17) (.tmp 22) 53 rfl w.heap.size 56 i0 (.agg #[.int .i64 0, .int .i64 0]) 2 16 Tryd.underlying53 hi hz0 hz1 hz2 rfl (by decide) _ (spK l k).length _ rfl (row_below HI.out.r (below_new _ _)) ⟨wr.heap.size, 0, none⟩ 1 1 [.int .i64 (lastK l k : Int), .int .i64 ((k : Int) + 1)] rfl rfl ?c1 ?c2 ?c3 ?c4 ?c5 ?_)
        case c1 => exact sp_news wr _ _
        case c2 => exact fun u hu => by simp only [List.mem_cons, List.not_mem_nil, or_false] at hu; rcases hu with rfl | rfl <;> rfl
        case c3 => have := spK_len l k; unfold maxLen; omega
        case c4 => have := spK_len l k; omega
        case c5 => exact Nat.le_trans HI.out.b.size (by simp)
        intro v' w1 hown hgrow _ _
        have HJ := Lib.hid (HI.out.yes H.out.1 HX.out hown hgrow)
        have hlk : lastK l (k + 1) = k + 1 := lastK_yes HX.out
        have HL := Lib.hid hlk
        clear hown hgrow hlk
        go_wp2
        go_roundw
        case rel => exact ⟨k + 1, by congr 1, by rw [HL.out]; congr 1, by omega, HJ.out⟩
        case measure => simp [intOf]; omega
      · have hne : ¬ l[k]? = some 10 := by rw [hx]; exact fun e => h10 (Option.some.inj e)
        have hx10 : ¬ ((x.toNat : Int) = 10) := fun e => h10 (UInt8.toNat_inj.1 (by show x.toNat = 10; omega))
        have d2 : decide ((x.toNat : Int) = 10) = false := decide_eq_false hx10
        have HJ := Lib.hid (HI.out.no hne)
        have hlk : lastK l (k + 1) = lastK l k := lastK_no hne
        have HL := Lib.hid hlk
        obtain ⟨y, hy⟩ : ∃ y : Int, (x.toNat : Int) = y := ⟨_, rfl⟩
        rw [hy] at cx hx10 d2
        clear hlk hne hx hy
        go_wp2
        go_roundw
        case rel => exact ⟨k + 1, by congr 1, by rw [HL.out], by omega, HJ.out⟩
        case measure => simp [intOf]; omega
    · obtain rfl : k = n := by omega
      have d1 : decide ((k : Int) < (k : Int)) = false := by simp
      obtain ⟨ra, rn, rc, rfl⟩ := row_slice HI.out.r
      go_wp2
      go_ret
      exact ⟨⟨_, rfl, HI.out.r⟩, HI.out.b⟩
end Go.Proofs.YtbpboghjgbgjfaaDoor
