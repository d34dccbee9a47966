/- A list of contents of the call's own. -/
import Derived.Test.YtfihnmfbgdjkpaaFpH
import Derived.Test.YtfihnmfbgdjkpaaFpC
namespace Go.Proofs.Ytfihnmfbgdjkpaa
open Go.RowKit

/-- Bytes below block B, or in a block of bytes. -/
def ByT (B : Nat) (w : World) (v : Value) (l : List UInt8) : Prop := ∃ (a : Option Addr) (c : Nat), v = .slice a l.length c ∧ l.length ≤ c ∧ ∀ i (h : i < l.length), ∃ (g o : Nat), a = some ⟨g, o, none⟩ ∧ g < w.heap.size ∧ w.cell? ⟨g, o + i, none⟩ = some (.int .u8 (l[i].toNat : Int)) ∧ (g < B ∨ ∃ cs fz, w.heap[g]? = some (.cells cs 5 fz))
theorem ByT.by' {B : Nat} {w : World} {v : Value} {l : List UInt8} (h : ByT B w v l) : BySl w v l := by
  obtain ⟨a, c, h1, h2, h3⟩ := h
  exact ⟨a, c, h1, h2, fun i hi => by obtain ⟨g, o, h4, h5, h6, -⟩ := h3 i hi; exact ⟨g, o, h4, h5, h6⟩⟩
theorem ByT.old {B : Nat} {w : World} {v : Value} {l : List UInt8} (h : BySl w v l) (hB : w.heap.size ≤ B) : ByT B w v l := by
  obtain ⟨a, c, h1, h2, h3⟩ := h
  exact ⟨a, c, h1, h2, fun i hi => by obtain ⟨g, o, h4, h5, h6⟩ := h3 i hi; exact ⟨g, o, h4, h5, h6, .inl (by omega)⟩⟩
theorem ByT.buf {B B2 : Nat} {w : World} {v : Value} {l : List UInt8} (h : BufAt B2 w v (byV l)) : ByT B w v l := by
  obtain ⟨g, cap, h1, h2, h3, h4, h5, h6, h7⟩ := h
  rw [byV_len] at h1 h4
  exact ⟨_, cap, h1, h4, fun i hi => ⟨g, 0, rfl, h3, by rw [Nat.zero_add]; exact h6 i _ (by simp [byV, hi]), .inr h7⟩⟩
theorem ByT.keep {B : Nat} {w w' : World} {v : Value} {l : List UInt8} {row : Option Nat} (h : ByT B w v l) (hg : w.grownBy w' row) (hr : ∀ b, row = some b → B ≤ b ∧ ∀ cs fz, w.heap[b]? ≠ some (.cells cs 5 fz)) : ByT B w' v l := by
  obtain ⟨a, c, h1, h2, h3⟩ := h
  refine ⟨a, c, h1, h2, fun i hi => ?_⟩
  obtain ⟨g, o, h4, h5, h6, h7⟩ := h3 i hi
  have hb : w'.heap[g]? = w.heap[g]? := World.grownBy.block hg g h5 (fun e => by
    obtain ⟨q1, q2⟩ := hr g e.symm
    rcases h7 with h7 | ⟨cs, fz, h7⟩
    · omega
    · exact q2 cs fz h7)
  refine ⟨g, o, h4, Nat.lt_of_lt_of_le h5 (World.grownBy.size hg), (World.cell?_of_block (a := ⟨g, o + i, none⟩) hb).trans h6, ?_⟩
  rcases h7 with h7 | ⟨cs, fz, h7⟩
  · exact .inl h7
  · exact .inr ⟨cs, fz, hb.trans h7⟩
theorem ByT.below {B : Nat} {w w' : World} {v : Value} {l : List UInt8} (h : ByT B w v l) (k : Below w.heap.size w w') : ByT B w' v l :=
  h.keep (row := none) ⟨k.os, k.tape, k.output, k.size, fun i hi _ => k.block i hi⟩ (fun b e => by cases e)
theorem ByT.slice {B : Nat} {w : World} {v : Value} {l : List UInt8} (h : ByT B w v l) : ∃ a c, v = .slice a l.length c ∧ l.length ≤ c := h.by'.slice
theorem ByT.take {B : Nat} {w : World} {a : Option Addr} {n c : Nat} {l : List UInt8} (h : ByT B w (.slice a n c) l) (k : Nat) (hk : k ≤ l.length) (c2 : Nat) (hc : k ≤ c2) : ByT B w (.slice a k c2) (l.take k) := by
  obtain ⟨a2, c3, h1, h2, h3⟩ := h
  cases h1
  have hl : (l.take k).length = k := by rw [List.length_take]; omega
  refine ⟨a, c2, by rw [hl], by omega, fun i hi => ?_⟩
  rw [hl] at hi
  obtain ⟨g, o, h4, h5, h6, h7⟩ := h3 i (by omega)
  exact ⟨g, o, h4, h5, by rw [h6, List.getElem_take], h7⟩
theorem mk_row {C : Nat} {w : World} (h : MkAt C w) : ∀ b, some C = some b → C ≤ b ∧ ∀ cs fz, w.heap[b]? ≠ some (.cells cs 5 fz) := fun b e => by
  cases e
  refine ⟨Nat.le_refl _, fun cs fz hx => ?_⟩
  obtain ⟨a, n, c, k, h, -⟩ := h
  rw [hx] at h
  injection h with h
  injection h with h1 h2
  exact absurd h2 (by decide)
/-- The list: its row and its contents. -/
structure LsAt (D C : Nat) (w : World) (v : Value) (vs : List Value) (ls : List (List UInt8)) : Prop where
  r : w.ownsRow D 22 1 v vs.length vs
  n : vs.length = ls.length
  b : ∀ i (h : i < ls.length), ByT C w (vs[i]'(by omega)) ls[i]
  s : ∀ i (h : i < ls.length), ls[i].length ≤ 3000
theorem LsAt.gfr {D C : Nat} {w w' : World} {v : Value} {vs : List Value} {ls : List (List UInt8)} (h : LsAt D C w v vs ls) (hD : C < D) (hm : MkAt C w) (k : GFr C w w') : LsAt D C w' v vs ls :=
  ⟨row_grown h.r k hD, h.n, fun i hi => (h.b i hi).keep k (mk_row hm), h.s⟩
theorem LsAt.below {D C : Nat} {w w' : World} {v : Value} {vs : List Value} {ls : List (List UInt8)} (h : LsAt D C w v vs ls) (k : Below w.heap.size w w') : LsAt D C w' v vs ls :=
  ⟨row_below h.r k, h.n, fun i hi => (h.b i hi).below k, h.s⟩
theorem row_ty {base : Nat} {e : TypeId} {size : Nat} {v : Value} {n : Nat} {xs : List Value} {w : World} (h : w.ownsRow base e size v n xs) {g : Nat} (hg : v.ownBlock = some g) : ∃ cur fz, w.heap[g]? = some (.cells cur e fz) ∧ base ≤ g := by
  rcases h.2 with ⟨q, -⟩ | ⟨g', cap, cur, q1, q2, q3, -⟩
  · rw [q] at hg; cases hg
  · rw [q1] at hg
    cases hg
    exact ⟨cur, _, q3, q2⟩
theorem row_rowk {D C : Nat} {w : World} {v : Value} {n : Nat} {xs : List Value} (h : w.ownsRow D 22 1 v n xs) (hD : C < D) : ∀ b, v.ownBlock = some b → C ≤ b ∧ ∀ cs fz, w.heap[b]? ≠ some (.cells cs 5 fz) := fun b e => by
  obtain ⟨cur, fz, h1, h2⟩ := row_ty h e
  refine ⟨by omega, fun cs fz2 hx => ?_⟩
  rw [hx] at h1
  injection h1 with h1
  injection h1 with h3 h4
  exact absurd h4 (by decide)
theorem LsAt.snoc {D C : Nat} {w wd : World} {v v' x : Value} {vs : List Value} {ls : List (List UInt8)} {l : List UInt8} (h : LsAt D C w v vs ls) (hD : C < D) (hx : ByT C w x l) (hl : l.length ≤ 3000) (hown : wd.ownsRow D 22 1 v' (vs.length + 1) (vs ++ [x])) (hg : w.grownBy wd v.ownBlock) :
    LsAt D C wd v' (vs ++ [x]) (ls ++ [l]) := by
  have hk := row_rowk h.r hD
  refine ⟨by rw [List.length_append]; exact hown, by simp [h.n], fun i hi => ?_, fun i hi => ?_⟩
  · by_cases e : i < ls.length
    · have e1 : (vs ++ [x])[i]'(by rw [List.length_append, h.n]; rw [List.length_append] at hi; exact hi) = vs[i]'(by rw [h.n]; exact e) := List.getElem_append_left _
      have e2 : (ls ++ [l])[i] = ls[i] := List.getElem_append_left _
      rw [e1, e2]
      exact (h.b i e).keep hg hk
    · rw [List.length_append] at hi
      obtain rfl : i = ls.length := by have : [l].length = 1 := rfl; omega
      have e1 : (vs ++ [x])[ls.length]'(by rw [List.length_append, h.n]; exact hi) = x := by simp [← h.n]
      have e2 : (ls ++ [l])[ls.length] = l := by simp
      rw [e1, e2]
      exact hx.keep hg hk
  · by_cases e : i < ls.length
    · rw [List.getElem_append_left e]; exact h.s i e
    · rw [List.length_append] at hi
      obtain rfl : i = ls.length := by have : [l].length = 1 := rfl; omega
      simpa using hl
theorem LsAt.files {D C : Nat} {w : World} {v : Value} {vs : List Value} {ls : List (List UInt8)} (h : LsAt D C w v vs ls) : FilesS w v ls := by
  rcases row_form h.r with ⟨h1, h2⟩ | ⟨g, c, h1, h2, h3, -⟩
  · exact .inl ⟨h1, List.eq_nil_of_length_eq_zero (by rw [← h.n]; exact h2)⟩
  · refine .inr ⟨g, c, by rw [h1, h.n], fun i hi => ⟨vs[i]'(by rw [h.n]; exact hi), ?_, (h.b i hi).by', h3⟩⟩
    have hr := h.r
    rw [h1] at hr
    have := World.ownsRow.cellAt hr i (by rw [h.n]; omega)
    rw [this]
    simp [h.n, hi]
theorem row_frame {C : Nat} {w0 w wd : World} {x v : Value} {T : TypeId} (h : GFr C w0 w) (hg : (w.alloc (.cells #[x] T)).grownBy wd v.ownBlock) (hr : ∀ b, v.ownBlock = some b → w0.heap.size ≤ b) : GFr C w0 wd := by
  have h2 := h.alloc (.cells #[x] T)
  exact ⟨(World.grownBy.os hg).trans (World.grownBy.os h2), (World.grownBy.tape hg).trans (World.grownBy.tape h2), (World.grownBy.output hg).trans (World.grownBy.output h2), Nat.le_trans (World.grownBy.size h2) (World.grownBy.size hg), fun i hi hn => (World.grownBy.block hg i (Nat.lt_of_lt_of_le hi (World.grownBy.size h2)) (fun e => by have := hr i e.symm; omega)).trans (World.grownBy.block h2 i hi hn)⟩
/-- What the law's first loop keeps. -/
structure BuI (D C : Nat) (w0 : World) (lv : Value) (vs : List Value) (ls : List (List UInt8)) (wr : World) : Prop where
  l : LsAt D C wr lv vs ls
  m : MkAt C wr
  f : GFr C w0 wr
theorem BuI.gfr {D C : Nat} {w0 wr wd : World} {lv : Value} {vs : List Value} {ls : List (List UInt8)} (h : BuI D C w0 lv vs ls wr) (hD : C < D) (hm : MkAt C wd) (hf : GFr C wr wd) : BuI D C w0 lv vs ls wd :=
  ⟨h.l.gfr hD h.m hf, hm, h.f.trans hf⟩
theorem BuI.snoc {D C : Nat} {w0 wr wd : World} {lv v' x : Value} {vs : List Value} {ls : List (List UInt8)} {l : List UInt8} (h : BuI D C w0 lv vs ls wr) (hD : C < D) (hDs : w0.heap.size = D) (hx : ByT C wr x l) (hl : l.length ≤ 3000) (hown : wd.ownsRow D 22 1 v' (vs.length + 1) (vs ++ [x])) (hg : (wr.alloc (.cells #[x] 22)).grownBy wd lv.ownBlock) :
    BuI D C w0 v' (vs ++ [x]) (ls ++ [l]) wd := by
  have hb := below_new wr (.cells #[x] 22)
  refine ⟨(h.l.below hb).snoc hD (hx.below hb) hl hown hg, (h.m.below hb).grown hg (fun b e => ?_), row_frame h.f hg (fun b e => ?_)⟩
  · obtain ⟨cur, fz, h1, h2⟩ := row_ty h.l.r e
    omega
  · obtain ⟨cur, fz, h1, h2⟩ := row_ty h.l.r e
    omega
theorem infoBs : (Try.prog.info? 22).map (fun i => (i.zero, i.size, i.bytes)) = some (some (.slice none 0 0), 1, 24) := by kernel_rfl
theorem one_new (w : World) (x : Value) (T : TypeId) : ∀ (j : Nat) (u : Value), ([x] : List Value)[j]? = some u → (w.alloc (.cells #[x] T)).cell? ((⟨w.heap.size, 0, none⟩ : Addr).add j) = some u := fun j u hj => by
  rw [Addr.add_lit, Nat.zero_add, Lib.cell_of_heap (heap_alloc_new w _)]
  simpa using hj
/-- logtidemake.Mod of 66. -/
theorem mod66_any (z : Int) (w : World) (h0 : -9223372036854775808 ≤ z) (h1 : z ≤ 9223372036854775807) : Calls Try.prog 20 #[.int .i64 z, .int .i64 66] w fun e w' => (∃ m : Int, e = .returned (.int .i64 m) ∧ 0 ≤ m ∧ m < 66) ∧ w' = w := by
  have hb : -66 < Int.tmod z 66 ∧ Int.tmod z 66 < 66 := by
    rcases Int.le_total 0 z with h | h
    · have := Int.tmod_nonneg 66 h
      have := Int.tmod_lt_of_pos z (show (0 : Int) < 66 by decide)
      omega
    · have h2 := Int.neg_tmod z 66
      have := Int.tmod_nonneg 66 (show 0 ≤ -z by omega)
      have := Int.tmod_lt_of_pos (-z) (show (0 : Int) < 66 by decide)
      omega
  obtain ⟨t, ht⟩ : ∃ t, Int.tmod z 66 = t := ⟨_, rfl⟩
  rw [ht] at hb
  obtain ⟨hb0, hb1⟩ := hb
  by_cases hn : t < 0
  · have d1 : decide (t < 0) = true := decide_eq_true hn
    go_enter Try.func20, Try.ntmps20
    go_wp2
    go_ret
    exact ⟨⟨_, rfl, by omega, by omega⟩, rfl⟩
  · have d1 : decide (t < 0) = false := decide_eq_false hn
    go_enter Try.func20, Try.ntmps20
    go_wp2
    go_ret
    exact ⟨⟨_, rfl, by omega, by omega⟩, rfl⟩
set_option maxRecDepth 100000 in
theorem l0_any {w : World} {v : Value} {ls : List (List UInt8)} (h : FilesS w v ls) (hl : ls.length ≤ 100000) : Calls Try.prog 25 #[v] w fun e w' => (∃ x, e = .returned x ∧ BySl w x (ls.headD [])) ∧ w = w' := by
  rcases h with ⟨rfl, rfl⟩ | ⟨g, c, rfl, h2⟩
  · go_enter Try.func25, Try.ntmps25
    go_wp2
    go_ret
    exact ⟨⟨_, rfl, byS_nil w⟩, rfl⟩
  · by_cases h0 : ls.length = 0
    · obtain rfl := List.eq_nil_of_length_eq_zero h0
      clear h2
      go_enter Try.func25, Try.ntmps25
      go_wp2
      go_ret
      exact ⟨⟨_, rfl, byS_nil w⟩, rfl⟩
    · obtain ⟨a, c2, cv, hv⟩ := files_cell h2 (show 0 < ls.length by omega)
      have hh : ls.headD [] = ls[0]'(by omega) := by
        cases ls with
        | nil => exact absurd rfl h0
        | cons x r => rfl
      rw [← hh] at cv hv
      obtain ⟨x0, hx0⟩ : ∃ x, ls.headD [] = x := ⟨_, rfl⟩
      rw [hx0] at cv hv ⊢
      obtain ⟨N, hN⟩ : ∃ N, ls.length = N := ⟨_, rfl⟩
      rw [hN] at h0 hl ⊢
      have d0 : decide ((N : Int) = 0) = false := by rw [decide_eq_false_iff_not]; omega
      have p0 : (0 : Int) < (N : Int) := by omega
      have HV := Lib.hid hv
      clear hv hh hN h2 hx0
      go_enter Try.func25, Try.ntmps25
      go_wp2
      go_ret
      exact ⟨⟨_, rfl, HV.out⟩, rfl⟩
end Go.Proofs.Ytfihnmfbgdjkpaa
