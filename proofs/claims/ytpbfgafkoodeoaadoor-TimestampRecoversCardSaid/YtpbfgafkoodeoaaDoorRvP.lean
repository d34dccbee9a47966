/- Two frames: cells from a block on, and one block that may be written beside new ones. What a law's row gives of its arguments, for every layer: the row's word of the end; a []byte argument opened; the bound of a second form. The contracts of logtidemake's New, Left, Next and Pick. The contracts of logtidemake's Text and of the law's text: some string of bounded size. -/
import Derived.WalkKit
import Derived.ProofKit
import Derived.Below
import Derived.Laws.AppendOwn
import Derived.Lib.Builder
import Derived.Lib.Hide
import Derived.LoopTactic
import Derived.Laws.NewBlocks
import Derived.Deep.Draws
import Derived.Deep.QuietTactic
import Derived.BigQuiet
import Derived.Test.YtpbfgafkoodeoaaDoorCards
import Derived.Test.YtpbfgafkoodeoaaDoorTie
import Derived.OpenShut
import Derived.Carry
import Derived.Lib.AppendStr
import Derived.Lib.UnsafeStr
import Derived.Deep.DeepHandedRow
namespace Go.Proofs.YtpbfgafkoodeoaaDoor
open Go.RowKit

def GKeeps (lo : Nat) (w w' : World) : Prop := ∀ b o v, lo ≤ b → w.cell? ⟨b, o, none⟩ = some v → w'.cell? ⟨b, o, none⟩ = some v
theorem gkeeps_refl (lo : Nat) (w : World) : GKeeps lo w w := fun _ _ _ _ h => h
theorem GKeeps.trans {lo : Nat} {a b c : World} (h : GKeeps lo a b) (k : GKeeps lo b c) : GKeeps lo a c := fun x o v hl hc => k x o v hl (h x o v hl hc)
theorem GKeeps.up {lo lo' : Nat} {a b : World} (h : GKeeps lo a b) (k : lo ≤ lo') : GKeeps lo' a b := fun x o v hl hc => h x o v (by omega) hc
theorem gkeeps_grown {lo B : Nat} {w w' : World} (h : w.grownBy w' (some B)) (hB : B < lo) : GKeeps lo w w' := fun b o v hl hc => h.cell (a := ⟨b, o, none⟩) hc (by simp; omega)
theorem gkeeps_grown_none {lo : Nat} {w w' : World} (h : w.grownBy w' none) : GKeeps lo w w' := fun b o v _ hc => h.cell (a := ⟨b, o, none⟩) hc (by simp)
theorem gkeeps_below {lo : Nat} {w w' : World} (h : Below w.heap.size w w') : GKeeps lo w w' := fun b o v _ hc => by
  have hb : b < w.heap.size := block_lt_of_cell (a := ⟨b, o, none⟩) hc
  rw [← hc]; exact h.cell (p := ⟨b, o, none⟩) hb
theorem gkeeps_drewN {lo : Nat} {w w' : World} (n : Nat) (h : GKeeps lo w w') : GKeeps lo w (w'.drewN n) := fun b o v hl hc => h b o v hl hc

/-- Block B may be written, and new blocks made. -/
def GFr (B : Nat) (w w' : World) : Prop := w.grownBy w' (some B)
theorem GFr.refl (B : Nat) (w : World) : GFr B w w := ⟨rfl, rfl, rfl, Nat.le_refl _, fun _ _ _ => rfl⟩
theorem GFr.trans {B : Nat} {a b c : World} (h : GFr B a b) (k : GFr B b c) : GFr B a c :=
  ⟨k.os.trans h.os, k.tape.trans h.tape, k.output.trans h.output, Nat.le_trans h.size k.size, fun i hi hn => (k.block i (Nat.lt_of_lt_of_le hi h.size) hn).trans (h.block i hi hn)⟩
theorem GFr.drew {B : Nat} {a w : World} (h : GFr B a w) : GFr B a w.drew := ⟨h.os, h.tape, h.output, h.size, h.block⟩
theorem GFr.drewN {B : Nat} {a w : World} (h : GFr B a w) (n : Nat) : GFr B a (w.drewN n) := ⟨h.os, h.tape, h.output, h.size, h.block⟩
theorem GFr.alloc {B : Nat} {a w : World} (h : GFr B a w) (o : Obj) : GFr B a (w.alloc o) := h.trans (World.grownBy_alloc w o _)
theorem GFr.setCell {B : Nat} {a w : World} (h : GFr B a w) (k : Nat) (u : Value) : GFr B a (w.setCell ⟨B, k, none⟩ u) :=
  h.trans ⟨rfl, rfl, rfl, by simp [World.setCell], fun i _ hne => Below.heap_setCell w ⟨B, k, none⟩ u i (by rintro rfl; exact hne rfl)⟩
theorem GFr.below {B : Nat} {a w w' : World} (h : GFr B a w) (k : Below w.heap.size w w') : GFr B a w' :=
  h.trans ⟨k.os, k.tape, k.output, k.size, fun i hi _ => k.block i hi⟩
theorem GFr.keeps {B lo : Nat} {w w' : World} (h : GFr B w w') (hB : B < lo) : GKeeps lo w w' := gkeeps_grown h hB
theorem GFr.size {B : Nat} {w w' : World} (h : GFr B w w') : w.heap.size ≤ w'.heap.size := World.grownBy.size h
theorem GFr.toBelow {B : Nat} {w w' : World} (h : GFr B w w') (hB : B ≤ w.heap.size) : Below B w w' :=
  ⟨h.os, h.tape, h.output, World.grownBy.size h, fun k hk => World.grownBy.block h k (by omega) (by simp; omega)⟩
theorem gkeeps_alloc (lo : Nat) (w : World) (o : Obj) : GKeeps lo w (w.alloc o) := gkeeps_grown_none (World.grownBy_alloc w o none)
end Go.Proofs.YtpbfgafkoodeoaaDoor

namespace Go.Proofs.YtpbfgafkoodeoaaDoor
open Go.ChangeShapes Go.WideShapes Go.ChangeAt Go.RowKit

section
variable {H : Type} {enc : TypeId × Value → H} {P : Program}
/-- The row's word of the end, where whatever lay before the call lies as it lay. -/
theorem post_behind {f : Func} {s : ChangeSpec} {apart fresh handsOn again : Bool} {W W' : World} {args : Array Value} {v : Value} {ds gs : List (DataW H)} {before pa pv : List MemPlace}
    (hW : DataW.Whole enc P f.params.toList s.vars apart W args.toList ds gs before)
    (hres : ∀ (b : Nat) (sp : Nat → Bool) (hd : Bool), DataW.TrodAll enc P W' b sp hd f.resultTypes.toList (v.resultList f.resultTypes.size) (s.fn H (ds ++ gs)).results [])
    (hargs : ∀ sp : Nat → Bool, (∀ p ∈ before, sp p.block = true) → DataW.TrodAll enc P W' 0 sp true f.params.toList args.toList (s.fn H (ds ++ gs)).args pa)
    (hvars : ∀ sp : Nat → Bool, (∀ p ∈ before, sp p.block = true) → DataW.TrodVars enc P W' sp s.vars (s.fn H (ds ++ gs)).vars pv)
    (hps : before = pa ++ pv) (hb : Below W.heap.size W W')
    (hok : ∀ (j : Nat) (t : TypeId) (r : Value), f.resultTypes[j]? = some t → (v.resultList f.resultTypes.size)[j]? = some r → Value.okWide P W' .any 0 t r) :
    s.post enc P f apart fresh handsOn again W args v W' := by
  have old : ∀ p ∈ before, p.block < W.heap.size := fun p hp => hW.lt p hp
  have oldB : ∀ p ∈ before, (fun b => decide (b < W.heap.size)) p.block = true := fun p hp => by simpa using old p hp
  have hW2 := hW
  obtain ⟨_, _, _, _, _, hz, hn⟩ := hW2
  subst hps
  refine ⟨ds, gs, _, [], pa, pv, hW, hres _ _ _, hargs _ oldB, hvars _ oldB, World.keptBut_mono (fun p hp => ⟨hp, Or.inr (List.mem_append.1 hp)⟩) (hb.frame _), fun _ => ⟨hok, _, _, ([] ++ pa) ++ pv, ⟨[] ++ pa, pv, trodAll_append (hargs _ (fun _ _ => rfl)) (hres _ _ _), hvars _ (fun _ _ => rfl), rfl, fun b off hp => ?_, fun ha => ?_⟩, fun p hp _ => ?_⟩⟩
  · have hp' : MemPlace.cell b off ∈ pa ++ pv := by simpa using hp
    rw [hb.frozen (old _ hp')]
    exact hz b off hp'
  · simpa using hn ha
  · simpa using hp
end

theorem own : ownKnob Tryd.prog.godebug = none := by kernel_rfl

/-- How a slice of bytes that came in is known: nil; or its bytes lie at an address, below block n. -/
def ArgB (w : World) (n : Nat) (sv : Value) (l : List UInt8) : Prop :=
  (sv = .slice none 0 0 ∧ l = []) ∨ ∃ ad cap, sv = .slice (some ad) l.length cap ∧ l.length ≤ cap ∧ (∀ j u, (Lib.byteCells l)[j]? = some u → w.cell? (ad.add j) = some u) ∧ (0 < l.length → ∃ bk off, ad = ⟨bk, off, none⟩ ∧ bk < n)
theorem laidOut : laidOutB Tryd.prog = true := by kernel_rfl
theorem cells1 : Tryd.prog.cellsOf 5 = 1 := by kernel_rfl
theorem bulk_lits {H : Type} (k : IntKind) : ∀ zs : List Int, zs.length ≤ Rows.uptoBulkAll (lits (H := H) k zs)
  | [] => Nat.zero_le _
  | z :: zs => by
    have := bulk_lits (H := H) k zs
    simp only [lits, List.map_cons, Rows.uptoBulkAll, Rows.uptoBulk, List.length_cons] at this ⊢
    omega
theorem opened_bytes {H : Type} {enc : TypeId × Value → H} {W : World} {a : Option Addr} {n c : Nat} {d : DataW H} {ps : List MemPlace} (h : DataW.Trod enc Tryd.prog W 0 (fun _ => true) true 22 (.slice a n c) d ps) :
    ∃ l, ArgB W W.heap.size (.slice a n c) l ∧ l.length ≤ Rows.uptoBulk d := by
  obtain ⟨f, hf⟩ := h
  rcases open_ints Tryd.underlying22 Tryd.underlying5 cells1 hf with ⟨hcs, hx⟩ | ⟨ad, len, cap, zs, hcs, _, hl, hm, hz, hx, hcell, hwz⟩
  · simp [Value.cells] at hcs
    obtain ⟨rfl, rfl, rfl⟩ := hcs
    exact ⟨[], .inl ⟨rfl, rfl⟩, Nat.zero_le _⟩
  · simp [Value.cells] at hcs
    obtain ⟨rfl, rfl, rfl⟩ := hcs
    simp only [Prod.mk.injEq] at hx
    obtain ⟨rfl, rfl⟩ := hx
    simp only [if_true] at hz
    have hn : ((zs.take n).map fun z => UInt8.ofNat z.toNat).length = n := by simp; omega
    refine ⟨(zs.take n).map fun z => UInt8.ofNat z.toNat, .inr ⟨ad, c, by rw [hn], by omega, fun j u hj => ?_, fun h0 => ?_⟩, ?_⟩
    · have hjl : j < n := by
        have := (List.getElem?_eq_some_iff.1 hj).1
        rw [Lib.byteCells_length, hn] at this
        exact this
      have hjz : j < zs.length := by omega
      rw [hcell j hjz, ← hj]
      have hw := hwz zs[j] (List.getElem_mem _)
      simp [Lit.wf, IntKind.min, IntKind.max, IntKind.signed, IntKind.bits] at hw
      have e : (UInt8.ofNat (zs[j]).toNat).toNat = (zs[j]).toNat := by simp; omega
      simp [Lib.byteCells, List.getD, hjz, hjl, -UInt8.toNat_ofNat', e]
      omega
    · rw [hn] at h0
      obtain ⟨b, off, rfl, hc⟩ := ints_at hcell (by omega)
      exact ⟨b, off, rfl, block_lt_of_cell (a := ⟨b, off + 0, none⟩) (hc 0 (by omega))⟩
    · rw [hn]
      have := bulk_lits (H := H) .u8 (zs.take n)
      simp only [Rows.uptoBulk]
      rw [List.length_take] at this
      omega

theorem ArgB.below {w w' : World} {sv : Value} {l : List UInt8} (h : ArgB w w.heap.size sv l) (hb : Below w.heap.size w w') : ArgB w' w'.heap.size sv l := by
  rcases h with ⟨rfl, rfl⟩ | ⟨ad, cap, rfl, hl, hc, hbx⟩
  · exact .inl ⟨rfl, rfl⟩
  · refine .inr ⟨ad, cap, rfl, hl, fun j u hj => ?_, fun h0 => ?_⟩
    · have hjl : j < (Lib.byteCells l).length := (List.getElem?_eq_some_iff.1 hj).1
      rw [Lib.byteCells_length] at hjl
      obtain ⟨bk, off, rfl, hbk⟩ := hbx (by omega)
      have := hc j u hj
      rw [← this]
      have e : (Addr.add ⟨bk, off, none⟩ j).block = bk := by unfold Addr.add; split <;> rfl
      exact World.cell?_of_block (w := w) (a := Addr.add ⟨bk, off, none⟩ j) (by rw [e]; exact hb.block bk hbk)
    · obtain ⟨bk, off, rfl, hbk⟩ := hbx h0
      exact ⟨bk, off, rfl, Nat.lt_of_lt_of_le hbk hb.size⟩
end Go.Proofs.YtpbfgafkoodeoaaDoor

namespace Go.Proofs.YtpbfgafkoodeoaaDoor
open Go.RowKit

/-- Choices in block C. -/
def MkAt (C : Nat) (w : World) : Prop :=
  ∃ (a : Option Addr) (n c k : Nat), w.heap[C]? = some (.cells #[.slice a n c, .int .i64 (k : Int)] 42 (0, 0)) ∧ k ≤ n ∧ n ≤ 1000 ∧
    ∀ i, i < n → ∃ (b o x : Nat), a = some ⟨b, o, none⟩ ∧ b < C ∧ x < 256 ∧ w.cell? ⟨b, o + i, none⟩ = some (.int .u8 (x : Int))
theorem MkAt.lt {C : Nat} {w : World} (h : MkAt C w) : C < w.heap.size := by
  obtain ⟨a, n, c, k, h, -⟩ := h; exact (Array.getElem?_eq_some_iff.1 h).1
theorem MkAt.grown {C : Nat} {w w' : World} {row : Option Nat} (h : MkAt C w) (hg : w.grownBy w' row) (hr : ∀ b, row = some b → C < b) : MkAt C w' := by
  have hlt := h.lt
  obtain ⟨a, n, c, k, h, h1, h2, h3⟩ := h
  refine ⟨a, n, c, k, (hg.block C hlt fun e => by have := hr C e.symm; omega).trans h, h1, h2, fun i hi => ?_⟩
  obtain ⟨b, o, x, ha, hb, hx, hc⟩ := h3 i hi
  exact ⟨b, o, x, ha, hb, hx, hg.cell (a := ⟨b, o + i, none⟩) hc fun e => by have := hr b e.symm; omega⟩
theorem MkAt.below {C : Nat} {w w' : World} (h : MkAt C w) (hb : Below w.heap.size w w') : MkAt C w' :=
  h.grown (row := none) ⟨hb.os, hb.tape, hb.output, hb.size, fun i hi _ => hb.block i hi⟩ fun _ e => by cases e
theorem MkAt.alloc {C : Nat} {w : World} (h : MkAt C w) (o : Obj) : MkAt C (w.alloc o) := h.below ((Below.refl _ _).alloc (Nat.le_refl _) o)
theorem MkAt.drewN {C : Nat} {w : World} (h : MkAt C w) (n : Nat) : MkAt C (w.drewN n) := h
theorem MkAt.drew {C : Nat} {w : World} (h : MkAt C w) : MkAt C w.drew := h

set_option maxRecDepth 100000 in
set_option maxHeartbeats 2000000 in
theorem new_any (sv : Value) (l : List UInt8) (most : Nat) (w : World) (h : ArgB w w.heap.size sv l) (hm : most ≤ 1000) :
    Calls Tryd.prog 5 #[sv, .int .i64 (most : Int)] w fun e w' => e = .returned (.pointer (some ⟨w.heap.size, 0, none⟩)) ∧ MkAt w.heap.size w' ∧ Below w.heap.size w w' := by
  rcases h with ⟨rfl, rfl⟩ | ⟨ad, cap, rfl, hlc, hc, hb⟩
  · have d1 : decide ((most : Int) < 0) = false := by simp
    have hn := heap_alloc_new w (.cells #[.slice none 0 0, .int .i64 0] 42)
    have H := Lib.hid hn
    clear hn
    go_enter Tryd.func5, Tryd.ntmps5
    go_wp2
    go_ret
    exact ⟨rfl, ⟨none, 0, 0, 0, H.out, Nat.le_refl _, by omega, fun i hi => by omega⟩, (Below.refl _ _).alloc (Nat.le_refl _) _⟩
  · have hcell : ∀ i, i < l.length → ∃ (b o x : Nat), (some ad : Option Addr) = some ⟨b, o, none⟩ ∧ b < w.heap.size ∧ x < 256 ∧ w.cell? ⟨b, o + i, none⟩ = some (.int .u8 (x : Int)) := fun i hi => by
      obtain ⟨bk, off, rfl, hbk⟩ := hb (by omega)
      have := hc i (.int .u8 (l[i].toNat : Int)) (by simp [Lib.byteCells, hi])
      refine ⟨bk, off, l[i].toNat, rfl, hbk, UInt8.toNat_lt _, ?_⟩
      rw [← this]
      unfold Addr.add
      split
      · rename_i hz; rw [hz]; rfl
      · rfl
    have H := Lib.hid hcell
    clear hcell hc hb
    by_cases hlen : most < l.length
    · have d1 : decide ((most : Int) < (l.length : Int)) = true := by simp; omega
      have d2 : decide (most < l.length) = true := by simp; omega
      obtain ⟨n, hn⟩ : ∃ n, l.length = n := ⟨_, rfl⟩
      rw [hn] at H hlen hlc d1 d2 ⊢
      have hN := heap_alloc_new w (.cells #[.slice (some ad) most cap, .int .i64 0] 42)
      have HN := Lib.hid hN
      clear hN hn
      go_enter Tryd.func5, Tryd.ntmps5
      go_wp2
      go_ret
      refine ⟨rfl, ⟨_, _, _, 0, HN.out, by omega, by omega, fun i hi => ?_⟩, (Below.refl _ _).alloc (Nat.le_refl _) _⟩
      obtain ⟨b, o, x, ha, hb, hx, hc⟩ := H.out i (by omega)
      exact ⟨b, o, x, ha, by omega, hx, gkeeps_alloc 0 w _ b _ _ (Nat.zero_le _) hc⟩
    · have d1 : decide ((most : Int) < (l.length : Int)) = false := by simp; omega
      have d2 : decide (most < l.length) = false := by simp; omega
      obtain ⟨n, hn⟩ : ∃ n, l.length = n := ⟨_, rfl⟩
      rw [hn] at H hlen hlc d1 d2 ⊢
      have hN := heap_alloc_new w (.cells #[.slice (some ad) n cap, .int .i64 0] 42)
      have HN := Lib.hid hN
      clear hN hn
      go_enter Tryd.func5, Tryd.ntmps5
      go_wp2
      go_ret
      refine ⟨rfl, ⟨_, _, _, 0, HN.out, by omega, by omega, fun i hi => ?_⟩, (Below.refl _ _).alloc (Nat.le_refl _) _⟩
      obtain ⟨b, o, x, ha, hb, hx, hc⟩ := H.out i (by omega)
      exact ⟨b, o, x, ha, by omega, hx, gkeeps_alloc 0 w _ b _ _ (Nat.zero_le _) hc⟩

abbrev mkPtr (C : Nat) : Value := .pointer (some ⟨C, 0, none⟩)
set_option maxRecDepth 100000 in
set_option maxHeartbeats 2000000 in
theorem left_any (C : Nat) (a : Option Addr) (n c k : Nat) (w : World) (h : w.heap[C]? = some (.cells #[.slice a n c, .int .i64 (k : Int)] 42 (0, 0))) (_hk : k ≤ n) (_hn : n ≤ 1000) :
    Calls Tryd.prog 31 #[.pointer (some ⟨C, 0, none⟩)] w fun e w' => e = .returned (.bool (decide (k < n))) ∧ ∃ m, w' = w.drewN m := by
  have c0 : w.cell? ⟨C, 0, none⟩ = some (.slice a n c) := by rw [Lib.cell_of_heap h]; rfl
  have c1 : w.cell? ⟨C, 1, none⟩ = some (.int .i64 (k : Int)) := by rw [Lib.cell_of_heap h]; rfl
  clear h
  obtain ⟨r, hr⟩ : ∃ r, decide (k < n) = r := ⟨_, rfl⟩
  have d1 : decide ((k : Int) < (n : Int)) = r := by rw [← hr]; simp
  rw [hr]
  go_enter Tryd.func31, Tryd.ntmps31
  go_wp2
  go_quiet (fail)
  go_wp2
  go_ret
  exact ⟨rfl, _, rfl⟩

theorem mk_set {C : Nat} {a : Option Addr} {n c k : Nat} {w : World} (h : w.heap[C]? = some (.cells #[.slice a n c, .int .i64 (k : Int)] 42 (0, 0))) (z : Int) :
    (w.setCell ⟨C, 1, none⟩ (.int .i64 z)).heap[C]? = some (.cells #[.slice a n c, .int .i64 z] 42 (0, 0)) := by
  simp [World.setCell, Array.getElem?_modify, h]

/-- What a choice that is left reads and writes. -/
theorem mk_step {C : Nat} {a : Option Addr} {n c k : Nat} {w : World} (hb : w.heap[C]? = some (.cells #[.slice a n c, .int .i64 (k : Int)] 42 (0, 0))) (hn : n ≤ 1000)
    (hc : ∀ i, i < n → ∃ (b o x : Nat), a = some ⟨b, o, none⟩ ∧ b < C ∧ x < 256 ∧ w.cell? ⟨b, o + i, none⟩ = some (.int .u8 (x : Int))) (hlt : k < n) :
    ∃ (g o x : Nat), a = some ⟨g, o, none⟩ ∧ x < 256 ∧ w.cell? ⟨C, 1, none⟩ = some (.int .i64 (k : Int)) ∧ w.frozen? ⟨C, 1, none⟩ = false ∧
      (w.setCell ⟨C, 1, none⟩ (.int .i64 ((k : Int) + 1))).cell? ⟨C, 0, none⟩ = some (.slice a n c) ∧ (w.setCell ⟨C, 1, none⟩ (.int .i64 ((k : Int) + 1))).cell? ⟨C, 1, none⟩ = some (.int .i64 ((k : Int) + 1)) ∧
      (w.setCell ⟨C, 1, none⟩ (.int .i64 ((k : Int) + 1))).cell? ⟨g, o + k, none⟩ = some (.int .u8 (x : Int)) ∧ MkAt C (w.setCell ⟨C, 1, none⟩ (.int .i64 ((k : Int) + 1))) ∧ GFr C w (w.setCell ⟨C, 1, none⟩ (.int .i64 ((k : Int) + 1))) := by
  obtain ⟨g, o, x, rfl, hg, hx, hcx⟩ := hc k hlt
  have hs := mk_set hb ((k : Int) + 1)
  refine ⟨g, o, x, rfl, hx, by rw [Lib.cell_of_heap hb]; rfl, Lib.frozen_of_heap hb 1, by rw [Lib.cell_of_heap hs]; rfl, by rw [Lib.cell_of_heap hs]; rfl, ?_, ⟨_, n, c, k + 1, by push_cast; exact hs, by omega, hn, fun i hi => ?_⟩, (GFr.refl C w).setCell 1 _⟩
  · rw [← hcx]
    exact World.cell?_of_block (w := w) (Below.heap_setCell w _ _ g (by simp only [ne_eq]; omega))
  · obtain ⟨b', o', x', ha', hb', hx', hc'⟩ := hc i hi
    refine ⟨b', o', x', ha', hb', hx', ?_⟩
    rw [← hc']
    exact World.cell?_of_block (w := w) (Below.heap_setCell w _ _ b' (by simp only [ne_eq]; omega))

set_option maxRecDepth 100000 in
set_option maxHeartbeats 2000000 in
theorem next_any (C : Nat) (m : Int) (w : World) (h : MkAt C w) (hm1 : 1 ≤ m) (hm2 : m ≤ 1000) :
    Calls Tryd.prog 13 #[.pointer (some ⟨C, 0, none⟩), .int .i64 m] w fun e w' => (∃ z : Int, e = .returned (.int .i64 z) ∧ 0 ≤ z ∧ z < m) ∧ MkAt C w' ∧ GFr C w w' := by
  have h0 := h
  obtain ⟨a, n, c, k, hb, hk, hn, hc⟩ := h
  have hl := left_any C a n c k w hb hk hn
  have d0 : decide (m < 1) = false := by simp; omega
  by_cases hlt : k < n
  · rw [decide_eq_true hlt] at hl
    have hst : ∀ m1, _ := fun m1 => mk_step (w := w.drewN m1) (hb : (w.drewN m1).heap[C]? = _) hn hc hlt
    have H := Lib.hid (And.intro hl hst)
    clear hl hst hb hc h0
    go_enter Tryd.func13, Tryd.ntmps13
    go_wp2_with fail
    refine (H.out.1).mono ?_
    rintro e w1 ⟨rfl, m1, hw1⟩
    obtain ⟨g, o, x, rfl, hx, c1, f1, s0, s1, s2, hmk, hfr⟩ := H.out.2 m1
    rw [← hw1] at c1 f1 s0 s1 s2 hmk hfr
    have K := Lib.hid (And.intro hmk (And.intro hfr hw1))
    clear hmk hfr hw1
    go_wp2
    go_quiet (fail)
    go_wp2
    go_ret
    have hfr2 : GFr C w w1 := by rw [K.out.2.2]; exact (GFr.refl _ _).drewN _
    refine ⟨⟨_, rfl, ?_, ?_⟩, K.out.1.drewN _, (hfr2.trans K.out.2.1).drewN _⟩
    · exact Int.emod_nonneg _ (by omega)
    · exact Int.emod_lt_of_pos _ (by omega)
  · rw [decide_eq_false hlt] at hl
    have H := Lib.hid (And.intro hl h0)
    clear hl h0 hc hb
    go_enter Tryd.func13, Tryd.ntmps13
    go_wp2_with fail
    refine (H.out.1).mono ?_
    rintro e w1 ⟨rfl, m1, rfl⟩
    go_wp2
    go_ret
    exact ⟨⟨0, rfl, by omega, by omega⟩, H.out.2.drewN _, (GFr.refl _ _).drewN _⟩
set_option maxRecDepth 100000 in
set_option maxHeartbeats 4000000 in
theorem pick_any (C b c : Nat) (L : List ByteArray) (w : World) (h : MkAt C w) (hb : C < b) (hc : ∀ i (hi : i < L.length), w.cell? ⟨b, i, none⟩ = some (.string L[i])) (h0 : 0 < L.length) (h1 : L.length ≤ 1000) :
    Calls Tryd.prog 12 #[.pointer (some ⟨C, 0, none⟩), .slice (some ⟨b, 0, none⟩) L.length c] w fun e w' => (∃ s : ByteArray, e = .returned (.string s) ∧ s ∈ L) ∧ MkAt C w' ∧ GFr C w w' := by
  have hn := next_any C L.length w h (by omega) (by omega)
  have H := Lib.hid (And.intro hn hc)
  clear hn hc h
  go_enter Tryd.func12, Tryd.ntmps12
  go_wp2_with fail
  refine (H.out.1).mono ?_
  rintro e w1 ⟨⟨z, rfl, hz0, hz1⟩, hm1, hf1⟩
  obtain ⟨i, rfl⟩ : ∃ i : Nat, z = (i : Int) := ⟨z.toNat, by omega⟩
  have hi : i < L.length := by omega
  have hcl : w1.cell? ⟨b, i, none⟩ = some (.string L[i]) := by
    have := H.out.2 i hi
    exact hf1.keeps (lo := b) hb b i _ (Nat.le_refl _) this
  have hmem : L[i] ∈ L := List.getElem_mem hi
  obtain ⟨x, hx⟩ : ∃ x, L[i] = x := ⟨_, rfl⟩
  rw [hx] at hcl hmem
  have K := Lib.hid (And.intro hm1 (And.intro hf1 hmem))
  clear hm1 hf1 hmem hx
  go_wp2
  go_ret
  exact ⟨⟨x, rfl, K.out.2.2⟩, K.out.1, K.out.2.1⟩

end Go.Proofs.YtpbfgafkoodeoaaDoor

namespace Go.Proofs.YtpbfgafkoodeoaaDoor
open Go.RowKit

/-- A list of strings of at most B bytes each. -/
def strsB (B : Nat) : List Value → Bool
  | [] => true
  | .string s :: r => decide (s.size ≤ B) && strsB B r
  | _ :: _ => false
theorem strsB_get {B : Nat} : ∀ {l : List Value} (_ : strsB B l = true) (i : Nat) (_ : i < l.length), ∃ s : ByteArray, l[i]? = some (.string s) ∧ s.size ≤ B
  | [], _, i, h => by simp at h
  | .string s :: r, h, 0, _ => by
    simp only [strsB, Bool.and_eq_true, decide_eq_true_iff] at h
    exact ⟨s, rfl, h.1⟩
  | .string s :: r, h, i + 1, hi => by
    simp only [strsB, Bool.and_eq_true] at h
    simp only [List.length_cons] at hi
    obtain ⟨t, e, ht⟩ := strsB_get h.2 i (by omega)
    exact ⟨t, by simpa using e, ht⟩

set_option maxRecDepth 100000 in
set_option maxHeartbeats 4000000 in
theorem pickB (C : Nat) (cs : Array Value) (T : TypeId) (w : World) (N B : Nat) (h : MkAt C w) (hN : cs.toList.length = N) (h0 : 0 < N) (h1 : N ≤ 1000) (hs : strsB B cs.toList = true) :
    Calls Tryd.prog 12 #[.pointer (some ⟨C, 0, none⟩), .slice (some ⟨w.heap.size, 0, none⟩) N N] (w.alloc (.cells cs T)) fun e w' => (∃ s : ByteArray, e = .returned (.string s) ∧ s.size ≤ B) ∧ MkAt C w' ∧ GFr C w w' := by
  have hlt := h.lt
  have hn := next_any C N _ (h.alloc (.cells cs T)) (by omega) (by omega)
  have hr : (w.alloc (.cells cs T)).heap[w.heap.size]? = some (.cells cs T (0, 0)) := heap_alloc_new _ _
  have hrs : w.heap.size < (w.alloc (.cells cs T)).heap.size := by simp
  have H := Lib.hid (And.intro hn (And.intro hr (And.intro (strsB_get hs) (And.intro hN hrs))))
  clear hn hr hs hN hrs
  go_enter Tryd.func12, Tryd.ntmps12
  go_wp2_with fail
  refine (H.out.1).mono ?_
  rintro e w1 ⟨⟨z, rfl, hz0, hz1⟩, hm1, hf1⟩
  obtain ⟨i, rfl⟩ : ∃ i : Nat, z = (i : Int) := ⟨z.toNat, by omega⟩
  have hi : i < N := by omega
  obtain ⟨x, hx, hxB⟩ := H.out.2.2.1 i (by rw [H.out.2.2.2.1]; exact hi)
  have hcl : w1.cell? ⟨w.heap.size, i, none⟩ = some (.string x) := by
    have hb := (World.grownBy.block hf1 w.heap.size H.out.2.2.2.2 (by simp; omega)).trans H.out.2.1
    rw [Lib.cell_of_heap hb, ← hx]
    simp
  have K := Lib.hid (And.intro hm1 (And.intro (((GFr.refl C w).alloc _).trans hf1) hxB))
  clear hm1 hf1 hxB hx
  go_wp2
  go_ret
  exact ⟨⟨x, rfl, K.out.2.2⟩, K.out.1, K.out.2.1⟩

set_option maxRecDepth 100000 in
set_option linter.unusedSimpArgs false in
set_option maxHeartbeats 8000000 in
theorem gtext_any (C : Nat) (w : World) (h : MkAt C w) :
    Calls Tryd.prog 14 #[.pointer (some ⟨C, 0, none⟩), .int .i64 5] w fun e w' => (∃ s : ByteArray, e = .returned (.string s) ∧ s.size ≤ 20) ∧ MkAt C w' ∧ GFr C w w' := by
  have hn := next_any C 6 w h (by omega) (by omega)
  have H := Lib.hid hn
  clear hn h
  go_enter Tryd.func14, Tryd.ntmps14
  go_wp2_with fail
  refine (H.out).mono ?_
  rintro e w1 ⟨⟨z, rfl, hz0, hz1⟩, hm1, hf1⟩
  obtain ⟨k0, rfl⟩ : ∃ i : Nat, z = (i : Int) := ⟨z.toNat, by omega⟩
  have hk0 : k0 ≤ 5 := by omega
  have K := Lib.hid (And.intro hm1 hf1)
  clear hm1 hf1 hz0 hz1
  go_wp2_with fail
  go_loopw [5, 6] (fun sv nv wr => ∃ (x : ByteArray) (k : Nat), sv = .string x ∧ nv = .int .i64 k ∧ x.size + 4 * k ≤ 20 ∧ MkAt C wr ∧ GFr C w wr) (fun _ nv _ => (intOf nv).toNat)
  case atStart => exact ⟨⟨#[]⟩, k0, rfl, rfl, by have : (ByteArray.mk #[]).size = 0 := rfl; omega, K.out.1, K.out.2⟩
  case round =>
    obtain ⟨x, k, rfl, rfl, hx, hm, hf⟩ := hrel
    by_cases hk : 0 < k
    · have d1 : decide ((0 : Int) < (k : Int)) = true := by rw [decide_eq_true_iff]; omega
      have d2 : decide (0 < k) = true := by rw [decide_eq_true_iff]; omega
      have HI := Lib.hid (And.intro hm hf)
      clear hm hf
      go_wp2_with fail
      refine (pickB C _ _ _ 18 4 HI.out.1 rfl (by omega) (by omega) (by rfl)).mono ?_
      rintro e w2 ⟨⟨y, rfl, hy⟩, hm2, hf2⟩
      have HJ := Lib.hid (And.intro hm2 (HI.out.2.trans hf2))
      clear hm2 hf2
      have hcat : (x ++ y).size = x.size + y.size := ByteArray.size_append
      have HC := Lib.hid hcat
      clear hcat
      go_wp2
      go_roundw
      case rel => exact ⟨x ++ y, k - 1, rfl, by congr 1; omega, by have := HC.out; omega, HJ.out.1, HJ.out.2⟩
      case measure => simp [intOf]; omega
    · obtain rfl : k = 0 := by omega
      have HI := Lib.hid (And.intro hm hf)
      clear hm hf
      go_wp2
      go_ret
      exact ⟨⟨x, rfl, by omega⟩, HI.out.1, HI.out.2⟩

set_option maxRecDepth 100000 in
set_option linter.unusedSimpArgs false in
set_option maxHeartbeats 8000000 in
theorem text_any (C : Nat) (w : World) (h : MkAt C w) :
    Calls Tryd.prog 6 #[.pointer (some ⟨C, 0, none⟩)] w fun e w' => (∃ s : ByteArray, e = .returned (.string s) ∧ s.size ≤ 200) ∧ MkAt C w' ∧ GFr C w w' := by
  have K0 := Lib.hid (And.intro h (GFr.refl C w))
  clear h
  go_enter Tryd.func6, Tryd.ntmps6
  go_wp2_with fail
  refine (pickB C _ _ _ 7 20 K0.out.1 rfl (by omega) (by omega) (by rfl)).mono ?_
  rintro e w1 ⟨⟨a1, rfl, za1⟩, hm, hf⟩
  have K1 := Lib.hid (And.intro hm (K0.out.2.trans hf))
  clear hm hf
  go_wp2_with fail
  refine (next_any C 6 _ K1.out.1 (by omega) (by omega)).mono ?_
  rintro e w2 ⟨⟨z, rfl, hz0, hz1⟩, hm, hf⟩
  have K2 := Lib.hid (And.intro hm (K1.out.2.trans hf))
  clear hm hf
  have h6 : z = 0 ∨ z = 1 ∨ z = 2 ∨ z = 3 ∨ z = 4 ∨ z = 5 := by omega
  clear hz0 hz1
  rcases h6 with rfl | rfl | rfl | rfl | rfl | rfl
  · go_wp2_with fail
    refine (pickB C _ _ _ 7 20 K2.out.1 rfl (by omega) (by omega) (by rfl)).mono ?_
    rintro e w3 ⟨⟨a3, rfl, za3⟩, hm, hf⟩
    have K3 := Lib.hid (And.intro hm (K2.out.2.trans hf))
    clear hm hf
    go_wp2_with fail
    refine (pickB C _ _ _ 3 20 K3.out.1 rfl (by omega) (by omega) (by rfl)).mono ?_
    rintro e w4 ⟨⟨a4, rfl, za4⟩, hm, hf⟩
    have K4 := Lib.hid (And.intro hm (K3.out.2.trans hf))
    clear hm hf
    go_wp2_with fail
    refine (pickB C _ _ _ 7 20 K4.out.1 rfl (by omega) (by omega) (by rfl)).mono ?_
    rintro e w5 ⟨⟨a5, rfl, za5⟩, hm, hf⟩
    have K5 := Lib.hid (And.intro hm (K4.out.2.trans hf))
    clear hm hf
    go_wp2_with fail
    refine (pickB C _ _ _ 4 20 K5.out.1 rfl (by omega) (by omega) (by rfl)).mono ?_
    rintro e w6 ⟨⟨a6, rfl, za6⟩, hm, hf⟩
    have K6 := Lib.hid (And.intro hm (K5.out.2.trans hf))
    clear hm hf
    go_wp2
    go_ret
    exact ⟨⟨_, rfl, by simp only [ByteArray.size_append]; have l32 : (ByteArray.mk #[32]).size = 1 := rfl; have l47 : (ByteArray.mk #[47]).size = 1 := rfl; omega⟩, K6.out.1, K6.out.2⟩
  · go_wp2_with fail
    refine (pickB C _ _ _ 5 20 K2.out.1 rfl (by omega) (by omega) (by rfl)).mono ?_
    rintro e w3 ⟨⟨a3, rfl, za3⟩, hm, hf⟩
    have K3 := Lib.hid (And.intro hm (K2.out.2.trans hf))
    clear hm hf
    go_wp2_with fail
    refine (pickB C _ _ _ 3 20 K3.out.1 rfl (by omega) (by omega) (by rfl)).mono ?_
    rintro e w4 ⟨⟨a4, rfl, za4⟩, hm, hf⟩
    have K4 := Lib.hid (And.intro hm (K3.out.2.trans hf))
    clear hm hf
    go_wp2_with fail
    refine (pickB C _ _ _ 5 20 K4.out.1 rfl (by omega) (by omega) (by rfl)).mono ?_
    rintro e w5 ⟨⟨a5, rfl, za5⟩, hm, hf⟩
    have K5 := Lib.hid (And.intro hm (K4.out.2.trans hf))
    clear hm hf
    go_wp2_with fail
    refine (pickB C _ _ _ 4 20 K5.out.1 rfl (by omega) (by omega) (by rfl)).mono ?_
    rintro e w6 ⟨⟨a6, rfl, za6⟩, hm, hf⟩
    have K6 := Lib.hid (And.intro hm (K5.out.2.trans hf))
    clear hm hf
    go_wp2
    go_ret
    exact ⟨⟨_, rfl, by simp only [ByteArray.size_append]; have l32 : (ByteArray.mk #[32]).size = 1 := rfl; have l47 : (ByteArray.mk #[47]).size = 1 := rfl; omega⟩, K6.out.1, K6.out.2⟩
  · go_wp2_with fail
    refine (pickB C _ _ _ 5 20 K2.out.1 rfl (by omega) (by omega) (by rfl)).mono ?_
    rintro e w3 ⟨⟨a3, rfl, za3⟩, hm, hf⟩
    have K3 := Lib.hid (And.intro hm (K2.out.2.trans hf))
    clear hm hf
    go_wp2_with fail
    refine (pickB C _ _ _ 4 20 K3.out.1 rfl (by omega) (by omega) (by rfl)).mono ?_
    rintro e w4 ⟨⟨a4, rfl, za4⟩, hm, hf⟩
    have K4 := Lib.hid (And.intro hm (K3.out.2.trans hf))
    clear hm hf
    go_wp2_with fail
    refine (pickB C _ _ _ 6 20 K4.out.1 rfl (by omega) (by omega) (by rfl)).mono ?_
    rintro e w5 ⟨⟨a5, rfl, za5⟩, hm, hf⟩
    have K5 := Lib.hid (And.intro hm (K4.out.2.trans hf))
    clear hm hf
    go_wp2_with fail
    refine (pickB C _ _ _ 4 20 K5.out.1 rfl (by omega) (by omega) (by rfl)).mono ?_
    rintro e w6 ⟨⟨a6, rfl, za6⟩, hm, hf⟩
    have K6 := Lib.hid (And.intro hm (K5.out.2.trans hf))
    clear hm hf
    go_wp2
    go_ret
    exact ⟨⟨_, rfl, by simp only [ByteArray.size_append]; have l32 : (ByteArray.mk #[32]).size = 1 := rfl; have l47 : (ByteArray.mk #[47]).size = 1 := rfl; omega⟩, K6.out.1, K6.out.2⟩
  · go_wp2_with fail
    refine (pickB C _ _ _ 5 20 K2.out.1 rfl (by omega) (by omega) (by rfl)).mono ?_
    rintro e w3 ⟨⟨a3, rfl, za3⟩, hm, hf⟩
    have K3 := Lib.hid (And.intro hm (K2.out.2.trans hf))
    clear hm hf
    go_wp2_with fail
    refine (pickB C _ _ _ 4 20 K3.out.1 rfl (by omega) (by omega) (by rfl)).mono ?_
    rintro e w4 ⟨⟨a4, rfl, za4⟩, hm, hf⟩
    have K4 := Lib.hid (And.intro hm (K3.out.2.trans hf))
    clear hm hf
    go_wp2
    go_ret
    exact ⟨⟨_, rfl, by simp only [ByteArray.size_append]; have l32 : (ByteArray.mk #[32]).size = 1 := rfl; have l47 : (ByteArray.mk #[47]).size = 1 := rfl; omega⟩, K4.out.1, K4.out.2⟩
  · go_wp2_with fail
    refine (pickB C _ _ _ 4 20 K2.out.1 rfl (by omega) (by omega) (by rfl)).mono ?_
    rintro e w3 ⟨⟨a3, rfl, za3⟩, hm, hf⟩
    have K3 := Lib.hid (And.intro hm (K2.out.2.trans hf))
    clear hm hf
    go_wp2
    go_ret
    exact ⟨⟨_, rfl, by simp only [ByteArray.size_append]; have l32 : (ByteArray.mk #[32]).size = 1 := rfl; have l47 : (ByteArray.mk #[47]).size = 1 := rfl; omega⟩, K3.out.1, K3.out.2⟩
  · go_wp2_with fail
    refine (gtext_any C _ K2.out.1).mono ?_
    rintro e w3 ⟨⟨a3, rfl, za3⟩, hm, hf⟩
    have K3 := Lib.hid (And.intro hm (K2.out.2.trans hf))
    clear hm hf
    go_wp2_with fail
    refine (pickB C _ _ _ 4 20 K3.out.1 rfl (by omega) (by omega) (by rfl)).mono ?_
    rintro e w4 ⟨⟨a4, rfl, za4⟩, hm, hf⟩
    have K4 := Lib.hid (And.intro hm (K3.out.2.trans hf))
    clear hm hf
    go_wp2
    go_ret
    exact ⟨⟨_, rfl, by simp only [ByteArray.size_append]; omega⟩, K4.out.1, K4.out.2⟩

end Go.Proofs.YtpbfgafkoodeoaaDoor
