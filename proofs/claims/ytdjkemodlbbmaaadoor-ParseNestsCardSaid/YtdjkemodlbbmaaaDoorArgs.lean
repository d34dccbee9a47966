/- What a law's row gives of its arguments, for every layer: the row's word of the end; a []byte argument opened; the bound of a second form. -/
import Derived.Test.YtdjkemodlbbmaaaDoorCards
import Derived.Test.YtdjkemodlbbmaaaDoorTie
import Derived.WalkKit
import Derived.ProofKit
import Derived.OpenShut
import Derived.Carry
import Derived.Below
import Derived.Lib.AppendStr
import Derived.Lib.UnsafeStr
import Derived.Deep.DeepHandedRow
namespace Go.Proofs.YtdjkemodlbbmaaaDoor
open Go.ChangeShapes Go.WideShapes Go.ChangeAt Go.RowKit

section
variable {H : Type} {enc : TypeId × Value → H} {P : Program}
/-- The row's word of the end, where whatever lay before the call lies as it lay. -/
theorem post_behind {f : Func} {s : ChangeSpec} {apart fresh handsOn again : Bool} {W W' : World} {args : Array Value} {v : Value} {ds gs : List (DataW H)} {before pa pv : List MemPlace}
    (hW : DataW.Whole enc P f.params.toList s.vars apart W args.toList ds gs before)
    (hres : ∀ (b : Nat) (sp : Nat → Bool) (hd : Bool), DataW.TrodAll enc P W' b sp hd f.resultTypes.toList (v.resultList f.resultTypes.size) (s.fn H (ds ++ gs)).results [])
    (hargs : ∀ sp : Nat → Bool, (∀ p ∈ before, sp p.block = true) → DataW.TrodAll enc P W' 0 sp true f.params.toList args.toList (s.fn H (ds ++ gs)).args pa)
    (hvars : ∀ sp : Nat → Bool, (∀ p ∈ before, sp p.block = true) → DataW.TrodVars enc P W' sp s.vars (s.fn H (ds ++ gs)).vars pv)
    (hps : before = pa ++ pv) (hb : Below W.heap.size W W')
    (hok : ∀ (j : Nat) (t : TypeId) (r : Value), f.resultTypes[j]? = some t → (v.resultList f.resultTypes.size)[j]? = some r → Value.okWide P W' .any 0 t r) :
    s.post enc P f apart fresh handsOn again W args v W' := by
  have old : ∀ p ∈ before, p.block < W.heap.size := fun p hp => hW.lt p hp
  have oldB : ∀ p ∈ before, (fun b => decide (b < W.heap.size)) p.block = true := fun p hp => by simpa using old p hp
  have hW2 := hW
  obtain ⟨_, _, _, _, _, hz, hn⟩ := hW2
  subst hps
  refine ⟨ds, gs, _, [], pa, pv, hW, hres _ _ _, hargs _ oldB, hvars _ oldB, World.keptBut_mono (fun p hp => ⟨hp, Or.inr (List.mem_append.1 hp)⟩) (hb.frame _), fun _ => ⟨hok, _, _, ([] ++ pa) ++ pv, ⟨[] ++ pa, pv, trodAll_append (hargs _ (fun _ _ => rfl)) (hres _ _ _), hvars _ (fun _ _ => rfl), rfl, fun b off hp => ?_, fun ha => ?_⟩, fun p hp _ => ?_⟩⟩
  · have hp' : MemPlace.cell b off ∈ pa ++ pv := by simpa using hp
    rw [hb.frozen (old _ hp')]
    exact hz b off hp'
  · simpa using hn ha
  · simpa using hp
end

theorem own : ownKnob Tryd.prog.godebug = none := by kernel_rfl

/-- How a slice of bytes that came in is known: nil; or its bytes lie at an address, below block n. -/
def ArgB (w : World) (n : Nat) (sv : Value) (l : List UInt8) : Prop :=
  (sv = .slice none 0 0 ∧ l = []) ∨ ∃ ad cap, sv = .slice (some ad) l.length cap ∧ l.length ≤ cap ∧ (∀ j u, (Lib.byteCells l)[j]? = some u → w.cell? (ad.add j) = some u) ∧ (0 < l.length → ∃ bk off, ad = ⟨bk, off, none⟩ ∧ bk < n)
theorem laidOut : laidOutB Tryd.prog = true := by kernel_rfl
theorem cells1 : Tryd.prog.cellsOf 5 = 1 := by kernel_rfl
theorem bulk_lits {H : Type} (k : IntKind) : ∀ zs : List Int, zs.length ≤ Rows.uptoBulkAll (lits (H := H) k zs)
  | [] => Nat.zero_le _
  | z :: zs => by
    have := bulk_lits (H := H) k zs
    simp only [lits, List.map_cons, Rows.uptoBulkAll, Rows.uptoBulk, List.length_cons] at this ⊢
    omega
theorem opened_bytes {H : Type} {enc : TypeId × Value → H} {W : World} {a : Option Addr} {n c : Nat} {d : DataW H} {ps : List MemPlace} (h : DataW.Trod enc Tryd.prog W 0 (fun _ => true) true 23 (.slice a n c) d ps) :
    ∃ l, ArgB W W.heap.size (.slice a n c) l ∧ l.length ≤ Rows.uptoBulk d := by
  obtain ⟨f, hf⟩ := h
  rcases open_ints Tryd.underlying23 Tryd.underlying5 cells1 hf with ⟨hcs, hx⟩ | ⟨ad, len, cap, zs, hcs, _, hl, hm, hz, hx, hcell, hwz⟩
  · simp [Value.cells] at hcs
    obtain ⟨rfl, rfl, rfl⟩ := hcs
    exact ⟨[], .inl ⟨rfl, rfl⟩, Nat.zero_le _⟩
  · simp [Value.cells] at hcs
    obtain ⟨rfl, rfl, rfl⟩ := hcs
    simp only [Prod.mk.injEq] at hx
    obtain ⟨rfl, rfl⟩ := hx
    simp only [if_true] at hz
    have hn : ((zs.take n).map fun z => UInt8.ofNat z.toNat).length = n := by simp; omega
    refine ⟨(zs.take n).map fun z => UInt8.ofNat z.toNat, .inr ⟨ad, c, by rw [hn], by omega, fun j u hj => ?_, fun h0 => ?_⟩, ?_⟩
    · have hjl : j < n := by
        have := (List.getElem?_eq_some_iff.1 hj).1
        rw [Lib.byteCells_length, hn] at this
        exact this
      have hjz : j < zs.length := by omega
      rw [hcell j hjz, ← hj]
      have hw := hwz zs[j] (List.getElem_mem _)
      simp [Lit.wf, IntKind.min, IntKind.max, IntKind.signed, IntKind.bits] at hw
      have e : (UInt8.ofNat (zs[j]).toNat).toNat = (zs[j]).toNat := by simp; omega
      simp [Lib.byteCells, List.getD, hjz, hjl, -UInt8.toNat_ofNat', e]
      omega
    · rw [hn] at h0
      obtain ⟨b, off, rfl, hc⟩ := ints_at hcell (by omega)
      exact ⟨b, off, rfl, block_lt_of_cell (a := ⟨b, off + 0, none⟩) (hc 0 (by omega))⟩
    · rw [hn]
      have := bulk_lits (H := H) .u8 (zs.take n)
      simp only [Rows.uptoBulk]
      rw [List.length_take] at this
      omega

theorem ArgB.below {w w' : World} {sv : Value} {l : List UInt8} (h : ArgB w w.heap.size sv l) (hb : Below w.heap.size w w') : ArgB w' w'.heap.size sv l := by
  rcases h with ⟨rfl, rfl⟩ | ⟨ad, cap, rfl, hl, hc, hbx⟩
  · exact .inl ⟨rfl, rfl⟩
  · refine .inr ⟨ad, cap, rfl, hl, fun j u hj => ?_, fun h0 => ?_⟩
    · have hjl : j < (Lib.byteCells l).length := (List.getElem?_eq_some_iff.1 hj).1
      rw [Lib.byteCells_length] at hjl
      obtain ⟨bk, off, rfl, hbk⟩ := hbx (by omega)
      have := hc j u hj
      rw [← this]
      have e : (Addr.add ⟨bk, off, none⟩ j).block = bk := by unfold Addr.add; split <;> rfl
      exact World.cell?_of_block (w := w) (a := Addr.add ⟨bk, off, none⟩ j) (by rw [e]; exact hb.block bk hbk)
    · obtain ⟨bk, off, rfl, hbk⟩ := hbx h0
      exact ⟨bk, off, rfl, Nat.lt_of_lt_of_le hbk hb.size⟩
end Go.Proofs.YtdjkemodlbbmaaaDoor
