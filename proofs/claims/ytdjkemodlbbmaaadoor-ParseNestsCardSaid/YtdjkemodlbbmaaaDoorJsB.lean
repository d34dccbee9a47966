/- The document in memory, and the contracts of its methods that read tokens. -/
import Derived.Test.YtdjkemodlbbmaaaDoorJsA
import Derived.Test.YtdjkemodlbbmaaaDoorKvI
import Derived.Test.YtdjkemodlbbmaaaDoorKvM
import Derived.Test.YtdjkemodlbbmaaaDoorShelfT
import Derived.Shelf.Strings.SlTrimAscii
namespace Go.Proofs.YtdjkemodlbbmaaaDoor
open Go.RowKit Go.Shelf

theorem trimSet_any (s : ByteArray) (cs : List UInt8) (w : World) (hcs : cs.length < 100) (ha : ∀ b ∈ cs, b.toNat < 128) :
    Calls Tryd.prog 30 #[.string s, .string ⟨cs.toArray⟩] w fun e w' => e = .returned (.string ⟨(Lib.trimLeftS s.data.toList cs).toArray⟩) ∧ Below w.heap.size w w' :=
  Any.strings_TrimLeft_laid Tryd.laysTrim (by kernel_rfl) s ⟨cs.toArray⟩ w (by show cs.length < _; omega) (fun j b hb => ha b (List.mem_of_getElem? hb))
/-- The document in block D: what is left, the path, the fields. -/
structure DocI (D : Nat) (w : World) (r : List UInt8) (P : List ByteArray) (F : List FldV) : Prop where
  ex : ∃ vp vf, w.heap[D]? = some (.cells #[.string ⟨r.toArray⟩, vp, vf] 62 (0, 0)) ∧ w.ownsRow (D + 1) 9 1 vp P.length (encT P) ∧ FsR (D + 1) w vf F
theorem DocI.lt {D : Nat} {w : World} {r : List UInt8} {P : List ByteArray} {F : List FldV} (h : DocI D w r P F) : D < w.heap.size := by
  obtain ⟨vp, vf, h1, -⟩ := h.ex; exact (Array.getElem?_eq_some_iff.1 h1).1
theorem DocI.below {D : Nat} {w w' : World} {r : List UInt8} {P : List ByteArray} {F : List FldV} (h : DocI D w r P F) (k : Below w.heap.size w w') : DocI D w' r P F := by
  have hlt := h.lt
  obtain ⟨vp, vf, h1, h2, h3⟩ := h.ex
  exact ⟨vp, vf, (k.block D hlt).trans h1, rowf_below h2 k, h3.below k⟩
theorem DocI.drewN {D : Nat} {w : World} {r : List UInt8} {P : List ByteArray} {F : List FldV} (h : DocI D w r P F) (n : Nat) : DocI D (w.drewN n) r P F := h.below ⟨rfl, rfl, rfl, Nat.le_refl _, fun _ _ => rfl⟩
theorem doc3 {w : World} {b : Nat} {x y z : Value} {T : TypeId} (h : w.heap[b]? = some (.cells #[x, y, z] T (0, 0))) :
    w.cell? ⟨b, 0, none⟩ = some x ∧ w.cell? ⟨b, 1, none⟩ = some y ∧ w.cell? ⟨b, 2, none⟩ = some z ∧ w.frozen? ⟨b, 0, none⟩ = false ∧ w.frozen? ⟨b, 1, none⟩ = false ∧ w.frozen? ⟨b, 2, none⟩ = false :=
  ⟨by rw [Lib.cell_of_heap h]; rfl, by rw [Lib.cell_of_heap h]; rfl, by rw [Lib.cell_of_heap h]; rfl, Lib.frozen_of_heap h 0, Lib.frozen_of_heap h 1, Lib.frozen_of_heap h 2⟩
theorem row_other {base b j : Nat} {e : TypeId} {size : Nat} {v : Value} {n : Nat} {xs : List Value} {w : World} (h : w.ownsRow base e size v n xs) (hb : b < base) (u : Value) : (w.setCell ⟨b, j, none⟩ u).ownsRow base e size v n xs := by
  refine h.kept (row := some b) ⟨rfl, rfl, rfl, by simp [World.setCell], fun k _ hk => Below.heap_setCell _ _ _ _ (fun e => hk (by simp [e]))⟩ ?_
  cases hv : v.ownBlock with
  | none => exact .inl rfl
  | some g => exact .inr (fun q => by have := (World.ownsRow.lt h g hv).1; have := Option.some.inj q; omega)
/-- Another rest. -/
theorem DocI.setRest {D : Nat} {w : World} {r : List UInt8} {P : List ByteArray} {F : List FldV} (h : DocI D w r P F) (r' : List UInt8) (s : ByteArray) (hs : s.data.toList = r') :
    DocI D (w.setCell ⟨D, 0, none⟩ (.string s)) r' P F ∧ Below D w (w.setCell ⟨D, 0, none⟩ (.string s)) := by
  obtain ⟨vp, vf, h1, h2, h3⟩ := h.ex
  refine ⟨⟨vp, vf, ?_, row_other h2 (by omega) _, row_other h3 (by omega) _⟩, (Below.refl D w).setCell (p := ⟨D, 0, none⟩) (Nat.le_refl _) _⟩
  rw [str_of s r' hs]
  simp [World.setCell, Array.getElem?_modify, h1]
def dPtr (D : Nat) : Value := .pointer (some ⟨D, 0, none⟩)
/-- What a method that reads on leaves. -/
def DocO (D : Nat) (w : World) (r : List UInt8) (P : List ByteArray) (F : List FldV) (w' : World) : Prop := DocI D w' r P F ∧ Below D w w'

set_option maxRecDepth 100000 in
set_option maxHeartbeats 2000000 in
theorem skip_any (D : Nat) (w : World) (r : List UInt8) (P : List ByteArray) (F : List FldV) (h : DocI D w r P F) :
    Calls Tryd.prog 52 #[.pointer (some ⟨D, 0, none⟩)] w fun e w' => e = .returned (.tuple #[]) ∧ DocO D w (skL r) P F w' := by
  have hlt := h.lt
  obtain ⟨vp, vf, h1, -, -⟩ := id h.ex
  obtain ⟨c0, c1, c2, f0, f1, f2⟩ := doc3 h1
  have HT := Lib.hid (fun W => trimSet_any ⟨r.toArray⟩ [32, 9] W (by decide) (by decide))
  have H := Lib.hid h
  clear h1 h
  go_enter Tryd.func52, Tryd.ntmps52
  go_wp2_with fail
  refine (HT.out _).mono ?_
  rintro e w1 ⟨rfl, hb1⟩
  have h1 := H.out.below hb1
  obtain ⟨vp1, vf1, h11, -, -⟩ := id h1.ex
  obtain ⟨d0, d1, d2, g0, g1, g2⟩ := doc3 h11
  have HR := Lib.hid (And.intro (h1.setRest (skL r) ⟨(Lib.trimLeftS r [32, 9]).toArray⟩ rfl) (hb1.mono (Nat.le_of_lt hlt)))
  clear h1 h11 hb1 c0 c1 c2 f0 f1 f2
  go_wp2
  go_end0
  exact ⟨rfl, HR.out.1.1, HR.out.2.trans HR.out.1.2⟩
set_option maxRecDepth 100000 in
set_option maxHeartbeats 2000000 in
theorem take_any (D : Nat) (w : World) (r : List UInt8) (P : List ByteArray) (F : List FldV) (t : List UInt8) (h : DocI D w r P F) :
    Calls Tryd.prog 50 #[.pointer (some ⟨D, 0, none⟩), .string ⟨t.toArray⟩] w fun e w' => e = .returned (.bool (tkB t r)) ∧ DocO D w (tkR t r) P F w' := by
  have HS := Lib.hid (skip_any D w r P F h)
  have HP := Lib.hid (fun W => Tryd.strings_CutPrefix ⟨(skL r).toArray⟩ ⟨t.toArray⟩ W)
  clear h
  go_enter Tryd.func50, Tryd.ntmps50
  go_wp2_with fail
  refine (HS.out).mono ?_
  rintro e w1 ⟨rfl, h1, hb1⟩
  obtain ⟨vp1, vf1, h11, -, -⟩ := id h1.ex
  obtain ⟨d0, d1, d2, g0, g1, g2⟩ := doc3 h11
  have HR := Lib.hid (And.intro (h1.setRest (tkR t r) ⟨(tkR t r).toArray⟩ rfl) hb1)
  clear h1 h11 hb1
  go_wp2_with fail
  refine (HP.out _).mono ?_
  rintro e w2 ⟨rfl, rfl⟩
  go_wp2
  go_ret
  exact ⟨rfl, HR.out.1.1, HR.out.2.trans HR.out.1.2⟩
end Go.Proofs.YtdjkemodlbbmaaaDoor
