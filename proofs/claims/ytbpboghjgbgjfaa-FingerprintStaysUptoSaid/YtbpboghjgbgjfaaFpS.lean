/- The sort of the two files that a scan has seen. -/
import Derived.Test.YtbpboghjgbgjfaaFwB
import Derived.Test.YtbpboghjgbgjfaaShelfS
import Derived.Shelf.SlSortCmp.WholeK
import Derived.Shelf.SlSortCmp.NoneTotal
namespace Go.Proofs.Ytbpboghjgbgjfaa
open Go.RowKit Go.Shelf
open Go.Sort (flatK HoldsK PermIn SortedIn)

theorem sort_below {w : World} {B blk n : Nat} {d : Array SeenT} {os : Array Obj} (h : B ≤ blk) (hB : B ≤ w.heap.size) : Below B w (sortWorldK encS 3 w blk 0 n d os) := by
  refine ⟨rfl, rfl, rfl, ?_, fun k hk => ?_⟩
  · simp [sortWorldK, Go.Sort.putRowK, Go.Sort.putRow, Go.Sort.mapBlock, Go.Sort.grow, Go.Sort.ahead]
  · have h1 : k < w.heap.size := by omega
    have h2 : blk ≠ k := by omega
    simp [sortWorldK, Go.Sort.putRowK, Go.Sort.putRow, Go.Sort.mapBlock, Go.Sort.grow, Go.Sort.ahead, Array.getElem?_append, h1]
    rw [Array.getElem_modify_of_ne h2]
theorem sort_none (p : Option Addr) (cap : Nat) (fv : Value) (w : World) : Calls Try.prog 18 #[.slice p 0 cap, fv] w fun e w' => e = .returned (.tuple #[]) ∧ w' = w :=
  AnyF.slices_SortFunc_none Try.laysSort p cap fv w
/-- Two records in a row of their own, sorted. -/
theorem sort_two (g cap B : Nat) (x y : SeenT) (w : World) (h : w.ownsRow B 45 3 (.slice (some ⟨g, 0, none⟩) 2 cap) 2 (encS x ++ encS y)) (hB : B ≤ w.heap.size) :
    Calls Try.prog 18 #[.slice (some ⟨g, 0, none⟩) 2 cap, .func (.func 19) #[] #[]] w fun e w' =>
      e = .returned (.tuple #[]) ∧ (∃ a b : SeenT, (a = x ∨ a = y) ∧ (b = x ∨ b = y) ∧ ltS b a = false ∧ ∀ j, j < 6 → w'.cell? ⟨g, j, none⟩ = (encS a ++ encS b)[j]?) ∧ Below B w w' := by
  have hgb : B ≤ g := (h.lt g rfl).1
  have hgl : g < w.heap.size := (h.lt g rfl).2
  have hH : HoldsK encS 3 w g 0 #[x, y] := by
    intro j hj
    have hj6 : j < 6 := by simpa using hj
    have h1 := h.cellAt j (by omega)
    have h2 := h.frozenAt j
    rw [Nat.zero_add]
    refine ⟨?_, h2⟩
    rw [h1, Go.Sort.get_flatK encS 3 #[x, y] j hj6]
    have h6 : j = 0 ∨ j = 1 ∨ j = 2 ∨ j = 3 ∨ j = 4 ∨ j = 5 := by omega
    rcases h6 with rfl | rfl | rfl | rfl | rfl | rfl <;> rfl
  have eg : ∀ args w, (callFunc 19 args).run Try.prog w = .ok (.enter 19 args) w := enters_of Try.func19 (by kernel_rfl) rfl
  have hcon := AnyQ.slices_SortFunc Try.laysSort 3 Try.isAgg45 Try.sizeOf45 encS (fun _ => rfl) (fun x v hv => by simp only [encS, List.mem_cons, List.not_mem_nil, or_false] at hv; rcases hv with rfl | rfl | rfl <;> rfl) cfS ltS_swo 19 #[] g 0 cap #[x, y] w eg (fun _ _ _ _ x y => compare_S x y _) hH hgl (by simp)
  refine hcon.mono ?_
  rintro e w' ⟨rfl, d', n, os, hp, hs, rfl⟩
  obtain ⟨hsz, -, hpm⟩ := hp
  have hsz2 : d'.size = 2 := hsz
  have hmem : ∀ z ∈ d', z = x ∨ z = y := fun z hz => by
    have e1 : d'.extract 0 (#[x, y] : Array SeenT).size = d' := by rw [← hsz]; exact Array.extract_size
    have e2 : (#[x, y] : Array SeenT).extract 0 (#[x, y] : Array SeenT).size = #[x, y] := Array.extract_size
    rw [e1, e2] at hpm
    have := (hpm.mem_iff (a := z)).1 (by simpa using hz)
    simpa using this
  refine ⟨rfl, ⟨d'[0], d'[1], hmem _ (Array.getElem_mem _), hmem _ (Array.getElem_mem _), ?_, fun j hj => ?_⟩, sort_below hgb hB⟩
  · have := hs 0 1 (by omega) (by omega) (by show 1 < 2; omega)
    rw [getElem!_pos d' 1 (by omega), getElem!_pos d' 0 (by omega)] at this
    exact this
  · have hH2 := holdsK_sortWorldK_c encS 3 w g 0 #[x, y] d' n os hH hgl hsz
    have hc : ∀ i c, i < 2 → c < 3 → (sortWorldK encS 3 w g 0 n d' os).cell? ⟨g, 0 + i * 3 + c, none⟩ = some (encS d'[i]!)[c]! := fun i c hi hc => (hH2.cell (by omega) hc).1
    have h6 : j = 0 ∨ j = 1 ∨ j = 2 ∨ j = 3 ∨ j = 4 ∨ j = 5 := by omega
    have g0 : d'[0]! = d'[0] := getElem!_pos d' 0 (by omega)
    have g1 : d'[1]! = d'[1] := getElem!_pos d' 1 (by omega)
    rcases h6 with rfl | rfl | rfl | rfl | rfl | rfl
    · rw [show (⟨g, 0, none⟩ : Addr) = ⟨g, 0 + 0 * 3 + 0, none⟩ from rfl, hc 0 0 (by omega) (by omega), g0]; rfl
    · rw [show (⟨g, 1, none⟩ : Addr) = ⟨g, 0 + 0 * 3 + 1, none⟩ from rfl, hc 0 1 (by omega) (by omega), g0]; rfl
    · rw [show (⟨g, 2, none⟩ : Addr) = ⟨g, 0 + 0 * 3 + 2, none⟩ from rfl, hc 0 2 (by omega) (by omega), g0]; rfl
    · rw [show (⟨g, 3, none⟩ : Addr) = ⟨g, 0 + 1 * 3 + 0, none⟩ from rfl, hc 1 0 (by omega) (by omega), g1]; rfl
    · rw [show (⟨g, 4, none⟩ : Addr) = ⟨g, 0 + 1 * 3 + 1, none⟩ from rfl, hc 1 1 (by omega) (by omega), g1]; rfl
    · rw [show (⟨g, 5, none⟩ : Addr) = ⟨g, 0 + 1 * 3 + 2, none⟩ from rfl, hc 1 2 (by omega) (by omega), g1]; rfl
end Go.Proofs.Ytbpboghjgbgjfaa
