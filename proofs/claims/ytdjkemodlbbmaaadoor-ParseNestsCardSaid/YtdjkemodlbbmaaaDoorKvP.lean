/- slices.SortFunc at fields, by their names. -/
import Derived.Test.YtdjkemodlbbmaaaDoorKvO
import Derived.Test.YtdjkemodlbbmaaaDoorKvD
import Derived.Test.YtdjkemodlbbmaaaDoorShelfS
import Derived.Shelf.SlSortCmp.WholeK
import Derived.Shelf.SlSortCmp.NoneTotal
import Derived.Sort.Grow
namespace Go.Proofs.YtdjkemodlbbmaaaDoor
open Go.RowKit Go.Shelf
open Go.Sort (flatK HoldsK PermIn SortedIn)

def encP (x : FldV) : List Value := [.string x.1, .string x.2]
theorem cmpF_any (x y : FldV) (w : World) : Calls Tryd.prog 26 #[.agg (encP x).toArray, .agg (encP y).toArray] w fun e w' => e = .returned (.int .i64 (cfF x y)) ∧ ∃ q os', w' = Go.Sort.grow (w.drewN q) os' := by
  have HC := Lib.hid (fun W => cmp_any x.1 y.1 W)
  unfold cfF
  obtain ⟨c, hc⟩ : ∃ c, cmpS x.1 y.1 = c := ⟨_, rfl⟩
  rw [hc] at HC ⊢
  clear hc
  obtain ⟨a, b⟩ := x
  obtain ⟨a', b'⟩ := y
  unfold encP
  go_enter Tryd.func26, Tryd.ntmps26
  go_wp2_with fail
  refine (HC.out _).mono ?_
  rintro e w' ⟨rfl, rfl⟩
  go_wp2
  go_ret
  exact ⟨rfl, 0, #[.cells #[.string a, .string b] 31] ++ #[.cells #[.string a', .string b'] 31], by rw [Go.Sort.alloc_eq_grow, Go.Sort.alloc_eq_grow, Go.Sort.grow_grow]; simp [World.drewN]⟩
theorem sortF_below {w : World} {B blk n : Nat} {d : Array FldV} {os : Array Obj} (h : B ≤ blk) (hB : B ≤ w.heap.size) : Below B w (sortWorldK encP 2 w blk 0 n d os) := by
  refine ⟨rfl, rfl, rfl, ?_, fun k hk => ?_⟩
  · simp [sortWorldK, Go.Sort.putRowK, Go.Sort.putRow, Go.Sort.mapBlock, Go.Sort.grow, Go.Sort.ahead]
  · have h1 : k < w.heap.size := by omega
    have h2 : blk ≠ k := by omega
    simp [sortWorldK, Go.Sort.putRowK, Go.Sort.putRow, Go.Sort.mapBlock, Go.Sort.grow, Go.Sort.ahead, Array.getElem?_append, h1]
    rw [Array.getElem_modify_of_ne h2]
theorem sortF_any (L : List FldV) (v : Value) (B : Nat) (w : World) (hr : FsR B w v L) (hB : B ≤ w.heap.size) (hn : L.length ≤ 1000) :
    Calls Tryd.prog 25 #[v, .func (.func 26) #[] #[]] w fun e w' =>
      e = .returned (.tuple #[]) ∧ (∃ S : List FldV, S.Perm L ∧ S.Pairwise (fun x y => ltF y x = false) ∧ FsI w' v S) ∧ Below B w w' := by
  rcases rowf_form hr with ⟨rfl, h0⟩ | ⟨g, cap, rfl, hgb, hgl, hnc, hcm⟩
  · have hL : L = [] := List.eq_nil_of_length_eq_zero h0
    subst hL
    refine (AnyF.slices_SortFunc_none Tryd.laysSort none 0 _ w).mono ?_
    rintro e w' ⟨rfl, rfl⟩
    exact ⟨rfl, ⟨[], List.Perm.refl _, List.Pairwise.nil, .inl ⟨rfl, _, _, rfl⟩⟩, Below.refl _ _⟩
  · by_cases h0 : L.length = 0
    · have hL : L = [] := List.eq_nil_of_length_eq_zero h0
      subst hL
      refine (AnyF.slices_SortFunc_none Tryd.laysSort (some ⟨g, 0, none⟩) cap _ w).mono ?_
      rintro e w' ⟨rfl, rfl⟩
      exact ⟨rfl, ⟨[], List.Perm.refl _, List.Pairwise.nil, .inl ⟨rfl, _, _, rfl⟩⟩, Below.refl _ _⟩
    · have hH : HoldsK encP 2 w g 0 L.toArray := by
        intro j hj
        have hj2 : j < L.length * 2 := by simpa using hj
        have h2 := hr.frozenAt j
        rw [Nat.zero_add]
        refine ⟨?_, h2⟩
        rw [Go.Sort.get_flatK encP 2 L.toArray j (by simpa using hj2)]
        have e : j / 2 < L.length := by omega
        have h4 := FsR.cells hr e
        rcases Nat.mod_two_eq_zero_or_one j with q | q
        · have ej : j / 2 * 2 = j := by omega
          rw [ej] at h4
          rw [h4.1, q, getElem!_pos L.toArray (j / 2) (by simpa using e)]
          rfl
        · have ej : j / 2 * 2 + 1 = j := by omega
          rw [ej] at h4
          rw [h4.2, q, getElem!_pos L.toArray (j / 2) (by simpa using e)]
          rfl
      have eg : ∀ args w, (callFunc 26 args).run Tryd.prog w = .ok (.enter 26 args) w := enters_of Tryd.func26 (by kernel_rfl) rfl
      have hcon := AnyQ.slices_SortFunc Tryd.laysSort 2 Tryd.isAgg31 Tryd.sizeOf31 encP (fun _ => rfl) (fun x v hv => by simp only [encP, List.mem_cons, List.not_mem_nil, or_false] at hv; rcases hv with rfl | rfl <;> rfl) cfF ltF_swo 26 #[] g 0 cap L.toArray w eg (fun _ _ _ _ x y => cmpF_any x y _) hH hgl (by simp; omega)
      refine hcon.mono ?_
      rintro e w' ⟨rfl, d', n, os, hp, hs, rfl⟩
      obtain ⟨hsz, -, hpm⟩ := hp
      have hsz2 : d'.size = L.length := by rw [hsz]; simp
      have hpm2 : d'.toList.Perm L := by
        have e1 : d'.extract 0 L.toArray.size = d' := by rw [← hsz]; exact Array.extract_size
        have e2 : L.toArray.extract 0 L.toArray.size = L.toArray := Array.extract_size
        rw [e1, e2] at hpm
        exact hpm
      have hH2 := holdsK_sortWorldK_c encP 2 w g 0 L.toArray d' n os hH hgl hsz
      have hc : ∀ i c, i < L.length → c < 2 → (sortWorldK encP 2 w g 0 n d' os).cell? ⟨g, 0 + i * 2 + c, none⟩ = some (encP d'[i]!)[c]! := fun i c hi hc => (hH2.cell (by omega) hc).1
      refine ⟨rfl, ⟨d'.toList, hpm2, ?_, ?_⟩, sortF_below hgb hB⟩
      · rw [List.pairwise_iff_getElem]
        intro i j hi hj hij
        have hi2 : i < d'.size := by simpa using hi
        have hj2 : j < d'.size := by simpa using hj
        have := hs i j (Nat.zero_le _) hij (by rw [← hsz]; exact hj2)
        rw [getElem!_pos d' j hj2, getElem!_pos d' i hi2] at this
        exact this
      · have hbel := sortF_below (n := n) (d := d') (os := os) (w := w) hgb hB
        refine .inr ⟨g, 0, cap, congrArg (fun n => Value.slice (some ⟨g, 0, none⟩) n cap) (show L.length = d'.toList.length from hsz2.symm), Nat.lt_of_lt_of_le hgl hbel.size, by show d'.size ≤ cap; rw [hsz2]; exact hnc, hcm, fun i hi => ?_⟩
        have hi2 : i < d'.size := by simpa using hi
        have h0 := hc i 0 (by omega) (by omega)
        have h1 := hc i 1 (by omega) (by omega)
        rw [getElem!_pos d' i hi2] at h0 h1
        exact ⟨h0, h1⟩
end Go.Proofs.YtdjkemodlbbmaaaDoor
