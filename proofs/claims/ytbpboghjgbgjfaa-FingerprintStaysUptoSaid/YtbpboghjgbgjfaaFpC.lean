/- The sanity check of layer 8; FingerprintPremise: the law. -/
import Derived.Test.YtbpboghjgbgjfaaFpB
import Derived.Test.YtbpboghjgbgjfaaBufS
import Derived.Test.YtbpboghjgbgjfaaFsW
namespace Go.Proofs.Ytbpboghjgbgjfaa
open Go.RowKit

theorem byS_two (w : World) : BySl (w.alloc (.cells #[.int .u8 0, .int .u8 9] 5)) (.slice (some ⟨w.heap.size, 0, none⟩) 2 2) [0, 9] := by
  refine ⟨_, 2, rfl, Nat.le_refl _, fun i hi => ⟨w.heap.size, 0, rfl, by simp, ?_⟩⟩
  rw [Lib.cell_of_heap (heap_alloc_new w _), Nat.zero_add]
  have h2 : i < 2 := hi
  have h3 : i = 0 ∨ i = 1 := (by omega)
  rcases h3 with rfl | rfl <;> rfl
set_option maxRecDepth 100000 in
set_option maxHeartbeats 4000000 in
theorem awake8_any (w : World) : Calls Try.prog 4 #[] w fun e w' => e = .returned (.bool true) ∧ Below w.heap.size w w' := by
  have hn := number_yes _ [0, 9] 1 _ (byS_two w) (by omega) (by omega) (by decide)
  rw [show numK [0, 9] 1 = 1 from rfl] at hn
  have H := Lib.hid hn
  clear hn
  go_enter Try.func4, Try.ntmps4
  go_wp2_with fail
  refine H.out.mono ?_
  rintro e w1 ⟨rfl, rfl⟩
  go_wp2
  go_ret
  exact ⟨rfl, below_new _ _⟩
theorem pre_nil (l : List UInt8) : ([] : List UInt8).isPrefixOf l = true := by cases l <;> rfl
theorem pre_take (l : List UInt8) (n : Nat) : (l.take n).isPrefixOf l = true := by
  rw [List.isPrefixOf_iff_prefix]; exact List.take_prefix n l
theorem num_take (l : List UInt8) (n k : Nat) (hk : k ≤ n) : numK (l.take n) k = numK l k :=
  numK_take _ _ k fun i hi => by rw [List.getElem?_take, if_pos (by omega)]
theorem cons_same (l : List UInt8) (n k : Nat) (hn : n ≤ l.length) (hk : k ≤ l.length) (h1 : 1 ≤ k) : consM k [l, l.take n, []] (fun _ => []) = true := by
  have ht : (l.take n).length = n := by rw [List.length_take]; omega
  have e3 : ∀ m, consM k [[]] m = true := fun m => by
    show (if ([] : List UInt8).length < k then consM k [] m else _) = true
    rw [if_pos (by show 0 < k; omega)]; rfl
  have e2 : ∀ m, m (numK l k) = l → consM k [l.take n, []] m = true := fun m hm => by
    show (if (l.take n).length < k then consM k [[]] m else _) = true
    rw [ht]
    by_cases h2 : n < k
    · rw [if_pos h2]; exact e3 m
    · rw [if_neg h2, num_take l n k (by omega), hm]
      by_cases h3 : n < l.length
      · rw [if_pos h3, pre_take, if_pos rfl]; exact e3 _
      · rw [if_neg h3, List.take_of_length_le (by omega), if_pos (by rw [List.isPrefixOf_iff_prefix]; exact List.prefix_refl l)]; exact e3 _
  show (if l.length < k then _ else (if l.length < ([] : List UInt8).length then _ else (if ([] : List UInt8).isPrefixOf l then consM k [l.take n, []] (updM (fun _ => []) (numK l k) l) else false))) = true
  rw [if_neg (by omega), if_neg (by simp), pre_nil, if_pos rfl]
  exact e2 _ (by unfold updM; rw [if_pos rfl])
theorem cons_part (p : List UInt8) (k : Nat) (hk : k ≤ p.length) : consM k [p ++ [0], p ++ [1]] (fun _ => []) = false := by
  have hl0 : (p ++ [(0 : UInt8)]).length = p.length + 1 := by simp
  have hl1 : (p ++ [(1 : UInt8)]).length = p.length + 1 := by simp
  have hnum : ∀ b, numK (p ++ [b]) k = numK p k := fun b => numK_take _ _ k fun i hi => by rw [List.getElem?_append_left (by omega)]
  show (if (p ++ [(0 : UInt8)]).length < k then _ else (if (p ++ [(0 : UInt8)]).length < ([] : List UInt8).length then _ else (if ([] : List UInt8).isPrefixOf (p ++ [0]) then consM k [p ++ [1]] (updM (fun _ => []) (numK (p ++ [0]) k) (p ++ [0])) else false))) = false
  rw [if_neg (by omega), if_neg (by simp), pre_nil, if_pos rfl]
  show (if (p ++ [(1 : UInt8)]).length < k then _ else (if (p ++ [(1 : UInt8)]).length < (updM (fun _ => []) (numK (p ++ [0]) k) (p ++ [0]) (numK (p ++ [1]) k)).length then _ else (if (updM (fun _ => []) (numK (p ++ [0]) k) (p ++ [0]) (numK (p ++ [1]) k)).isPrefixOf (p ++ [1]) then _ else false))) = false
  have hu : updM (fun _ => []) (numK (p ++ [0]) k) (p ++ [0]) (numK (p ++ [1]) k) = p ++ [0] := by unfold updM; rw [hnum, hnum, if_pos rfl]
  rw [hu, if_neg (by omega), if_neg (by omega), if_neg]
  intro h
  rw [List.isPrefixOf_iff_prefix] at h
  have := h.eq_of_length (by omega)
  have := List.append_cancel_left this
  cases this
theorem byS_one (w : World) (b : UInt8) : BySl (w.alloc (.cells #[.int .u8 (b.toNat : Int)] 5)) (.slice (some ⟨w.heap.size, 0, none⟩) 1 1) [b] := by
  refine ⟨_, 1, rfl, Nat.le_refl _, fun i hi => ⟨w.heap.size, 0, rfl, by simp, ?_⟩⟩
  rw [Lib.cell_of_heap (heap_alloc_new w _), Nat.zero_add]
  have h2 : i < 1 := hi
  obtain rfl : i = 0 := (by omega)
  rfl
theorem byS_z (w : World) : BySl (w.alloc (.cells #[.int .u8 0] 5)) (.slice (some ⟨w.heap.size, 0, none⟩) 1 1) [0] := byS_one w 0
theorem byS_e (w : World) : BySl (w.alloc (.cells #[.int .u8 1] 5)) (.slice (some ⟨w.heap.size, 0, none⟩) 1 1) [1] := byS_one w 1
theorem bl_buf {a b c : World} (h : Below a.heap.size a b) (hg : ∃ g, a.heap.size ≤ g ∧ b.grownBy c (some g)) : Below a.heap.size a c := by
  obtain ⟨g, h1, h2⟩ := hg
  exact h.grown h2 h.size (fun j e => by cases e; exact h1)
/-- A row of slices of bytes, made just now. -/
theorem files_new {w : World} {vs : List Value} {ls : List (List UInt8)} (hl : vs.length = ls.length) (h : ∀ i (h : i < ls.length), BySl w (vs[i]'(by omega)) ls[i]) : FilesAt (w.alloc (.cells vs.toArray 22)) w.heap.size ls := fun i hi => by
  refine ⟨vs[i]'(by omega), ?_, (h i hi).below (below_new _ _), by simp⟩
  rw [Lib.cell_of_heap (heap_alloc_new w _)]
  simp [show i < vs.length by omega]
theorem files3 {w : World} {v1 v2 v3 : Value} {l1 l2 l3 : List UInt8} (h1 : BySl w v1 l1) (h2 : BySl w v2 l2) (h3 : BySl w v3 l3) : FilesAt (w.alloc (.cells #[v1, v2, v3] 22)) w.heap.size [l1, l2, l3] :=
  files_new (vs := [v1, v2, v3]) rfl fun i hi => by
    have h4 : i < 3 := hi
    have h5 : i = 0 ∨ i = 1 ∨ i = 2 := (by omega)
    rcases h5 with rfl | rfl | rfl
    · exact h1
    · exact h2
    · exact h3
theorem files2 {w : World} {v1 v2 : Value} {l1 l2 : List UInt8} (h1 : BySl w v1 l1) (h2 : BySl w v2 l2) : FilesAt (w.alloc (.cells #[v1, v2] 22)) w.heap.size [l1, l2] :=
  files_new (vs := [v1, v2]) rfl fun i hi => by
    have h4 : i < 2 := hi
    have h5 : i = 0 ∨ i = 1 := (by omega)
    rcases h5 with rfl | rfl
    · exact h1
    · exact h2
end Go.Proofs.Ytbpboghjgbgjfaa
