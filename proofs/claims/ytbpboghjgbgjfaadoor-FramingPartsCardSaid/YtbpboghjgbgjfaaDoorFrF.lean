/- The awake of layer 9, and what a row of records shows. -/
import Derived.Test.YtbpboghjgbgjfaaDoorFrE
import Derived.Lib.SlBytesConst
namespace Go.Proofs.YtbpboghjgbgjfaaDoor
open Go.RowKit

/-- A row of records, cell by cell. -/
theorem fr_form {base : Nat} {w : World} {v : Value} {l : List UInt8} {off lim : Int} {sp : List (Nat × Nat)} (h : w.ownsRow base 41 5 v sp.length (frL l off lim sp)) :
    ∃ a c, v = .slice a sp.length c ∧ sp.length ≤ c ∧ ∀ i (hi : i < sp.length), ∃ g, a = some ⟨g, 0, none⟩ ∧ ∀ j, j < 5 → w.cell? ⟨g, i * 5 + j, none⟩ = (frC (off + (sp[i].1 : Int)) (pcL l sp[i]) lim)[j]? := by
  rcases row_form h with ⟨h1, h2⟩ | ⟨g, c, h1, -, -, h3, -⟩
  · exact ⟨none, 0, by rw [h1, h2], by omega, fun i hi => by omega⟩
  · refine ⟨_, c, h1, h3, fun i hi => ⟨g, rfl, fun j hj => ?_⟩⟩
    have hx := frL_get l off lim sp i hi j hj
    have hlt : j < (frC (off + (sp[i].1 : Int)) (pcL l sp[i]) lim).length := hj
    rw [List.getElem?_eq_getElem hlt] at hx ⊢
    have := World.ownsRow.cells h (g := g) (by rw [h1]; rfl) (i * 5 + j) _ hx
    rwa [Addr.add_lit, Nat.zero_add] at this
theorem awk_sp : spK [97, 13, 10, 98] 4 = [(0, 3)] ∧ lastK [97, 13, 10, 98] 4 = 3 := by decide
theorem awk_1 : (frC (((0 : Nat) : Int) + ((([(0, 3)] : List (Nat × Nat))[0]'(by simp)).1 : Int)) (pcL [97, 13, 10, 98] (([(0, 3)] : List (Nat × Nat))[0]'(by simp))) 100)[1]? = some (.int .i64 3) := by kernel_rfl
theorem awk_2 : (frC (((0 : Nat) : Int) + ((([(0, 3)] : List (Nat × Nat))[0]'(by simp)).1 : Int)) (pcL [97, 13, 10, 98] (([(0, 3)] : List (Nat × Nat))[0]'(by simp))) 100)[2]? = some (.string ⟨#[97]⟩) := by kernel_rfl
set_option maxRecDepth 100000 in
set_option maxHeartbeats 2000000 in
theorem awake9_any (w : World) (hT : Tabs w) : Calls Tryd.prog 6 #[] w fun e w' => e = .returned (.bool true) ∧ Below w.heap.size w w' := by
  have hb1 := below_new w (.cells #[.int .u8 97, .int .u8 13, .int .u8 10, .int .u8 98] 5 (4, 5))
  have hnw := heap_alloc_new w (.cells #[.int .u8 97, .int .u8 13, .int .u8 10, .int .u8 98] 5 (4, 5))
  have hS : BySl (w.alloc (.cells #[.int .u8 97, .int .u8 13, .int .u8 10, .int .u8 98] 5 (4, 5))) (.slice (some ⟨w.heap.size, 0, none⟩) ([97, 13, 10, 98] : List UInt8).length 4) [97, 13, 10, 98] := by
    refine ⟨_, _, rfl, by simp, fun i hi => ⟨w.heap.size, 0, rfl, by simp, ?_⟩⟩
    rw [Lib.cell_of_heap hnw]
    have h4 : i = 0 ∨ i = 1 ∨ i = 2 ∨ i = 3 := by simp at hi; omega
    rcases h4 with rfl | rfl | rfl | rfl <;> rfl
  have hfr := frame_yes (some ⟨w.heap.size, 0, none⟩) 4 0 [97, 13, 10, 98] [97, 13, 10, 98] rfl 100 (by simp) (by simp) _ (Utf8Tabs_below hT hb1) hS
  have kc := fun (w : World) (C : Array Value) (n c : Nat) => Lib.run_convert_bytes_const (P := Tryd.prog) w 22 5 C n c Tryd.underlying22 Tryd.underlying5
  have e4 : ([97, 13, 10, 98] : List UInt8).length = 4 := rfl
  rw [e4, awk_sp.1, awk_sp.2] at hfr
  have H := Lib.hid (And.intro hfr hb1)
  clear hb1 hnw hS hfr hT e4
  go_enter Tryd.func6, Tryd.ntmps6
  go_wp2_with fail
  refine H.out.1.mono ?_
  rintro e w1 ⟨⟨v, rfl, hr⟩, hb⟩
  obtain ⟨a, c, rfl, hc, hx⟩ := fr_form hr
  obtain ⟨g, rfl, hy⟩ := hx 0 (by simp)
  have c1 : w1.cell? ⟨g, 1, none⟩ = some (.int .i64 3) := (hy 1 (by omega)).trans awk_1
  have c2 : w1.cell? ⟨g, 2, none⟩ = some (.string ⟨#[97]⟩) := (hy 2 (by omega)).trans awk_2
  have HB := Lib.hid (bl_trans' H.out.2 hb)
  clear hy hr hb hx
  simp only [List.length_cons, List.length_nil, Nat.zero_add] at hc ⊢
  go_wp2
  go_ret
  exact ⟨rfl, HB.out⟩
end Go.Proofs.YtbpboghjgbgjfaaDoor
