/- The contract of the parser's choice, and of the parser as a whole below Parse, where brackets and bounds keep theirs. -/
import Derived.Test.YtfkgicakiapmaaaPatCat
namespace Go.Proofs.Ytfkgicakiapmaaa
open Go.RowKit

theorem mPS_le {s : ByteArray} {p q : PS} (h : Adv s p q) : mPS s q ≤ mPS s p := by
  unfold mPS
  by_cases hq : q.er = 0
  · rw [if_pos hq, if_pos (h.er hq).1]; have := (h.er hq).2; omega
  · rw [if_neg hq]; omega
theorem cat_adv {s : ByteArray} {n : Nat} {ch br : PS → Nd × PS} (hf : ∀ q, q.er = 0 → q.pos ≤ s.size → s.size - q.pos ≤ n → AdvS s q (repeatS s ch br q).2) :
    ∀ (k : Nat) (q : PS) (acc : List Nd), q.pos ≤ s.size → (q.er = 0 → s.size - q.pos ≤ n) → Adv s q (catLoop s ch br k q acc).2 := by
  intro k
  induction k with
  | zero => intro q acc hq _; exact Adv.refl hq
  | succ k ih =>
    intro q acc hq hn
    unfold catLoop
    by_cases hend : endsCat (peekS s q) = true
    · rw [if_pos hend]; exact Adv.refl hq
    · rw [if_neg hend]
      have n0 : peekS s q ≠ 0 := by
        intro e
        rw [e] at hend
        exact hend rfl
      obtain ⟨he, -⟩ := peekS_in n0
      have h1 := hf q he hq (hn he)
      exact h1.adv.trans (ih _ _ h1.le fun e => by have := (h1.er e).2; have := hn he; omega)
theorem ownNodes_one {lo lo2 : Nat} (w : World) (t : Nd) (a : Array Value) (hs : SixOf t a) (ht : NodeIn lo2 w t (.agg a)) (h1 : lo ≤ lo2) (hlo : lo ≤ w.heap.size) :
    OwnNodes lo (w.alloc (.cells a 27)) (.slice (some ⟨w.heap.size, 0, none⟩) 1 1) [t] := by
  refine ⟨fun _ => a, ⟨by have := hs.size; simp [flat6]; simpa using this, .inr ⟨w.heap.size, 1, a, rfl, hlo, heap_alloc_new _ _, Nat.le_refl _, by simp [maxLen], by have := hs.size; simpa using this, by have := hs.size; simp [flat6]; rw [List.take_of_length_le (by omega)]⟩⟩, fun i hi => ?_⟩
  obtain rfl : i = 0 := by simpa using hi
  refine ⟨hs, fun w' hw => NodeIn.lower h1 _ _ (NodeIn.keeps (fun b o x hb hc => ?_) _ _ ht)⟩
  have hbl : b < w.heap.size := block_lt_of_cell (a := ⟨b, o, none⟩) hc
  exact hw b o x (by omega) (by simp [Value.ownBlock]; omega) (keeps_alloc lo w _ b o x (by omega) hc)

end Go.Proofs.Ytfkgicakiapmaaa
