/- The sanity check of layer 2: the chapter's example is parsed. -/
import Derived.Test.YtfmoidhpafpgnaaPatBr
import Derived.KernelRfl
namespace Go.Proofs.Ytfmoidhpafpgnaa
open Go.RowKit

def exSrc : ByteArray := ⟨#[40, 110, 58, 92, 100, 43, 41, 109, 115]⟩
def exNode : Nd := ndKids 2 [ndCap ⟨#[110]⟩ (ndRep (ndClass [(48, 57)]) 1 (-1)), ndClass [(109, 109)], ndClass [(115, 115)]]
theorem ex_parse : parseN exSrc (bracketS exSrc) = (exNode, 9, 0) := by kernel_rfl

set_option maxRecDepth 100000 in
set_option maxHeartbeats 4000000 in
theorem awake_any (w : World) :
    Calls Try.prog 4 #[] w fun e w' => e = .returned (.bool true) ∧ Below w.heap.size w w' := by
  have hp := parse_all exSrc w
  rw [ex_parse] at hp
  unfold exSrc at hp
  have HP := Lib.hid hp
  clear hp
  go_enter Try.func4, Try.ntmps4
  go_wp2_with fail
  refine (HP.out).mono ?_
  rintro e w1 ⟨v, rfl, hv, hb⟩
  unfold exNode ndKids NodeIn at hv
  obtain ⟨rv, ka, kc, rfl, -, -, -, -, -, hr, hk⟩ := hv
  obtain ⟨ra, rc, rfl, -⟩ := hr
  rcases hk with hk | ⟨b, o, rfl, hlo, hk⟩
  · cases hk
  unfold KidsIn at hk
  obtain ⟨⟨op, rv2, nm, kv, mn, mx, hn, c0, c1, c2, c3, c4, c5⟩, -⟩ := hk
  unfold ndCap NodeIn at hn
  obtain ⟨rv3, ka3, kc3, he, -⟩ := hn
  obtain rfl : nm = ⟨#[110]⟩ := by
    simp only [ndVals, Value.agg.injEq, Array.mk.injEq, List.cons.injEq, Value.string.injEq] at he
    exact he.2.2.1
  have HB := Lib.hid hb
  clear he hb c0 c1 c3 c4 c5
  have hbl : b < w1.heap.size := block_lt_of_cell (a := ⟨b, o + 2, none⟩) c2
  have c2' := fun X => keeps_alloc 0 w1 X b (o + 2) _ (Nat.zero_le _) c2
  simp only [ndVals, List.length_cons, List.length_nil]
  go_wp2
  go_ret
  exact ⟨rfl, HB.out.alloc HB.out.size _⟩
end Go.Proofs.Ytfmoidhpafpgnaa
