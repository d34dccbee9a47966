/- Package matcher: the set of the bytes of some ranges. Package matcher at a pattern without kids: its cost. -/
import Derived.Test.YtfkgicakiapmaaaMtVc
import Derived.Test.YtfkgicakiapmaaaPatParse
import Derived.BigRegion
import Derived.Laws.Rows
import Derived.Test.YtfkgicakiapmaaaMlVe
namespace Go.Proofs.Ytfkgicakiapmaaa
open Go Go.RowKit

/-- The four words of a set in block G. -/
def wdA (s : Nat → Nat) : Array Value := #[.int .u64 (s 0 : Int), .int .u64 (s 1 : Int), .int .u64 (s 2 : Int), .int .u64 (s 3 : Int)]
def WdAt (G : Nat) (s : Nat → Nat) (w : World) : Prop := BkAt G 127 (wdA s) w
theorem sizeWd : (Try.prog.info? 127).map (·.size) = some 4 := by kernel_rfl
theorem wdA_get (s : Nat → Nat) (k : Nat) (h : k < 4) : (wdA s)[k]? = some (.int .u64 (s k : Int)) := by
  have h4 : k = 0 ∨ k = 1 ∨ k = 2 ∨ k = 3 := by omega
  rcases h4 with rfl | rfl | rfl | rfl <;> rfl
theorem wdA_set (s : Nat → Nat) (k x : Nat) (h : k < 4) : (wdA s).setIfInBounds k (.int .u64 (x : Int)) = wdA (fun j => if j = k then x else s j) := by
  have h4 : k = 0 ∨ k = 1 ∨ k = 2 ∨ k = 3 := by omega
  rcases h4 with rfl | rfl | rfl | rfl <;> rfl
theorem WdAt.cell {G : Nat} {s : Nat → Nat} {w : World} (h : WdAt G s w) (k : Nat) (hk : k < 4) : w.cell? ⟨G, k, none⟩ = some (.int .u64 (s k : Int)) := (BkAt.cell h k).trans (wdA_get s k hk)
theorem hasT_put (f : Nat → Nat) (a c : Nat) : hasT (putT f a) c = (hasT f c || decide (c = a)) := by
  unfold hasT putT
  by_cases h : c = a
  · subst h
    simp
  · rw [decide_eq_false h, Bool.or_false]
    by_cases h1 : c / 64 = a / 64
    · rw [if_pos h1, Nat.testBit_or, Nat.testBit_two_pow]
      have : ¬ a % 64 = c % 64 := by omega
      simp [this]
    · rw [if_neg h1]
def set64 (s : Nat → Nat) : Prop := ∀ k, s k < 18446744073709551616
theorem set64_put {s : Nat → Nat} (h : set64 s) (a : Nat) : set64 (putT s a) := fun k => by
  unfold putT
  split
  · have h2 : (2 : Nat) ^ (a % 64) < 2 ^ 64 := Nat.pow_lt_pow_right (by decide) (by omega)
    exact Nat.or_lt_two_pow (n := 64) (h k) h2
  · exact h k
/-- The set s holds of the bytes those of f. -/
def SetF (G : Nat) (f : Nat → Bool) (w : World) : Prop := ∃ s, WdAt G s w ∧ set64 s ∧ ∀ c, c < 256 → hasT s c = f c
theorem SetF.congr {G : Nat} {f g : Nat → Bool} {w : World} (h : SetF G f w) (e : ∀ c, c < 256 → f c = g c) : SetF G g w := by
  obtain ⟨s, h1, h2, h3⟩ := h
  exact ⟨s, h1, h2, fun c hc => (h3 c hc).trans (e c hc)⟩
theorem SetF.below {G : Nat} {f : Nat → Bool} {w w' : World} (h : SetF G f w) (k : Below w.heap.size w w') : SetF G f w' := by
  obtain ⟨s, h1, h2⟩ := h
  exact ⟨s, BkAt.below h1 k, h2⟩
theorem SetF.lt {G : Nat} {f : Nat → Bool} {w : World} (h : SetF G f w) : G < w.heap.size := by
  obtain ⟨s, h1, -⟩ := h
  exact BkAt.lt h1

def inRg (r : Nat × Nat) (c : Nat) : Bool := decide (r.1 ≤ c ∧ c ≤ r.2)
def anyRg (rs : List (Nat × Nat)) (c : Nat) : Bool := rs.any fun r => inRg r c
theorem anyRg_take (rs : List (Nat × Nat)) (k : Nat) (h : k < rs.length) (c : Nat) : anyRg (rs.take (k + 1)) c = (anyRg (rs.take k) c || inRg rs[k] c) := by
  unfold anyRg
  rw [List.take_succ_eq_append_getElem h, List.any_append]
  simp
theorem blk_end4 {w w' : World} {T : TypeId} {c0 c1 c2 c3 : Value} (a b c d : Value) (h : BkAt w.heap.size T #[c0, c1, c2, c3] w') (hb : Below w.heap.size w w') :
    BkAt w.heap.size T #[a, b, c, d] ((((w'.setCell ⟨w.heap.size, 0, none⟩ a).setCell ⟨w.heap.size, 1, none⟩ b).setCell ⟨w.heap.size, 2, none⟩ c).setCell ⟨w.heap.size, 3, none⟩ d) ∧
      Below w.heap.size w ((((w'.setCell ⟨w.heap.size, 0, none⟩ a).setCell ⟨w.heap.size, 1, none⟩ b).setCell ⟨w.heap.size, 2, none⟩ c).setCell ⟨w.heap.size, 3, none⟩ d) :=
  ⟨(((h.set 0 a).set 1 b).set 2 c).set 3 d, (((hb.setCell (p := ⟨w.heap.size, 0, none⟩) (Nat.le_refl _) _).setCell (p := ⟨w.heap.size, 1, none⟩) (Nat.le_refl _) _).setCell (p := ⟨w.heap.size, 2, none⟩) (Nat.le_refl _) _).setCell (p := ⟨w.heap.size, 3, none⟩) (Nat.le_refl _) _⟩
/-- What stands behind rounds: the set, the block of the answer, and nothing else written. -/
structure SoI (w W : World) (G : Nat) (f : Nat → Bool) (wr : World) : Prop where
  s : SetF G f wr
  z : WdAt w.heap.size (fun _ => 0) wr
  b : Below w.heap.size w wr
  c : ChP (fun k => k = G) W wr
theorem SoI.below {w W : World} {G : Nat} {f : Nat → Bool} {wr w2 : World} (h : SoI w W G f wr) (k : Below wr.heap.size wr w2) : SoI w W G f w2 := ⟨h.s.below k, BkAt.below h.z k, bl_trans' h.b k, h.c.below k⟩
set_option maxRecDepth 100000 in
set_option maxHeartbeats 4000000 in
theorem setOf_any (rs : List (Nat × Nat)) (v : Value) (w : World) (h : RangesIn 0 w v rs) :
    Calls Try.prog 75 #[v] w fun e w' => ∃ s, e = .returned (.agg (wdA s)) ∧ set64 s ∧ (∀ c, c < 256 → hasT s c = anyRg rs c) ∧ Below w.heap.size w w' := by
  obtain ⟨a, c, rfl, hl, hb, hc⟩ := h
  obtain ⟨G, hG⟩ : ∃ G, w.heap.size + 1 = G := ⟨_, rfl⟩
  have hw0 : WdAt w.heap.size (fun _ => 0) ((w.alloc (.cells (wdA fun _ => 0) 127)).alloc (.cells (wdA fun _ => 0) 127)) := (BkAt.new _ _ _).below (below_new _ _)
  have hw1 : WdAt G (fun _ => 0) ((w.alloc (.cells (wdA fun _ => 0) 127)).alloc (.cells (wdA fun _ => 0) 127)) := by
    have q := BkAt.new 127 (wdA fun _ => 0) (w.alloc (.cells (wdA fun _ => 0) 127))
    rw [World.size_alloc, hG] at q
    exact q
  have hbw := bl_trans' (below_new w (.cells (wdA fun _ => 0) 127)) (below_new _ (.cells (wdA fun _ => 0) 127))
  obtain ⟨W, hW⟩ : ∃ W, (w.alloc (.cells (wdA fun _ => 0) 127)).alloc (.cells (wdA fun _ => 0) 127) = W := ⟨_, rfl⟩
  rw [hW] at hw0 hw1 hbw
  have H := Lib.hid (And.intro hb (And.intro hc (And.intro hw0 (And.intro hw1 (And.intro hbw (And.intro hW hG))))))
  clear hb hc hw0 hw1 hbw hW hG
  unfold maxLen at hl
  go_enter Try.func75, Try.ntmps75
  go_wp2_with fail
  have e := H.out.2.2.2.2.2.1
  unfold wdA at e
  rw [show (Value.int .u64 ((0 : Nat) : Int)) = .int .u64 0 from rfl] at e
  rw [e, H.out.2.2.2.2.2.2]
  clear e
  have h0 : SoI w W G (fun c => anyRg (rs.take 0) c) W := ⟨⟨_, H.out.2.2.2.1, fun _ => by show (0 : Nat) < _; decide, fun c _ => by simp [hasT, anyRg]⟩, H.out.2.2.1, H.out.2.2.2.2.1, ChP.refl _ _⟩
  have hGw : w.heap.size < G := by have := H.out.2.2.2.2.2.2; omega
  have HI := Lib.hid h0
  clear h0
  go_loopw [9] (fun i wr => ∃ k : Nat, k ≤ rs.length ∧ i = .int .i64 k ∧ SoI w W G (fun c => anyRg (rs.take k) c) wr) (fun i _ => rs.length - (intOf i).toNat)
  case atStart => exact ⟨0, by omega, rfl, HI.out⟩
  case round =>
    obtain ⟨k, hk, rfl, hI⟩ := hrel
    obtain ⟨W1, rfl⟩ : ∃ W1, W1 = wr := ⟨_, rfl⟩
    by_cases hlt : k < rs.length
    · obtain ⟨b, o, rfl, hbl, hc1, hc2⟩ := H.out.2.1 k hlt
      have hbw : b < w.heap.size := block_lt_of_cell hc1
      have g1 : W1.cell? ⟨b, o + k * 2, none⟩ = some (.int .u8 (rs[k].1 : Nat)) := (hI.b.cell (p := ⟨b, o + k * 2, none⟩) hbw).trans hc1
      have g2 : W1.cell? ⟨b, o + k * 2 + 1, none⟩ = some (.int .u8 (rs[k].2 : Nat)) := (hI.b.cell (p := ⟨b, o + k * 2 + 1, none⟩) hbw).trans hc2
      obtain ⟨x1, x2⟩ := H.out.1 rs[k] (List.getElem_mem hlt)
      have hst := anyRg_take rs k hlt
      obtain ⟨x, hx⟩ : ∃ x, rs[k].1 = x := ⟨_, rfl⟩
      obtain ⟨y, hy⟩ : ∃ y, rs[k].2 = y := ⟨_, rfl⟩
      have hin : ∀ c, inRg rs[k] c = decide (x ≤ c ∧ c ≤ y) := fun c => by unfold inRg; rw [hx, hy]
      rw [hx] at g1 x1
      rw [hy] at g2 x2
      have hnew := BkAt.new 59 #[.int .u8 (x : Int), .int .u8 (y : Int)] W1
      have hIa := hI.below (below_new _ (.cells #[.int .u8 (x : Int), .int .u8 (y : Int)] 59))
      have hGl : G < W1.heap.size := hI.s.lt
      have K := Lib.hid (And.intro hst (And.intro hin (And.intro hnew hIa)))
      clear hst hin hnew hIa hI hx hy hc1 hc2
      go_wp2_with fail
      go_loopw [6] (fun c w2 => ∃ m : Nat, x ≤ m ∧ (m = x ∨ m ≤ y + 1) ∧ c = .int .i64 m ∧ SoI w W G (fun c => anyRg (rs.take k) c || decide (x ≤ c ∧ c < m)) w2 ∧ BkAt W1.heap.size 59 #[.int .u8 (x : Int), .int .u8 (y : Int)] w2) (fun c _ => 256 - (intOf c).toNat)
      case atStart => exact ⟨x, by omega, .inl rfl, rfl, ⟨K.out.2.2.2.s.congr fun i _ => by simp; omega, K.out.2.2.2.z, K.out.2.2.2.b, K.out.2.2.2.c⟩, K.out.2.2.1⟩
      case round =>
        obtain ⟨m, hm1, hm2, rfl, hI, hbox⟩ := hrel
        have b1 : wr.cell? ⟨W1.heap.size, 1, none⟩ = some (.int .u8 (y : Int)) := hbox.cell 1
        by_cases hm : m ≤ y
        · have d1 : decide ((m : Int) ≤ (y : Int)) = true := by simp; omega
          obtain ⟨⟨s, hs1, hs2, hs3⟩, hz, hbb, hcc⟩ := hI
          obtain ⟨q, hq⟩ : ∃ q, m / 64 = q := ⟨_, rfl⟩
          obtain ⟨r, hr⟩ : ∃ r, m % 64 = r := ⟨_, rfl⟩
          have q1 : (m : Int) / 64 = (q : Int) := by omega
          have r1 : (m : Int) % 64 = (r : Int) := by omega
          have q4 : q < 4 := by omega
          have q2 : (q : Int) < 4 := by omega
          have q0 : (0 : Int) ≤ (q : Int) := by omega
          have r2 : (r : Int) < 64 := by omega
          obtain ⟨bt, hbt⟩ : ∃ b : Nat, 2 ^ r = b := ⟨_, rfl⟩
          have hb64 : bt < 18446744073709551616 := by rw [← hbt]; exact Nat.pow_lt_pow_right (by decide) (by omega : r < 64)
          have hwb : IntKind.u64.wrap ((2 : Int) ^ r) = (bt : Int) := by
            have e1 : (2 : Int) ^ r = (bt : Int) := by rw [← hbt]; push_cast; rfl
            rw [e1, IntKind.wrap_u64]; omega
          have hc := hs1.cell q q4
          have hf : wr.frozen? ⟨G, q, none⟩ = false := BkAt.free hs1 q
          have hbor : bits .or .u64 (s q : Int) (bt : Int) = ((s q ||| bt : Nat) : Int) := bits_or_u64_nat _ _ (hs2 q) hb64
          obtain ⟨z, hzz⟩ : ∃ z, s q ||| bt = z := ⟨_, rfl⟩
          rw [hzz] at hbor
          have KK := Lib.hid (And.intro hs1 (And.intro hs2 (And.intro hs3 (And.intro hz (And.intro hbb (And.intro hcc (And.intro hbox (And.intro hq (And.intro hr (And.intro hbt hzz))))))))))
          clear hs1 hs2 hs3 hz hbb hcc hbox hq hr hbt hzz hb64
          go_wp2_with fail
          go_region
          all_goals
            have hd : Below wr.heap.size wr wr.drew := (Below.refl _ _).drew
            have hset : WdAt G (putT s m) (wr.drew.setCell ⟨G, q, none⟩ (.int .u64 (z : Int))) := by
              have q1 := (BkAt.below KK.out.1 hd).set q (.int .u64 (z : Int))
              rw [wdA_set s q z q4] at q1
              have e : (fun j => if j = q then z else s j) = putT s m := by
                funext j
                unfold putT
                rw [KK.out.2.2.2.2.2.2.2.1, KK.out.2.2.2.2.2.2.2.2.1, KK.out.2.2.2.2.2.2.2.2.2.1]
                by_cases hj : j = q
                · rw [if_pos hj, if_pos hj, hj, KK.out.2.2.2.2.2.2.2.2.2.2]
                · rw [if_neg hj, if_neg hj]
              rw [e] at q1
              exact q1
            have hIn : SoI w W G (fun c => anyRg (rs.take k) c || decide (x ≤ c ∧ c < m + 1)) (wr.drew.setCell ⟨G, q, none⟩ (.int .u64 (z : Int))) := by
              refine ⟨⟨_, hset, set64_put KK.out.2.1 m, fun c hc => ?_⟩, (BkAt.below KK.out.2.2.2.1 hd).other q _ (by omega), ((KK.out.2.2.2.2.1.trans (hd.mono KK.out.2.2.2.2.1.size)).setCell (p := ⟨G, q, none⟩) (by show _ ≤ G; omega) _), (KK.out.2.2.2.2.2.1.below hd).set G q _ rfl⟩
              rw [hasT_put, KK.out.2.2.1 c hc]
              show (anyRg (rs.take k) c || decide (x ≤ c ∧ c < m) || decide (c = m)) = (anyRg (rs.take k) c || decide (x ≤ c ∧ c < m + 1))
              rw [Bool.or_assoc]
              congr 1
              rw [← Bool.decide_or]
              exact decide_eq_decide.2 (by omega)
            have hbx : BkAt W1.heap.size 59 #[.int .u8 (x : Int), .int .u8 (y : Int)] (wr.drew.setCell ⟨G, q, none⟩ (.int .u64 (z : Int))) := (KK.out.2.2.2.2.2.2.1.below hd).other q _ (by omega)
            have HN := Lib.hid (And.intro hIn hbx)
            clear hset hIn hbx hd
            go_wp2_with fail
            go_roundw
            case rel => exact ⟨m + 1, by omega, .inr (by omega), by simp, HN.out.1, HN.out.2⟩
            case measure => simp [intOf]; omega
        · have d1 : decide ((m : Int) ≤ (y : Int)) = false := by simp; omega
          have KK := Lib.hid hI
          clear hI hbox
          go_wp2_with fail
          go_roundw
          case rel =>
            refine ⟨k + 1, by omega, by simp, ⟨KK.out.s.congr fun i _ => ?_, KK.out.z, KK.out.b, KK.out.c⟩⟩
            show (anyRg (rs.take k) i || decide (x ≤ i ∧ i < m)) = anyRg (rs.take (k + 1)) i
            rw [K.out.1, K.out.2.1]
            congr 1
            exact decide_eq_decide.2 (by omega)
          case measure => simp [intOf]; omega
    · obtain rfl : k = rs.length := by omega
      rw [List.take_length] at hI
      obtain ⟨⟨s, hs1, hs2, hs3⟩, hz, hbb, hcc⟩ := hI
      have c0 := hs1.cell 0 (by decide)
      have c1 := hs1.cell 1 (by decide)
      have c2 := hs1.cell 2 (by decide)
      have c3 := hs1.cell 3 (by decide)
      have hz0 : W1.cell? ⟨w.heap.size, 0, none⟩ = some (.int .u64 0) := hz.cell 0 (by decide)
      have hz1 : W1.cell? ⟨w.heap.size, 1, none⟩ = some (.int .u64 0) := hz.cell 1 (by decide)
      have hz2 : W1.cell? ⟨w.heap.size, 2, none⟩ = some (.int .u64 0) := hz.cell 2 (by decide)
      have hz3 : W1.cell? ⟨w.heap.size, 3, none⟩ = some (.int .u64 0) := hz.cell 3 (by decide)
      have f0 : W1.frozen? ⟨w.heap.size, 0, none⟩ = false := BkAt.free hz 0
      have f1 : W1.frozen? ⟨w.heap.size, 1, none⟩ = false := BkAt.free hz 1
      have f2 : W1.frozen? ⟨w.heap.size, 2, none⟩ = false := BkAt.free hz 2
      have f3 : W1.frozen? ⟨w.heap.size, 3, none⟩ = false := BkAt.free hz 3
      have hend := blk_end4 (.int .u64 (s 0 : Int)) (.int .u64 (s 1 : Int)) (.int .u64 (s 2 : Int)) (.int .u64 (s 3 : Int)) hz hbb
      have KK := Lib.hid (And.intro hs2 (And.intro hs3 hend))
      clear hs1 hs2 hs3 hz hbb hcc hend
      go_wp2_with fail
      refine bodyPost_ret (results_cell_row rfl _ _ w.heap.size 127 (wdA s) (0, 0) _ rfl KK.out.2.2.1 Try.underlying127 rfl sizeWd) rfl ?_
      exact ⟨s, rfl, KK.out.1, KK.out.2.1, KK.out.2.2.2⟩
end Go.Proofs.Ytfkgicakiapmaaa

namespace Go.Proofs.Ytfkgicakiapmaaa
open Go Go.RowKit

def lfN (op : Int) (rs : List (Nat × Nat)) : Nd := .mk op rs ⟨#[]⟩ [] 0 0
theorem NdAt.rg {rs : List (Nat × Nat)} {ra : Option Addr} {rc : Nat} {w : World} (h : NdAt rs ra rc w) (h256 : ∀ x ∈ rs, x.1 < 256 ∧ x.2 < 256) : RangesIn 0 w (.slice ra rs.length rc) rs := by
  have hget : ∀ (l : List (Nat × Nat)) i (hi : i < l.length), ((l.map fun r => [Value.int .u8 (r.1 : Int), Value.int .u8 (r.2 : Int)]).flatten)[i * 2]? = some (.int .u8 (l[i].1 : Int)) ∧ ((l.map fun r => [Value.int .u8 (r.1 : Int), Value.int .u8 (r.2 : Int)]).flatten)[i * 2 + 1]? = some (.int .u8 (l[i].2 : Int)) := by
    intro l
    induction l with
    | nil => intro i hi; simp at hi
    | cons x t ih =>
      intro i hi
      cases i with
      | zero => simp
      | succ i =>
        have := ih i (by simp at hi; omega)
        rw [show (i + 1) * 2 = i * 2 + 1 + 1 by omega]
        simpa using this
  rcases row_form h with ⟨h1, h2⟩ | ⟨g, c, h1, -, -, h3, h4⟩
  · refine ⟨ra, rc, rfl, by rw [h2]; exact Nat.zero_le _, h256, fun i hi => by omega⟩
  · injection h1 with e1 e2 e3
    subst e1 e3
    refine ⟨_, _, rfl, by omega, h256, fun i hi => ⟨g, 0, rfl, Nat.zero_le _, ?_, ?_⟩⟩
    · rw [Nat.zero_add]
      exact (World.ownsRow.cellAt h (i * 2) (by omega)).trans (hget rs i hi).1
    · rw [Nat.zero_add]
      exact (World.ownsRow.cellAt h (i * 2 + 1) (by omega)).trans (hget rs i hi).2
theorem lf_node {op : Int} {rs : List (Nat × Nat)} {ra : Option Addr} {rc : Nat} {w : World} (ho : i64In op) (h : RangesIn 0 w (.slice ra rs.length rc) rs) : NodeIn 0 w (lfN op rs) (.agg (ndA op ra rs.length rc)) := by
  unfold lfN NodeIn
  exact ⟨_, none, 0, rfl, ho, by unfold i64In; omega, by unfold i64In; omega, Nat.zero_le _, Nat.zero_le _, h, .inl rfl⟩

set_option maxRecDepth 100000 in
set_option maxHeartbeats 1000000 in
theorem states_leaf (op : Int) (ho : op ≠ 2 ∧ op ≠ 3 ∧ op ≠ 4 ∧ op ≠ 5) (ra : Option Addr) (rn rc : Nat) (w : World) :
    Calls Try.prog 61 #[.agg (ndA op ra rn rc)] w fun e w' => e = .returned (.int .i64 1) ∧ Below w.heap.size w w' := by
  obtain ⟨h2, h3, h4, h5⟩ := ho
  have d2 : (op == 2) = false := by rw [beq_eq_false_iff_ne]; exact h2
  have d3 : (op == 3) = false := by rw [beq_eq_false_iff_ne]; exact h3
  have d4 : (op == 4) = false := by rw [beq_eq_false_iff_ne]; exact h4
  have d5 : (op == 5) = false := by rw [beq_eq_false_iff_ne]; exact h5
  have e2 : decide (op = 2) = false := decide_eq_false h2
  have e3 : decide (op = 3) = false := decide_eq_false h3
  have e4 : decide (op = 4) = false := decide_eq_false h4
  have e5 : decide (op = 5) = false := decide_eq_false h5
  unfold ndA
  go_enter Try.func61, Try.ntmps61
  go_wp2
  go_ret
  exact ⟨rfl, below_new _ _⟩

set_option maxRecDepth 100000 in
set_option maxHeartbeats 1000000 in
theorem cost_leaf (op : Int) (ho : op ≠ 2 ∧ op ≠ 3 ∧ op ≠ 4 ∧ op ≠ 5) (rs : List (Nat × Nat)) (hck : chkN (lfN op rs) = 0) (hi : i64In op) (ra : Option Addr) (rc : Nat) (w : World) (h : RangesIn 0 w (.slice ra rs.length rc) rs) :
    Calls Try.prog 51 #[.agg (ndA op ra rs.length rc)] w fun e w' => e = .returned (.int .i64 1) ∧ Below w.heap.size w w' := by
  have hb1 := below_new w (.cells (ndA op ra rs.length rc) 27)
  have hc := check_any (lfN op rs) (.agg (ndA op ra rs.length rc)) _ (lf_node hi (h.keeps (keeps_below hb1)))
  have hs := fun W => states_leaf op ho ra rs.length rc W
  have hk := BkAt.new 27 (ndA op ra rs.length rc) w
  rw [hck] at hc
  have H := Lib.hid (And.intro hc (And.intro hs (And.intro hb1 hk)))
  clear hc hs hb1 h hck hk
  unfold ndA at H ⊢
  go_enter Try.func51, Try.ntmps51
  go_wp2_with fail
  refine H.out.1.mono ?_
  rintro e w1 ⟨rfl, hb⟩
  have hk1 := H.out.2.2.2.below hb
  have k0 := hk1.cell 0
  have k1 := hk1.cell 1
  have k2 := hk1.cell 2
  have k3 := hk1.cell 3
  have k4 := hk1.cell 4
  have k5 := hk1.cell 5
  simp only [List.getElem?_toArray, List.getElem?_cons_zero, List.getElem?_cons_succ] at k0 k1 k2 k3 k4 k5
  have HB := Lib.hid hb
  clear hb hk1
  go_wp2_with fail
  refine (H.out.2.1 _).mono ?_
  rintro e w2 ⟨rfl, hb2⟩
  have HB2 := Lib.hid hb2
  clear hb2
  go_wp2
  go_ret
  exact ⟨rfl, bl_trans' (bl_trans' H.out.2.2.1 HB.out) HB2.out⟩

set_option maxRecDepth 100000 in
set_option maxHeartbeats 1000000 in
theorem able_leaf (op : Int) (ho : op ≠ 2 ∧ op ≠ 3 ∧ op ≠ 4 ∧ op ≠ 5) (rs : List (Nat × Nat)) (hck : chkN (lfN op rs) = 0) (hi : i64In op) (ra : Option Addr) (rc : Nat) (txt : ByteArray) (ht : txt.size ≤ 20000) (w : World) (h : RangesIn 0 w (.slice ra rs.length rc) rs) :
    Calls Try.prog 46 #[.agg (ndA op ra rs.length rc), .string txt] w fun e w' => e = .returned (.bool true) ∧ Below w.heap.size w w' := by
  have hb1 := below_new w (.cells (ndA op ra rs.length rc) 27)
  have hc := cost_leaf op ho rs hck hi ra rc _ (h.keeps (keeps_below hb1))
  have H := Lib.hid (And.intro hc hb1)
  have t1 : decide ((20000 : Int) < (txt.size : Int)) = false := decide_eq_false (by omega)
  have t2 : decide (20000 < txt.size) = false := decide_eq_false (by omega)
  clear hc hb1 h hck hi ho
  unfold ndA at H ⊢
  go_enter Try.func46, Try.ntmps46
  go_wp2_with fail
  refine H.out.1.mono ?_
  rintro e w1 ⟨rfl, hb⟩
  have HB := Lib.hid hb
  clear hb
  go_wp2
  go_ret
  exact ⟨rfl, bl_trans' H.out.2 HB.out⟩

set_option maxRecDepth 100000 in
set_option maxHeartbeats 1000000 in
theorem names_leaf (op : Int) (ho : op ≠ 5) (ra : Option Addr) (rn rc : Nat) (w : World) :
    Calls Try.prog 52 #[.slice none 0 0, .agg (ndA op ra rn rc)] w fun e w' => e = .returned (.slice none 0 0) ∧ Below w.heap.size w w' := by
  have d5 : (op == 5) = false := by rw [beq_eq_false_iff_ne]; exact ho
  have e5 : decide (op = 5) = false := decide_eq_false ho
  unfold ndA
  go_enter Try.func52, Try.ntmps52
  go_wp2_with fail
  go_loopw [0, 18] (fun u i wr => u = .slice none 0 0 ∧ i = .int .i64 0 ∧ Below w.heap.size w wr) (fun _ _ _ => 0)
  case atStart => exact ⟨rfl, rfl, below_new _ _⟩
  case round =>
    obtain ⟨rfl, rfl, hb⟩ := hrel
    have HB := Lib.hid hb
    clear hb
    go_wp2
    go_ret
    exact ⟨rfl, HB.out⟩
end Go.Proofs.Ytfkgicakiapmaaa
