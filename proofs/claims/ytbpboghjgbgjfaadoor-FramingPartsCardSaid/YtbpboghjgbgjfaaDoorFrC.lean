/- Package framing's framed and lines. -/
import Derived.Test.YtbpboghjgbgjfaaDoorFrB
import Derived.Test.YtbpboghjgbgjfaaDoorBk
import Derived.Laws.Rows
import Derived.Laws.Tables
namespace Go.Proofs.YtbpboghjgbgjfaaDoor
open Go.RowKit

theorem sizeFr : (Tryd.prog.info? 41).map (·.size) = some 5 := by kernel_rfl
theorem oneFr (a n d : Int) (T : ByteArray) (b : Bool) : (#[.int .i64 a, .int .i64 n, .string T, .int .i64 d, .bool b] : Array Value).all (·.oneCell') = true := by simp [Value.oneCell']
def frA (off : Int) (p : List UInt8) (lim : Int) : Array Value := #[.int .i64 off, .int .i64 (p.length : Int), .string (frS p lim), .int .i64 (frD p lim : Int), .bool (frB p lim)]
set_option maxRecDepth 100000 in
set_option maxHeartbeats 2000000 in
theorem framed_any (sv : Value) (l : List UInt8) (lim : Int) (hl : l.length ≤ 4194304) (w : World) (hT : Tabs w) (h : BySl w sv l) :
    Calls Tryd.prog 35 #[sv, .int .i64 lim] w fun e w' => e = .returned (.agg (frA 0 l lim)) ∧ Below w.heap.size w w' := by
  obtain ⟨a, c, rfl, hc, -⟩ := id h
  obtain ⟨n, hn⟩ : ∃ n, l.length = n := ⟨_, rfl⟩
  by_cases hlt : lim < (n : Int)
  · have d1 : decide (lim < (n : Int)) = true := decide_eq_true hlt
    have hA : frA 0 l lim = #[.int .i64 0, .int .i64 (n : Int), .string ⟨#[]⟩, .int .i64 0, .bool true] := by
      have hb : frB l lim = true := by unfold frB; rw [hn]; exact d1
      unfold frA frS frD
      rw [hb, hn]
      rfl
    rw [hA]
    rw [hn] at h hl ⊢
    have hb1 := below_new w (.cells #[.int .i64 0, .int .i64 0, .string ⟨#[]⟩, .int .i64 0, .bool false] 41)
    have H := Lib.hid (And.intro h hb1)
    clear h hA hn hb1
    go_enter Tryd.func35, Tryd.ntmps35
    go_wp2
    exact bodyPost_ret (v := .agg #[.int .i64 0, .int .i64 (n : Int), .string ⟨#[]⟩, .int .i64 0, .bool true]) (by simp [results, Tryd.results35, go_sem]) rfl ⟨rfl, (Below.refl _ _).alloc (Nat.le_refl _) _⟩
  · have d1 : decide (lim < (n : Int)) = false := decide_eq_false hlt
    have hA : frA 0 l lim = #[.int .i64 0, .int .i64 (n : Int), .string ⟨(textB l).toArray⟩, .int .i64 (textN l : Int), .bool false] := by
      have hb : frB l lim = false := by unfold frB; rw [hn]; exact d1
      unfold frA frS frD
      rw [hb, hn]
      rfl
    rw [hA]
    have hb1 := below_new w (.cells #[.int .i64 0, .int .i64 0, .string ⟨#[]⟩, .int .i64 0, .bool false] 41)
    have hnw := heap_alloc_new w (.cells #[.int .i64 0, .int .i64 0, .string ⟨#[]⟩, .int .i64 0, .bool false] 41)
    have hsz : w.heap.size < (w.alloc (.cells #[.int .i64 0, .int .i64 0, .string ⟨#[]⟩, .int .i64 0, .bool false] 41)).heap.size := by simp
    have htx := text_any _ l hl _ (Utf8Tabs_below hT hb1) (h.below hb1)
    obtain ⟨T, hTT⟩ : ∃ T : ByteArray, ⟨(textB l).toArray⟩ = T := ⟨_, rfl⟩
    obtain ⟨D, hD⟩ : ∃ D : Int, (textN l : Int) = D := ⟨_, rfl⟩
    rw [hTT, hD, hn] at htx
    rw [hTT, hD]
    rw [hn]
    have H := Lib.hid (And.intro htx (And.intro hb1 (And.intro hnw hsz)))
    clear h hA hn hb1 htx hT hTT hD hl hnw hsz
    go_enter Tryd.func35, Tryd.ntmps35
    go_wp2_with fail
    refine (H.out.1).mono ?_
    rintro e w1 ⟨rfl, hb⟩
    have hbk : w1.heap[w.heap.size]? = some (.cells #[.int .i64 0, .int .i64 0, .string ⟨#[]⟩, .int .i64 0, .bool false] 41 (0, 0)) := (hb.block _ H.out.2.2.2).trans H.out.2.2.1
    have HB := Lib.hid (And.intro hbk (bl_trans' H.out.2.1 hb))
    clear hb hbk
    go_wp2_with (refine wpList_store_row rfl 41 (.tmp 4) (.tmp 23) rfl w.heap.size #[.int .i64 0, .int .i64 (n : Int), .string T, .int .i64 D, .bool false] rfl rfl 41 _ HB.out.1 sizeFr rfl (oneFr _ _ _ _ _) ?_)
    simp only [Act.put]
    refine bodyPost_ret (v := .agg #[.int .i64 0, .int .i64 (n : Int), .string T, .int .i64 D, .bool false]) ?_ rfl ?_
    · exact results_cell_row rfl _ _ w.heap.size 41 #[.int .i64 0, .int .i64 (n : Int), .string T, .int .i64 D, .bool false] (0, 0) _ rfl (setRow_heap _ _ _ _ _ _ HB.out.1) Tryd.underlying41 rfl sizeFr
    · exact ⟨rfl, below_setRow HB.out.2 (Nat.le_refl _) _⟩
end Go.Proofs.YtbpboghjgbgjfaaDoor
