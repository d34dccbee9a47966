/- Package matcher: Match at a pattern without kids. -/
import Derived.Test.YtfkgicakiapmaaaMnJ
namespace Go.Proofs.Ytfkgicakiapmaaa
open Go Go.RowKit

/-- Whether a pattern without kids matches at the beginning. -/
def lfM (op : Int) (rs : List (Nat × Nat)) (txt : ByteArray) : Bool :=
  if op = 1 then (if h : 0 < txt.size then anyRg rs (txt[0]'h).toNat else false) else if op = 6 then true else txt.size == 0
theorem posS_lf {op : Int} {rs : List (Nat × Nat)} {x : InsV} (h : InsLf op rs 0 x) (txt : ByteArray) : posS x txt 0 true = lfM op rs txt := by
  obtain ⟨-, -, ⟨rfl, h1, h2⟩ | ⟨rfl, h1⟩ | ⟨rfl, h1⟩⟩ := h
  · unfold posS lfM
    rw [h1, if_pos rfl]
    show (if h : 0 < txt.size then _ else false) = _
    split
    · rename_i h3
      exact h2 _ (txt[0]'h3).toNat_lt
    · rfl
  · unfold posS lfM
    rw [h1, if_neg (by omega), if_pos rfl]
    rfl
  · unfold posS lfM
    rw [h1, if_neg (by omega), if_neg (by omega)]
    show (0 == txt.size) = (txt.size == 0)
    rw [Bool.eq_iff_iff, beq_iff_eq, beq_iff_eq]
    omega
theorem codeC_get : ∀ (l : List InsV) (i : Nat) (h : i < l.length) (j : Nat) (v : Value), (insC l[i])[j]? = some v → (codeC l)[i * 8 + j]? = some v
  | [], i, h, _, _, _ => by simp at h
  | x :: t, 0, h, j, v, hv => by
    have e : codeC (x :: t) = insC x ++ codeC t := by simp [codeC]
    have hv : (insC x)[j]? = some v := hv
    have hj : j < (insC x).length := (List.getElem?_eq_some_iff.1 hv).1
    rw [e, Nat.zero_mul, Nat.zero_add, List.getElem?_append_left hj]
    exact hv
  | x :: t, i + 1, h, j, v, hv => by
    have e : codeC (x :: t) = insC x ++ codeC t := by simp [codeC]
    have hl : (insC x).length = 8 := rfl
    have ih := codeC_get t i (by simp at h; omega) j v (by simpa using hv)
    rw [e, List.getElem?_append_right (by omega), hl, show (i + 1) * 8 + j - 8 = i * 8 + j by omega]
    exact ih

set_option maxRecDepth 100000 in
set_option maxHeartbeats 4000000 in
theorem match_leaf (op : Int) (ho : op = 1 ∨ op = 6 ∨ op = 7) (rs : List (Nat × Nat)) (h256 : ∀ x ∈ rs, x.1 < 256 ∧ x.2 < 256) (hck : chkN (lfN op rs) = 0) (ra : Option Addr) (rc : Nat) : MtC op rs ra rc (lfM op rs) := by
  intro txt w ht hnd
  obtain ⟨nb, hnb⟩ : ∃ q, w.heap.size = q := ⟨_, rfl⟩
  have hb1 := bl_trans' (below_new w (.cells (ndA op ra rs.length rc) 27)) (below_new _ (.cells #[.int .i64 0, .int .i64 0, .slice none 0 0] 54))
  have hn0 : BkAt nb 27 (ndA op ra rs.length rc) ((w.alloc (.cells (ndA op ra rs.length rc) 27)).alloc (.cells #[.int .i64 0, .int .i64 0, .slice none 0 0] 54)) := by rw [← hnb]; exact (BkAt.new _ _ _).below (below_new _ _)
  have hr0 : BkAt (nb + 1) 54 #[.int .i64 0, .int .i64 0, .slice none 0 0] ((w.alloc (.cells (ndA op ra rs.length rc) 27)).alloc (.cells #[.int .i64 0, .int .i64 0, .slice none 0 0] 54)) := by
    have q := BkAt.new 54 #[.int .i64 0, .int .i64 0, .slice none 0 0] (w.alloc (.cells (ndA op ra rs.length rc) 27))
    rw [World.size_alloc, hnb] at q
    exact q
  obtain ⟨W, hW⟩ : ∃ y, (w.alloc (.cells (ndA op ra rs.length rc) 27)).alloc (.cells #[.int .i64 0, .int .i64 0, .slice none 0 0] 54) = y := ⟨_, rfl⟩
  rw [hW] at hb1 hn0 hr0
  have hi : i64In op := by unfold i64In; omega
  have hab := able_leaf op (by omega) rs hck hi ra rc txt ht W ((hnd.below hb1).rg h256)
  have HW := Lib.hid (And.intro hW hnb)
  have H := Lib.hid (And.intro hab (And.intro hn0 (And.intro hr0 (And.intro hb1 (hnd.below hb1)))))
  clear hW hnb hab hn0 hr0 hb1 hnd
  have HA := Lib.hid (fun gn cap W' (h : NdAt rs ra rc W') hg => compile_leaf gn cap op ho rs h256 ra rc W' h hg)
  have hz1 : decide ((txt.size : Int) < 0) = false := decide_eq_false (by omega)
  unfold ndA at HW H HA ⊢
  obtain ⟨mt, hmt⟩ : ∃ b, lfM op rs txt = b := ⟨_, rfl⟩
  rw [hmt]
  go_enter Try.func41, Try.ntmps41
  go_wp2_with fail
  rw [HW.out.1, HW.out.2]
  refine H.out.1.mono ?_
  rintro e w1 ⟨rfl, hb2⟩
  have hn1 := H.out.2.1.below hb2
  have k0 : w1.cell? ⟨nb, 0, none⟩ = some (.int .i64 op) := hn1.cell 0
  have k1 : w1.cell? ⟨nb, 1, none⟩ = some (.slice ra rs.length rc) := hn1.cell 1
  have k2 : w1.cell? ⟨nb, 2, none⟩ = some (.string ⟨#[]⟩) := hn1.cell 2
  have k3 : w1.cell? ⟨nb, 3, none⟩ = some (.slice none 0 0) := hn1.cell 3
  have k4 : w1.cell? ⟨nb, 4, none⟩ = some (.int .i64 0) := hn1.cell 4
  have k5 : w1.cell? ⟨nb, 5, none⟩ = some (.int .i64 0) := hn1.cell 5
  have hnl := hn1.lt
  have H1 := Lib.hid (And.intro (H.out.2.2.1.below hb2) (And.intro (bl_trans' H.out.2.2.2.1 hb2) (H.out.2.2.2.2.below hb2)))
  clear hb2 hn1
  go_wp2_with fail
  have hgb := below_new w1 (.cells #[.int .i64 op, .slice ra rs.length rc, .string ⟨#[]⟩, .slice none 0 0, .int .i64 0, .int .i64 0] 27)
  have hcm := HA.out w1.heap.size 1 _ (H1.out.2.2.below hgb) (BkAt.new 27 #[.int .i64 op, .slice ra rs.length rc, .string ⟨#[]⟩, .slice none 0 0, .int .i64 0, .int .i64 0] w1)
  have hr2 := H1.out.1.below hgb
  have hb2 := bl_trans' H1.out.2.1 hgb
  have H2 := Lib.hid (And.intro hcm (And.intro hr2 hb2))
  clear hgb hcm hr2 hb2
  refine H2.out.1.mono ?_
  rintro e w3 ⟨cv, x, rfl, hins, hrow, hb3⟩
  obtain ⟨gc, cap, rfl⟩ := ownsRow_succ hrow
  obtain ⟨-, -, -, hgw⟩ := row_type hrow (g := gc) rfl
  have hgl : gc < w3.heap.size := by
    obtain ⟨cur, fz, q, -⟩ := row_type hrow (g := gc) rfl
    exact lt_of_some q
  have hr3 := H2.out.2.1.below hb3
  have hbw3 := bl_trans' H2.out.2.2 hb3
  obtain ⟨O1, hO1⟩ : ∃ o, Obj.cells #[.slice (some ⟨gc, 0, none⟩) 2 cap, .int .i64 ((1 : Nat) : Int), .slice none 0 0] 115 = o := ⟨_, rfl⟩
  obtain ⟨O2, hO2⟩ : ∃ o, Obj.cells (srA (.slice (some ⟨gc, 0, none⟩) 2 cap) (.slice none 0 0) (.slice none 0 0) (.slice none 0 0) txt 1 0) 121 = o := ⟨_, rfl⟩
  have hns := newSearch_any (.slice (some ⟨gc, 0, none⟩) 2 cap) (.slice none 0 0) 1 0 txt w3
  rw [hO1, hO2, show (Value.int .i64 ((1 : Nat) : Int)) = .int .i64 1 from rfl, show (Value.int .i64 ((0 : Nat) : Int)) = .int .i64 0 from rfl] at hns
  have hb4 := bl_trans' (below_new w3 O1) (below_new (w3.alloc O1) O2)
  have hs4 : BkAt (w3.heap.size + 1) 121 (srA (.slice (some ⟨gc, 0, none⟩) 2 cap) (.slice none 0 0) (.slice none 0 0) (.slice none 0 0) txt 1 0) ((w3.alloc O1).alloc O2) := by
    have q := BkAt.new 121 (srA (.slice (some ⟨gc, 0, none⟩) 2 cap) (.slice none 0 0) (.slice none 0 0) (.slice none 0 0) txt 1 0) (w3.alloc O1)
    rw [hO2, World.size_alloc] at q
    exact q
  have hcd : CodeW ((w3.alloc O1).alloc O2) (w3.heap.size + 1) gc 2 cap [accI, x] (.slice none 0 0) (.slice none 0 0) (.slice none 0 0) txt 1 0 := by
    refine ⟨hs4, fun i hi j v hv => ?_, rfl, Nat.lt_of_lt_of_le hgl hb4.size, ?_⟩
    · have h1 := codeC_get [accI, x] i hi j v hv
      have h2 := (World.ownsRow.cellAt (row_below hrow hb4) (i * 8 + j) (by have := (List.getElem?_eq_some_iff.1 h1).1; have h3 := hrow.1; omega)).trans h1
      exact h2
    · intro y hy k
      simp only [List.mem_cons, List.not_mem_nil, or_false] at hy
      rcases hy with rfl | rfl
      · show (0 : Nat) < _
        decide
      · exact hins.2.1 k
  have hxo : x.op = 1 ∨ x.op = 2 ∨ x.op = 3 := by
    rcases hins.2.2 with ⟨-, h, -⟩ | ⟨-, h⟩ | ⟨-, h⟩
    · exact .inl h
    · exact .inr (.inl h)
    · exact .inr (.inr h)
  have hmm := match_two (w3.heap.size + 1) gc cap x hxo hins.1 txt (by omega) _ hcd (by omega)
  rw [posS_lf hins, hmt] at hmm
  have H4 := Lib.hid (And.intro hns (And.intro hmm (And.intro hr3 (And.intro hbw3 hb4))))
  clear hns hmm hr3 hbw3 hb4 hs4 hcd hins hrow hb3 hgw hgl hO1 hO2 hxo k0 k1 k2 k3 k4 k5
  go_wp2_with fail
  refine H4.out.1.mono ?_
  rintro e w4 ⟨rfl, rfl⟩
  go_wp2_with fail
  refine H4.out.2.1.mono ?_
  rintro e w5 ⟨⟨a, b, y, n, k, rfl⟩, hc5⟩
  have hb5 : Below w3.heap.size w3 w5 := H4.out.2.2.2.2.trans (hc5.toBelow H4.out.2.2.2.2.size (by rintro i rfl; omega))
  have hr5 := H4.out.2.2.1.below hb5
  obtain ⟨p0, p1, p2⟩ : w5.cell? ⟨nb + 1, 0, none⟩ = some (.int .i64 0) ∧ w5.cell? ⟨nb + 1, 1, none⟩ = some (.int .i64 0) ∧ w5.cell? ⟨nb + 1, 2, none⟩ = some (.slice none 0 0) := ⟨hr5.cell 0, hr5.cell 1, hr5.cell 2⟩
  obtain ⟨y0, y1, y2⟩ : w5.frozen? ⟨nb + 1, 0, none⟩ = false ∧ w5.frozen? ⟨nb + 1, 1, none⟩ = false ∧ w5.frozen? ⟨nb + 1, 2, none⟩ = false := ⟨hr5.free 0, hr5.free 1, hr5.free 2⟩
  have hr6 := ((hr5.set 0 (.int .i64 a)).set 1 (.int .i64 b)).set 2 (.slice y n k)
  have hnw : w.heap.size ≤ nb + 1 := by have := HW.out.2; omega
  have hbw5 := bl_trans' H4.out.2.2.2.1 hb5
  have hb6 := ((hbw5.setCell (p := ⟨nb + 1, 0, none⟩) hnw (.int .i64 a)).setCell (p := ⟨nb + 1, 1, none⟩) hnw (.int .i64 b)).setCell (p := ⟨nb + 1, 2, none⟩) hnw (.slice y n k)
  have HZ := Lib.hid (And.intro hr6 hb6)
  clear hr5 hr6 hb5 hb6 hbw5 hc5
  go_wp2_with fail
  refine bodyPost_ret (results_ctm rfl _ _ (nb + 1) 54 #[.int .i64 a, .int .i64 b, .slice y n k] (0, 0) _ rfl HZ.out.1 Try.underlying54 rfl sizeMt) rfl ?_
  exact ⟨⟨_, _, _, _, _, rfl⟩, HZ.out.2⟩
end Go.Proofs.Ytfkgicakiapmaaa
