/- The contract of the formatter's node, at every well-formed node. The contract of the formatter's node at choices. The contract of the formatter's node at the other nodes, and at all. How long a formatted source can be: no condition. -/
import Derived.Test.YtbadhhfnbgaamaaDoorPatKid
namespace Go.Proofs.YtbadhhfnbgaamaaDoor
open Go.RowKit

theorem fmtL_cons (lo : List Int) (sep : List UInt8) (b : Bool) (k : Nd) (r : List Nd) : fmtL lo sep b (k :: r) = (if b = true then [] else sep) ++ (piece lo k ++ fmtL lo sep false r) := by rw [fmtL]; rfl
theorem errL_cons (k : Nd) (r : List Nd) : errL (k :: r) = (errN k || errL r) := by rw [errL]
theorem fmtL_app (lo : List Int) (sep : List UInt8) : ∀ (l m : List Nd) (b : Bool), fmtL lo sep b (l ++ m) = fmtL lo sep b l ++ fmtL lo sep (b && l.isEmpty) m
  | [], m, b => by
    show fmtL lo sep b m = fmtL lo sep b [] ++ fmtL lo sep (b && true) m
    rw [Bool.and_true]
    have : fmtL lo sep b [] = [] := by unfold fmtL; rfl
    rw [this]; rfl
  | k :: r, m, b => by
    show fmtL lo sep b (k :: (r ++ m)) = fmtL lo sep b (k :: r) ++ fmtL lo sep (b && false) m
    rw [fmtL_cons, fmtL_cons, fmtL_app lo sep r m false, Bool.and_false, Bool.false_and]
    simp
theorem fmtL_one (lo : List Int) (sep : List UInt8) (b : Bool) (k : Nd) : fmtL lo sep b [k] = (if b = true then [] else sep) ++ piece lo k := by
  unfold fmtL
  have : fmtL lo sep false [] = [] := by unfold fmtL; rfl
  rw [this]
  simp [piece]
theorem fmtL_snoc (lo : List Int) (sep : List UInt8) (l : List Nd) (j : Nat) (h : j < l.length) : fmtL lo sep true (l.take (j + 1)) = fmtL lo sep true (l.take j) ++ ((if j = 0 then [] else sep) ++ piece lo l[j]) := by
  rw [List.take_succ_eq_append_getElem h, fmtL_app, fmtL_one]
  congr 1
  by_cases hj : j = 0
  · subst hj; simp
  · have h1 : (l.take j).isEmpty = false := by
      cases l with
      | nil => simp at h
      | cons x r => cases j with
        | zero => omega
        | succ j => rfl
    rw [h1, Bool.and_false, if_neg hj]
    simp
theorem fmtL_le (lo : List Int) (sep : List UInt8) (l : List Nd) (j : Nat) : (fmtL lo sep true (l.take j)).length ≤ (fmtL lo sep true l).length := by
  have := fmtL_app lo sep (l.take j) (l.drop j) true
  rw [List.take_append_drop] at this
  rw [this, List.length_append]
  omega
theorem errL_app : ∀ (l m : List Nd), errL (l ++ m) = (errL l || errL m)
  | [], m => by
    have : errL [] = false := by unfold errL; rfl
    rw [this]; rfl
  | k :: r, m => by
    show errL (k :: (r ++ m)) = _
    rw [errL_cons, errL_cons, errL_app r m, Bool.or_assoc]
theorem errL_snoc (l : List Nd) (j : Nat) (h : j < l.length) : errL (l.take (j + 1)) = (errL (l.take j) || errN l[j]) := by
  rw [List.take_succ_eq_append_getElem h, errL_app]
  congr 1
  unfold errL
  have : errL [] = false := by unfold errL; rfl
  rw [this, Bool.or_false]
theorem errF_app (a b : Bool) (er : Int) : errF a (errF b er) = errF (b || a) er := by
  cases a <;> cases b <;> rfl
theorem errL_nil : errL [] = false := by unfold errL; rfl
theorem fmtL_nil (lo : List Int) (sep : List UInt8) (b : Bool) : fmtL lo sep b [] = [] := by unfold fmtL; rfl

/-- One kid of a node's list, read off the world w0. -/
theorem kid_cells {lo : Nat} {w0 : World} {l : List Nd} {g o j : Nat} (h : KidsIn lo w0 l g o) (hj : j < l.length) : ∃ op ra rn rc nm ka kn kc mn mx, NodeIn lo w0 l[j] (.agg #[.int .i64 op, .slice ra rn rc, .string nm, .slice ka kn kc, .int .i64 mn, .int .i64 mx]) ∧
    w0.cell? ⟨g, o + j * 6, none⟩ = some (.int .i64 op) ∧ w0.cell? ⟨g, o + j * 6 + 1, none⟩ = some (.slice ra rn rc) ∧ w0.cell? ⟨g, o + j * 6 + 2, none⟩ = some (.string nm) ∧ w0.cell? ⟨g, o + j * 6 + 3, none⟩ = some (.slice ka kn kc) ∧ w0.cell? ⟨g, o + j * 6 + 4, none⟩ = some (.int .i64 mn) ∧ w0.cell? ⟨g, o + j * 6 + 5, none⟩ = some (.int .i64 mx) := by
  obtain ⟨ra, rc, ka, kc, hn, c0, c1, c2, c3, c4, c5⟩ := kids_at l g o h j hj
  exact ⟨_, _, _, _, _, _, _, _, _, _, hn, c0, c1, c2, c3, c4, c5⟩
theorem ints2 (w : World) (a b : Int) : ∀ i (h : i < [a, b].length), (w.alloc (.cells #[.int .i64 a, .int .i64 b] 3)).cell? ⟨w.heap.size, i, none⟩ = some (.int .i64 [a, b][i]) := by
  have hh := heap_alloc_new w (.cells #[.int .i64 a, .int .i64 b] 3)
  intro i h
  match i, h with
  | 0, _ => rw [Lib.cell_of_heap hh]; rfl
  | 1, _ => rw [Lib.cell_of_heap hh]; rfl
theorem ints1 (w : World) (a : Int) : ∀ i (h : i < [a].length), (w.alloc (.cells #[.int .i64 a] 3)).cell? ⟨w.heap.size, i, none⟩ = some (.int .i64 [a][i]) := by
  have hh := heap_alloc_new w (.cells #[.int .i64 a] 3)
  intro i h
  match i, h with
  | 0, _ => rw [Lib.cell_of_heap hh]; rfl
theorem ints3 (w : World) (a b c : Int) : ∀ i (h : i < [a, b, c].length), (w.alloc (.cells #[.int .i64 a, .int .i64 b, .int .i64 c] 3)).cell? ⟨w.heap.size, i, none⟩ = some (.int .i64 [a, b, c][i]) := by
  have hh := heap_alloc_new w (.cells #[.int .i64 a, .int .i64 b, .int .i64 c] 3)
  intro i h
  match i, h with
  | 0, _ => rw [Lib.cell_of_heap hh]; rfl
  | 1, _ => rw [Lib.cell_of_heap hh]; rfl
  | 2, _ => rw [Lib.cell_of_heap hh]; rfl

set_option maxRecDepth 100000 in
set_option maxHeartbeats 8000000 in
theorem node_cat (kids : List Nd) (ih : ∀ k ∈ kids, NodeW k) : NodeW (.mk 2 [] noName kids 0 0) := by
  intro B b lo l er v w0 w hin hx ho hlen
  have hf : fmtN (.mk 2 [] noName kids 0 0) = fmtL [2, 3] [] true kids := by unfold fmtN; rfl
  have he : errN (.mk 2 [] noName kids 0 0) = errL kids := by unfold errN; rfl
  rw [hf] at hlen ⊢
  rw [he]
  unfold okT at ho
  have hok := okL_mem kids ho.2.2
  unfold NodeIn at hin
  obtain ⟨rv, ka, kc, rfl, -, -, -, -, hkl, -, hks⟩ := hin
  unfold ndVals
  unfold maxLen at hkl
  have hw0 := (WOut.keep hx.fm).alloc0 (.cells #[.int .i64 2, rv, .string noName, .slice ka kids.length kc, .int .i64 0, .int .i64 0] 27)
  have hL := fun j h => fmtL_snoc [2, 3] [] kids j h
  have hLe := fun j => fmtL_le [2, 3] [] kids j
  have hE := fun j h => errL_snoc kids j h
  have HK := Lib.hid hks
  have HO := Lib.hid hok
  have HI := Lib.hid ih
  have HL := Lib.hid (And.intro hL (And.intro hLe hE))
  have HX := Lib.hid (And.intro hx hw0)
  clear hks hok ih hL hLe hE hw0 ho hf he hx
  go_enter Tryd.func14, Tryd.ntmps14
  go_wp2
  go_loopw [27] (fun i wr => ∃ k : Nat, k ≤ kids.length ∧ i = .int .i64 k ∧ WOut B b (l ++ fmtL [2, 3] [] true (kids.take k)) (errF (errL (kids.take k)) er) w wr) (fun i _ => kids.length - (intOf i).toNat)
  case atStart => exact ⟨0, by omega, rfl, by rw [List.take_zero, fmtL_nil, errL_nil, List.append_nil]; exact HX.out.2⟩
  case round =>
    obtain ⟨k, hk, rfl, hat⟩ := hrel
    obtain ⟨W1, rfl⟩ : ∃ W1, W1 = wr := ⟨_, rfl⟩
    by_cases hlt : k < kids.length
    · rcases HK.out with hnil | ⟨kg, ko, rfl, hkl2, hks⟩
      · rw [hnil] at hlt; simp at hlt
      obtain ⟨xo, xa, xn, xc, xm, ya, yn, yc, x4, x5, hkin, c0, c1, c2, c3, c4, c5⟩ := kid_cells hks hlt
      have hctx := HX.out.1.step hat
      have d0 := hctx.cell c0
      have d1 := hctx.cell c1
      have d2 := hctx.cell c2
      have d3 := hctx.cell c3
      have d4 := hctx.cell c4
      have d5 := hctx.cell c5
      have hst := HL.out.1 k hlt
      have hle := HL.out.2.1 (k + 1)
      have her := HL.out.2.2 k hlt
      rw [hst, List.length_append, List.length_append] at hle
      have hkid := kid_fm kids[k] (HI.out _ (List.getElem_mem hlt)) [2, 3] ((W1.alloc (.cells #[.int .i64 xo, .slice xa xn xc, .string xm, .slice ya yn yc, .int .i64 x4, .int .i64 x5] 27)).heap.size) 2 B b lo _ _ _ w0 _ hkin ((hctx.alloc (.cells #[.int .i64 xo, .slice xa xn xc, .string xm, .slice ya yn yc, .int .i64 x4, .int .i64 x5] 27)).alloc (.cells #[.int .i64 2, .int .i64 3] 3)) (HO.out _ (List.getElem_mem hlt)) (by rw [List.length_append]; omega) (by decide) (ints2 _ 2 3)
      rw [Go.Deep.nblk_alloc, show ([2, 3] : List Int).length = 2 from rfl] at hkid
      have hq := (hat.alloc0 (.cells #[.int .i64 xo, .slice xa xn xc, .string xm, .slice ya yn yc, .int .i64 x4, .int .i64 x5] 27)).alloc0 (.cells #[.int .i64 2, .int .i64 3] 3)
      have K := Lib.hid (And.intro hkid (And.intro hq (And.intro hst her)))
      clear hkid hq hst her hat hctx c0 c1 c2 c3 c4 c5 hkin hks hle
      go_wp2_with fail
      refine (K.out.1).mono ?_
      rintro e w2 ⟨rfl, hw2⟩
      have K2 := Lib.hid hw2
      clear hw2
      go_wp2
      go_roundw
      case rel =>
        refine ⟨k + 1, by omega, by simp, ?_⟩
        have := K.out.2.1.trans K2.out
        rw [errF_app, ← K.out.2.2.2] at this
        rw [K.out.2.2.1]
        simpa using this
      case measure => simp [intOf]; omega
    · obtain rfl : k = kids.length := by omega
      rw [List.take_length] at hat
      have K := Lib.hid hat
      clear hat
      go_wp2
      go_end0
      exact ⟨rfl, K.out⟩
end Go.Proofs.YtbadhhfnbgaamaaDoor

namespace Go.Proofs.YtbadhhfnbgaamaaDoor
open Go.RowKit

set_option maxRecDepth 100000 in
set_option maxHeartbeats 8000000 in
theorem node_cho (kids : List Nd) (ih : ∀ k ∈ kids, NodeW k) : NodeW (.mk 3 [] noName kids 0 0) := by
  intro B b lo l er v w0 w hin hx ho hlen
  have hf : fmtN (.mk 3 [] noName kids 0 0) = fmtL [3] [124] true kids := by unfold fmtN; rfl
  have he : errN (.mk 3 [] noName kids 0 0) = errL kids := by unfold errN; rfl
  rw [hf] at hlen ⊢
  rw [he]
  unfold okT at ho
  have hok := okL_mem kids ho.2.2
  unfold NodeIn at hin
  obtain ⟨rv, ka, kc, rfl, -, -, -, -, hkl, -, hks⟩ := hin
  unfold ndVals
  unfold maxLen at hkl
  have hw0 := (WOut.keep hx.fm).alloc0 (.cells #[.int .i64 3, rv, .string noName, .slice ka kids.length kc, .int .i64 0, .int .i64 0] 27)
  have hL := fun j h => fmtL_snoc [3] [124] kids j h
  have hLe := fun j => fmtL_le [3] [124] kids j
  have hE := fun j h => errL_snoc kids j h
  have HK := Lib.hid hks
  have HO := Lib.hid hok
  have HI := Lib.hid ih
  have HL := Lib.hid (And.intro hL (And.intro hLe hE))
  have HX := Lib.hid (And.intro hx hw0)
  clear hks hok ih hL hLe hE hw0 ho hf he hx
  go_enter Tryd.func14, Tryd.ntmps14
  go_wp2
  go_loopw [41] (fun i wr => ∃ k : Nat, k ≤ kids.length ∧ i = .int .i64 k ∧ WOut B b (l ++ fmtL [3] [124] true (kids.take k)) (errF (errL (kids.take k)) er) w wr) (fun i _ => kids.length - (intOf i).toNat)
  case atStart => exact ⟨0, by omega, rfl, by rw [List.take_zero, fmtL_nil, errL_nil, List.append_nil]; exact HX.out.2⟩
  case round =>
    obtain ⟨k, hk, rfl, hat⟩ := hrel
    obtain ⟨W1, rfl⟩ : ∃ W1, W1 = wr := ⟨_, rfl⟩
    by_cases hlt : k < kids.length
    · rcases HK.out with hnil | ⟨kg, ko, rfl, hkl2, hks⟩
      · rw [hnil] at hlt; simp at hlt
      obtain ⟨xo, xa, xn, xc, xm, ya, yn, yc, x4, x5, hkin, c0, c1, c2, c3, c4, c5⟩ := kid_cells hks hlt
      have hctx := HX.out.1.step hat
      have d0 := hctx.cell c0
      have d1 := hctx.cell c1
      have d2 := hctx.cell c2
      have d3 := hctx.cell c3
      have d4 := hctx.cell c4
      have d5 := hctx.cell c5
      have hst := HL.out.1 k hlt
      have hle := HL.out.2.1 (k + 1)
      have her := HL.out.2.2 k hlt
      rw [hst, List.length_append, List.length_append] at hle
      by_cases hk0 : k = 0
      · rw [if_pos hk0, List.nil_append] at hst
        have hkid := kid_fm kids[k] (HI.out _ (List.getElem_mem hlt)) [3] ((W1.alloc (.cells #[.int .i64 xo, .slice xa xn xc, .string xm, .slice ya yn yc, .int .i64 x4, .int .i64 x5] 27)).heap.size) 1 B b lo _ _ _ w0 _ hkin ((hctx.alloc (.cells #[.int .i64 xo, .slice xa xn xc, .string xm, .slice ya yn yc, .int .i64 x4, .int .i64 x5] 27)).alloc (.cells #[.int .i64 3] 3)) (HO.out _ (List.getElem_mem hlt)) (by rw [List.length_append]; omega) (by decide) (ints1 _ 3)
        rw [Go.Deep.nblk_alloc, show ([3] : List Int).length = 1 from rfl] at hkid
        have hq := (hat.alloc0 (.cells #[.int .i64 xo, .slice xa xn xc, .string xm, .slice ya yn yc, .int .i64 x4, .int .i64 x5] 27)).alloc0 (.cells #[.int .i64 3] 3)
        have K := Lib.hid (And.intro hkid (And.intro hq (And.intro hst her)))
        clear hkid hq hst her hat hctx c0 c1 c2 c3 c4 c5 hkin hks hle
        have d0k : decide ((0 : Int) < (k : Int)) = false := by simp; omega
        have d0n : decide (0 < k) = false := by simp; omega
        clear hk0
        go_wp2_with fail
        refine (K.out.1).mono ?_
        rintro e w2 ⟨rfl, hw2⟩
        have K2 := Lib.hid hw2
        clear hw2
        go_wp2
        go_roundw
        case rel =>
          refine ⟨k + 1, by omega, by simp, ?_⟩
          have := K.out.2.1.trans K2.out
          rw [errF_app, ← K.out.2.2.2] at this
          rw [K.out.2.2.1]
          simpa using this
        case measure => simp [intOf]; omega
      · rw [if_neg hk0] at hst
        rw [if_neg hk0, List.length_singleton] at hle
        have hq := hat.alloc0 (.cells #[.int .i64 xo, .slice xa xn xc, .string xm, .slice ya yn yc, .int .i64 x4, .int .i64 x5] 27)
        have hbox := NBox.new W1 (.int .i64 xo) (.slice xa xn xc) (.string xm) (.slice ya yn yc) (.int .i64 x4) (.int .i64 x5)
        have hXb : W1.heap.size ≠ b := by have := hctx.size; omega
        have hb2 := wByte B b _ _ 124 124 rfl (by decide) _ hq.1 (by rw [List.length_append]; omega)
        have hkk := fun (l' : List UInt8) W (hW : FCtx B b l' _ w0 W) (hl : l'.length + (piece [3] kids[k]).length + 5000 ≤ 1000000) => kid_fm kids[k] (HI.out _ (List.getElem_mem hlt)) [3] W.heap.size 1 B b lo l' (errF (errL (kids.take k)) er) _ w0 _ hkin (hW.alloc (.cells #[.int .i64 3] 3)) (HO.out _ (List.getElem_mem hlt)) hl (by decide) (ints1 _ 3)
        have hctxa := hctx.alloc (.cells #[.int .i64 xo, .slice xa xn xc, .string xm, .slice ya yn yc, .int .i64 x4, .int .i64 x5] 27)
        have d0k : decide ((0 : Int) < (k : Int)) = true := by simp; omega
        have d0n : decide (0 < k) = true := by simp; omega
        have K := Lib.hid (And.intro hb2 (And.intro hq (And.intro hst (And.intro her (And.intro hbox (And.intro hkk hctxa))))))
        clear hb2 hq hst her hat hctx c0 c1 c2 c3 c4 c5 hkin hks hbox hkk hctxa hk0
        go_wp2_with fail
        refine (K.out.1).mono ?_
        rintro e w2 ⟨rfl, hw2⟩
        obtain ⟨p0, p1, p2, p3, p4, p5⟩ := (K.out.2.2.2.2.1.others hw2.2.2.1 hXb).cells
        have hkid := K.out.2.2.2.2.2.1 _ w2 (K.out.2.2.2.2.2.2.step hw2) (by rw [List.length_append, List.length_append, List.length_singleton]; omega)
        rw [show ([3] : List Int).length = 1 from rfl] at hkid
        have K2 := Lib.hid (And.intro hw2 hkid)
        clear hw2 hkid
        go_wp2_with fail
        refine (K2.out.2).mono ?_
        rintro e w3 ⟨rfl, hw3⟩
        have K3 := Lib.hid hw3
        clear hw3
        go_wp2
        go_roundw
        case rel =>
          refine ⟨k + 1, by omega, by simp, ?_⟩
          have := (K.out.2.1.trans (K2.out.1.alloc0 (.cells #[.int .i64 3] 3))).trans K3.out
          rw [errF_app, ← K.out.2.2.2.1] at this
          rw [K.out.2.2.1]
          simpa using this
        case measure => simp [intOf]; omega
    · obtain rfl : k = kids.length := by omega
      rw [List.take_length] at hat
      have K := Lib.hid hat
      clear hat
      go_wp2
      go_end0
      exact ⟨rfl, K.out⟩
end Go.Proofs.YtbadhhfnbgaamaaDoor

namespace Go.Proofs.YtbadhhfnbgaamaaDoor
open Go.RowKit

theorem WOut.drew {B b : Nat} {l : List UInt8} {er : Int} {w w1 : World} (h : WOut B b l er w w1) : WOut B b l er w w1.drew := ⟨h.1.drew, h.2.1.drew, h.2.2.1.drew, h.2.2.2⟩
theorem FCtx.drew {B b : Nat} {l : List UInt8} {er : Int} {w0 w : World} (h : FCtx B b l er w0 w) : FCtx B b l er w0 w.drew := ⟨h.fm.drew, h.bel.drew, h.hB, h.pow⟩
theorem NBox.drew {w : World} {X : Nat} {v0 v1 v2 v3 v4 v5 : Value} (h : NBox w X v0 v1 v2 v3 v4 v5) : NBox w.drew X v0 v1 v2 v3 v4 v5 := h
theorem piece_nil (k : Nd) : piece [] k = fmtN k := by unfold piece parF; rw [if_neg (by simp [isLoose])]
theorem errN_mk (op : Int) (rs : List (Nat × Nat)) (nm : ByteArray) (kids : List Nd) (mn mx : Int) : errN (.mk op rs nm kids mn mx) = if op = 1 then badR rs else if op = 0 ∨ op = 6 ∨ op = 7 then false else errL kids := by rw [errN]
set_option maxRecDepth 100000 in
set_option maxHeartbeats 8000000 in
theorem node_rep (k : Nd) (mn mx : Int) (hbd : boundsB mn mx = true) (ih : NodeW k) : NodeW (.mk 4 [] noName [k] mn mx) := by
  intro B b lo l er v w0 w hin hx ho hlen
  have hf : fmtN (.mk 4 [] noName [k] mn mx) = piece [2, 3, 4] k ++ boundsF mn mx := by unfold fmtN; rw [if_neg (by decide), if_neg (by decide), if_neg (by decide), if_neg (by decide), if_pos rfl]; unfold fmtH; rfl
  have he : errN (.mk 4 [] noName [k] mn mx) = errN k := by rw [errN_mk, if_neg (by decide), if_neg (by decide), errL_cons, errL_nil, Bool.or_false]
  rw [hf] at hlen ⊢
  rw [he]
  rw [List.length_append] at hlen
  unfold okT at ho
  have hok : okT k := okL_mem [k] ho.2.2 k (List.mem_cons_self ..)
  unfold NodeIn at hin
  obtain ⟨rv, ka, kc, rfl, -, -, -, -, hkl, -, hks⟩ := hin
  rcases hks with hks | ⟨kg, ko, rfl, hkl2, hks⟩
  · simp at hks
  unfold ndVals
  obtain ⟨xo, xa, xn, xc, xm, ya, yn, yc, x4, x5, hkin, c0, c1, c2, c3, c4, c5⟩ := kid_cells hks (j := 0) (by simp)
  simp only [List.getElem_cons_zero, Nat.zero_mul, Nat.add_zero] at hkin c0 c1 c2 c3 c4 c5
  have hctx := hx.alloc (.cells #[.int .i64 4, rv, .string noName, .slice (some ⟨kg, ko, none⟩) [k].length kc, .int .i64 mn, .int .i64 mx] 27)
  have hw0 := (WOut.keep hx.fm).alloc0 (.cells #[.int .i64 4, rv, .string noName, .slice (some ⟨kg, ko, none⟩) [k].length kc, .int .i64 mn, .int .i64 mx] 27)
  have hbox := (NBox.new w (.int .i64 4) rv (.string noName) (.slice (some ⟨kg, ko, none⟩) [k].length kc) (.int .i64 mn) (.int .i64 mx)).alloc (.cells #[.int .i64 2, .int .i64 3, .int .i64 4] 3)
  have hXb : w.heap.size ≠ b := by have := hx.size; omega
  rw [show [k].length = 1 from rfl] at hctx hw0 hbox ⊢
  have d0 := hctx.cell c0
  have d1 := hctx.cell c1
  have d2 := hctx.cell c2
  have d3 := hctx.cell c3
  have d4 := hctx.cell c4
  have d5 := hctx.cell c5
  have hpl := piece_len [2, 3, 4] k
  have hkid := kid_fm k ih [2, 3, 4] ((w.alloc (.cells #[.int .i64 4, rv, .string noName, .slice (some ⟨kg, ko, none⟩) 1 kc, .int .i64 mn, .int .i64 mx] 27)).heap.size) 3 B b lo _ _ _ w0 _ hkin (hctx.alloc (.cells #[.int .i64 2, .int .i64 3, .int .i64 4] 3)) hok (by omega) (by decide) (ints3 _ 2 3 4)
  rw [Go.Deep.nblk_alloc, show ([2, 3, 4] : List Int).length = 3 from rfl] at hkid
  have hbf := fun (l' : List UInt8) (er' : Int) W (hW : FCtx B b l' er' w0 W) (hl : l'.length + 100 ≤ 1000000) => bounds_fm B b l' er' mn mx W hW.fm hW.pows hl hbd
  have H := Lib.hid (And.intro hkid (And.intro hbf (And.intro hctx (And.intro hw0 hbox))))
  clear hkid hbf hctx hw0 hbox c0 c1 c2 c3 c4 c5 hkin hks hok ho hx ih hf he hbd
  go_enter Tryd.func14, Tryd.ntmps14
  go_wp2_with fail
  refine (H.out.1).mono ?_
  rintro e w2 ⟨rfl, hw2⟩
  obtain ⟨p0, p1, p2, p3, p4, p5⟩ := (H.out.2.2.2.2.others hw2.2.2.1 hXb).cells
  have hb2 := H.out.2.1 _ _ w2 ((H.out.2.2.1.alloc (.cells #[.int .i64 2, .int .i64 3, .int .i64 4] 3)).step hw2) (by rw [List.length_append]; omega)
  have K := Lib.hid (And.intro hw2 hb2)
  clear hw2 hb2
  go_wp2_with fail
  refine (K.out.2).mono ?_
  rintro e w3 ⟨rfl, hw3⟩
  have K3 := Lib.hid hw3
  clear hw3
  go_wp2
  go_end0
  refine ⟨rfl, ?_⟩
  have := ((H.out.2.2.2.1.alloc0 (.cells #[.int .i64 2, .int .i64 3, .int .i64 4] 3)).trans K.out.1).trans K3.out
  simpa using this

set_option maxRecDepth 100000 in
set_option maxHeartbeats 8000000 in
theorem node_cap (k : Nd) (nm : ByteArray) (hnl : nm.size ≤ 32) (ih : NodeW k) : NodeW (.mk 5 [] nm [k] 0 0) := by
  intro B b lo l er v w0 w hin hx ho hlen
  have hf : fmtN (.mk 5 [] nm [k] 0 0) = (40 :: nm.data.toList ++ [58]) ++ fmtN k ++ [41] := by
    rw [← piece_nil k]
    unfold fmtN; rw [if_neg (by decide), if_neg (by decide), if_neg (by decide), if_neg (by decide), if_neg (by decide), if_pos rfl]; unfold fmtH; rfl
  have he : errN (.mk 5 [] nm [k] 0 0) = errN k := by rw [errN_mk, if_neg (by decide), if_neg (by decide), errL_cons, errL_nil, Bool.or_false]
  rw [hf] at hlen ⊢
  rw [he]
  simp only [List.length_append, List.length_cons, List.length_nil, sizeB] at hlen
  unfold okT at ho
  have hok : okT k := okL_mem [k] ho.2.2 k (List.mem_cons_self ..)
  unfold NodeIn at hin
  obtain ⟨rv, ka, kc, rfl, -, -, -, -, hkl, -, hks⟩ := hin
  rcases hks with hks | ⟨kg, ko, rfl, hkl2, hks⟩
  · simp at hks
  unfold ndVals
  obtain ⟨xo, xa, xn, xc, xm, ya, yn, yc, x4, x5, hkin, c0, c1, c2, c3, c4, c5⟩ := kid_cells hks (j := 0) (by simp)
  simp only [List.getElem_cons_zero, Nat.zero_mul, Nat.add_zero] at hkin c0 c1 c2 c3 c4 c5
  have hctx := hx.alloc (.cells #[.int .i64 5, rv, .string nm, .slice (some ⟨kg, ko, none⟩) [k].length kc, .int .i64 0, .int .i64 0] 27)
  have hw0 := (WOut.keep hx.fm).alloc0 (.cells #[.int .i64 5, rv, .string nm, .slice (some ⟨kg, ko, none⟩) [k].length kc, .int .i64 0, .int .i64 0] 27)
  have hbox := NBox.new w (.int .i64 5) rv (.string nm) (.slice (some ⟨kg, ko, none⟩) [k].length kc) (.int .i64 0) (.int .i64 0)
  have hXb : w.heap.size ≠ b := by have := hx.size; omega
  rw [show [k].length = 1 from rfl] at hctx hw0 hbox ⊢
  obtain ⟨q0, q1, q2, q3, q4, q5⟩ := hbox.cells
  have hcell := fun W (hW : FCtx B b (l ++ (40 :: nm.data.toList ++ [58])) er w0 W) => And.intro (hW.cell c0) (And.intro (hW.cell c1) (And.intro (hW.cell c2) (And.intro (hW.cell c3) (And.intro (hW.cell c4) (hW.cell c5)))))
  have hN := fun (l' : List UInt8) W (hW : FCtx B b l' er w0 W) (hl : l'.length + (fmtN k).length + 5000 ≤ 1000000) => ih B b lo l' er _ w0 W hkin hW hok hl
  have hstr : ((⟨#[40]⟩ ++ nm) ++ ⟨#[58]⟩ : ByteArray).data.toList = 40 :: nm.data.toList ++ [58] := by rw [cat_list, cat_list]; rfl
  have hWS := fun W (hW : Fm B b l er W) => wStr B b l er ((⟨#[40]⟩ ++ nm) ++ ⟨#[58]⟩) _ hstr W hW (by omega) (by simp only [List.length_append, List.length_cons, List.length_nil, sizeB]; omega)
  have H := Lib.hid (And.intro hcell (And.intro hN (And.intro hctx (And.intro hw0 (And.intro hbox hWS)))))
  clear hcell hN hctx hw0 hbox hWS c0 c1 c2 c3 c4 c5 hkin hks hok ho hx ih hf he hstr
  go_enter Tryd.func14, Tryd.ntmps14
  go_wp2
  go_region_with (go_at_call 22; refine (H.out.2.2.2.2.2 _ (Fm.drew H.out.2.2.2.1.1)).mono ?_; rintro e w2 ⟨⟨r, rfl⟩, hw2⟩)
  have hc2 := H.out.2.2.1.drew.step hw2
  obtain ⟨g0, g1, g2, g3, g4, g5⟩ := H.out.1 w2 hc2
  obtain ⟨p0, p1, p2, p3, p4, p5⟩ := (H.out.2.2.2.2.1.drew.others hw2.2.2.1 hXb).cells
  have hn2 := H.out.2.1 _ w2 hc2 (by simp only [List.length_append, List.length_cons, List.length_nil, sizeB]; omega)
  have hT := H.out.2.2.2.1.drew.trans hw2
  have K := Lib.hid (And.intro hT hn2)
  clear hT hn2 hc2 hw2
  go_wp2_with fail
  refine (K.out.2).mono ?_
  rintro e w3 ⟨rfl, hw3⟩
  have hb3 := wByte B b _ _ 41 41 rfl (by decide) w3 hw3.1 (by simp only [List.length_append, List.length_cons, List.length_nil, sizeB]; omega)
  have K3 := Lib.hid (And.intro hw3 hb3)
  clear hw3 hb3
  go_wp2_with fail
  refine (K3.out.2).mono ?_
  rintro e w4 ⟨rfl, hw4⟩
  have K4 := Lib.hid hw4
  clear hw4
  go_wp2
  go_end0
  refine ⟨rfl, ?_⟩
  have := (K.out.1.trans K3.out.1).trans K4.out
  simpa using this

set_option maxRecDepth 100000 in
set_option maxHeartbeats 8000000 in
theorem node_leaf (op : Int) (hop : op = 0 ∨ op = 6 ∨ op = 7) : NodeW (.mk op [] noName [] 0 0) := by
  intro B b lo l er v w0 w hin hx ho hlen
  have he : errN (.mk op [] noName [] 0 0) = false := by
    rw [errN_mk]
    rcases hop with rfl | rfl | rfl <;> rfl
  rw [he]
  show Calls _ _ _ _ fun e w' => e = .returned (.tuple #[]) ∧ WOut B b (l ++ fmtN (.mk op [] noName [] 0 0)) er w w'
  unfold NodeIn at hin
  obtain ⟨rv, ka, kc, rfl, -⟩ := hin
  unfold ndVals
  have hw0 := (WOut.keep hx.fm).alloc0 (.cells #[.int .i64 op, rv, .string noName, .slice ka ([] : List Nd).length kc, .int .i64 0, .int .i64 0] 27)
  rw [show ([] : List Nd).length = 0 from rfl] at hw0 ⊢
  clear ho hx he
  rcases hop with rfl | rfl | rfl
  · have hf : fmtN (.mk 0 [] noName [] 0 0) = [40, 41] := by unfold fmtN; rfl
    rw [hf] at hlen ⊢
    have hb1 := wStr B b l er ⟨#[40, 41]⟩ [40, 41] rfl _ hw0.1 (by omega) (by decide)
    have H := Lib.hid (And.intro hw0 hb1)
    clear hw0 hb1 hf
    go_enter Tryd.func14, Tryd.ntmps14
    go_wp2_with fail
    refine (H.out.2).mono ?_
    rintro e w2 ⟨⟨r, rfl⟩, hw2⟩
    have K := Lib.hid hw2
    clear hw2
    go_wp2
    go_end0
    exact ⟨rfl, H.out.1.trans K.out⟩
  · have hf : fmtN (.mk 6 [] noName [] 0 0) = [94] := by unfold fmtN; rfl
    rw [hf] at hlen ⊢
    have hb1 := wByte B b l er 94 94 rfl (by decide) _ hw0.1 (by omega)
    have H := Lib.hid (And.intro hw0 hb1)
    clear hw0 hb1 hf
    go_enter Tryd.func14, Tryd.ntmps14
    go_wp2_with fail
    refine (H.out.2).mono ?_
    rintro e w2 ⟨rfl, hw2⟩
    have K := Lib.hid hw2
    clear hw2
    go_wp2
    go_end0
    exact ⟨rfl, H.out.1.trans K.out⟩
  · have hf : fmtN (.mk 7 [] noName [] 0 0) = [36] := by unfold fmtN; rfl
    rw [hf] at hlen ⊢
    have hb1 := wByte B b l er 36 36 rfl (by decide) _ hw0.1 (by omega)
    have H := Lib.hid (And.intro hw0 hb1)
    clear hw0 hb1 hf
    go_enter Tryd.func14, Tryd.ntmps14
    go_wp2_with fail
    refine (H.out.2).mono ?_
    rintro e w2 ⟨rfl, hw2⟩
    have K := Lib.hid hw2
    clear hw2
    go_wp2
    go_end0
    exact ⟨rfl, H.out.1.trans K.out⟩

set_option maxRecDepth 100000 in
set_option maxHeartbeats 8000000 in
theorem node_class (rs : List (Nat × Nat)) (hs : sepN rs = true) : NodeW (.mk 1 rs noName [] 0 0) := by
  intro B b lo l er v w0 w hin hx ho hlen
  have he : errN (.mk 1 rs noName [] 0 0) = badR rs := by rw [errN_mk]; rfl
  have hf : fmtN (.mk 1 rs noName [] 0 0) = classF rs := by unfold fmtN; rfl
  rw [he]
  rw [hf] at hlen ⊢
  unfold NodeIn at hin
  obtain ⟨rv, ka, kc, rfl, -, -, -, -, -, hr, -⟩ := hin
  obtain ⟨ra, rc, rfl, -⟩ := id hr
  unfold ndVals
  have hctx := hx.alloc (.cells #[.int .i64 1, .slice ra rs.length rc, .string noName, .slice ka ([] : List Nd).length kc, .int .i64 0, .int .i64 0] 27)
  have hw0 := (WOut.keep hx.fm).alloc0 (.cells #[.int .i64 1, .slice ra rs.length rc, .string noName, .slice ka ([] : List Nd).length kc, .int .i64 0, .int .i64 0] 27)
  have hcl := class_fm B b lo l er rs (.slice ra rs.length rc) _ hctx.fm (hctx.ranges hr) (by omega) hs
  rw [show ([] : List Nd).length = 0 from rfl] at hw0 hcl ⊢
  obtain ⟨rn, hrn⟩ : ∃ x, rs.length = x := ⟨_, rfl⟩
  rw [hrn] at hw0 hcl ⊢
  have H := Lib.hid (And.intro hw0 hcl)
  clear hw0 hcl hf he hctx hx hr ho hrn hs
  go_enter Tryd.func14, Tryd.ntmps14
  go_wp2_with fail
  refine (H.out.2).mono ?_
  rintro e w2 ⟨rfl, hw2⟩
  have K := Lib.hid hw2
  clear hw2
  go_wp2
  go_end0
  exact ⟨rfl, H.out.1.trans K.out⟩

theorem node_any : ∀ t, okT t → NodeW t := Nd.induct fun op rs nm kids mn mx ih ho => by
  unfold okT at ho
  have hn := nodeOk_of ho.1
  have hk : ∀ k ∈ kids, NodeW k := fun k hkm => ih k hkm (okL_mem _ ho.2.2 k hkm)
  rcases hn.ops with rfl | rfl | rfl | rfl | rfl | rfl | rfl | rfl
  · obtain rfl := hn.rsE (by decide)
    obtain rfl := hn.nmX (by decide)
    obtain ⟨rfl, rfl⟩ := hn.bd (by decide)
    obtain rfl := hn.leaf (by decide)
    exact node_leaf 0 (by decide)
  · obtain rfl := hn.nmX (by decide)
    obtain ⟨rfl, rfl⟩ := hn.bd (by decide)
    obtain rfl := hn.leaf (by decide)
    exact node_class rs (hn.sep rfl)
  · obtain rfl := hn.rsE (by decide)
    obtain rfl := hn.nmX (by decide)
    obtain ⟨rfl, rfl⟩ := hn.bd (by decide)
    exact node_cat kids hk
  · obtain rfl := hn.rsE (by decide)
    obtain rfl := hn.nmX (by decide)
    obtain ⟨rfl, rfl⟩ := hn.bd (by decide)
    exact node_cho kids hk
  · obtain rfl := hn.rsE (by decide)
    obtain rfl := hn.nmX (by decide)
    obtain ⟨k, rfl⟩ := hn.one (by decide)
    exact node_rep k mn mx (hn.bds rfl) (hk k (List.mem_cons_self ..))
  · obtain rfl := hn.rsE (by decide)
    obtain ⟨rfl, rfl⟩ := hn.bd (by decide)
    obtain ⟨k, rfl⟩ := hn.one (by decide)
    have hnm := hn.name rfl
    refine node_cap k nm ?_ (hk k (List.mem_cons_self ..))
    have : nm.data.toList.length ≤ 32 := by
      cases hl : nm.data.toList with
      | nil => simp
      | cons c r => rw [hl] at hnm; simp only [nameN, Bool.and_eq_true, decide_eq_true_eq] at hnm; exact hnm.1.1
    rw [sizeB] at this
    exact this
  · obtain rfl := hn.rsE (by decide)
    obtain rfl := hn.nmX (by decide)
    obtain ⟨rfl, rfl⟩ := hn.bd (by decide)
    obtain rfl := hn.leaf (by decide)
    exact node_leaf 6 (by decide)
  · obtain rfl := hn.rsE (by decide)
    obtain rfl := hn.nmX (by decide)
    obtain ⟨rfl, rfl⟩ := hn.bd (by decide)
    obtain rfl := hn.leaf (by decide)
    exact node_leaf 7 (by decide)
end Go.Proofs.YtbadhhfnbgaamaaDoor

namespace Go.Proofs.YtbadhhfnbgaamaaDoor

theorem fmtH_le (lo : List Int) (l : List Nd) : (fmtH lo l).length ≤ (fmtL lo [] true l).length := by
  cases l with
  | nil => unfold fmtH; simp
  | cons k r =>
    rw [fmtL_cons]
    unfold fmtH
    show (piece lo k).length ≤ _
    simp
theorem boundsF_len {a b : Int} (h : boundsB a b = true) : (boundsF a b).length ≤ 10 := by
  obtain ⟨x, hx, rfl, hy⟩ := bounds_cases h
  have h1 := itoa_small x hx
  unfold boundsF
  rcases hy with rfl | ⟨y, hy, -, rfl⟩
  · simp only [List.length_append, List.length_cons]
    split <;> simp <;> omega
  · have h2 := itoa_small y hy
    simp only [List.length_append, List.length_cons]
    split <;> split <;> simp <;> omega
theorem brF_len (o : List UInt8) (rs : List (Nat × Nat)) (h : rs.length ≤ 257) (ho : o.length ≤ 2) : (brF o rs).length ≤ 1288 := by
  have := flatF_len rs
  unfold brF
  simp only [List.length_append, List.length_cons, List.length_nil]
  omega
theorem classF_len (rs : List (Nat × Nat)) (h : rs.length ≤ 257) : (classF rs).length ≤ 1288 := by
  unfold classF
  split
  · exact brF_len _ _ h (by decide)
  · split
    · simp
    · exact brF_len _ _ (by have := others_len rs; omega) (by decide)
theorem fmtN_len (op : Int) (rs : List (Nat × Nat)) (nm : ByteArray) (kids : List Nd) (mn mx : Int) (hn : NodeOk op rs nm kids mn mx) (hb : ∀ x ∈ rs, x.1 < 256 ∧ x.2 < 256) :
    ∃ lo sep, sep.length ≤ 1 ∧ (fmtN (.mk op rs nm kids mn mx)).length ≤ 1300 + (fmtL lo sep true kids).length := by
  rcases hn.ops with rfl | rfl | rfl | rfl | rfl | rfl | rfl | rfl
  · exact ⟨[], [], by decide, by unfold fmtN; simp; omega⟩
  · refine ⟨[], [], by decide, ?_⟩
    have hs := hn.sep rfl
    simp only [sepN, Bool.and_eq_true, decide_eq_true_eq] at hs
    have h1 := sep_len rs 0 hs.1 hb (by omega)
    have h2 := classF_len rs (by omega)
    unfold fmtN
    rw [if_neg (by decide), if_pos rfl]
    omega
  · exact ⟨[2, 3], [], by decide, by unfold fmtN; rw [if_neg (by decide), if_neg (by decide), if_pos rfl]; omega⟩
  · exact ⟨[3], [124], by decide, by unfold fmtN; rw [if_neg (by decide), if_neg (by decide), if_neg (by decide), if_pos rfl]; omega⟩
  · refine ⟨[2, 3, 4], [], by decide, ?_⟩
    have h1 := fmtH_le [2, 3, 4] kids
    have h2 := boundsF_len (hn.bds rfl)
    unfold fmtN
    rw [if_neg (by decide), if_neg (by decide), if_neg (by decide), if_neg (by decide), if_pos rfl, List.length_append]
    omega
  · refine ⟨[], [], by decide, ?_⟩
    have h1 := fmtH_le [] kids
    have hnm := hn.name rfl
    have h2 : nm.data.toList.length ≤ 32 := by
      cases hl : nm.data.toList with
      | nil => simp
      | cons c r => rw [hl] at hnm; simp only [nameN, Bool.and_eq_true, decide_eq_true_eq] at hnm; exact hnm.1.1
    unfold fmtN
    rw [if_neg (by decide), if_neg (by decide), if_neg (by decide), if_neg (by decide), if_neg (by decide), if_pos rfl]
    simp only [List.length_append, List.length_cons, List.length_nil]
    omega
  · exact ⟨[], [], by decide, by unfold fmtN; simp; omega⟩
  · exact ⟨[], [], by decide, by unfold fmtN; simp; omega⟩
mutual
theorem len_vis : ∀ (t : Nd) (d : Nat) (st : Nat × List ByteArray), okT t → (visN t d st).1 = 0 → (fmtN t).length + 3 + 1400 * st.1 ≤ 1400 * (visN t d st).2.1
  | .mk op rs nm kids mn mx, d, st, ho, h => by
    have ho' := ho
    unfold okT at ho'
    obtain ⟨lo, sep, hs, hl⟩ := fmtN_len op rs nm kids mn mx (nodeOk_of ho'.1) ho'.2.1
    unfold visN at h ⊢
    by_cases h1 : 400 < st.1 + 1
    · rw [if_pos h1] at h; simp at h
    rw [if_neg h1] at h ⊢
    by_cases h2 : 20 < d
    · rw [if_pos h2] at h; simp at h
    rw [if_neg h2] at h ⊢
    rw [if_neg (by rw [ho'.1]; simp)] at h ⊢
    have := len_all kids (d + 1) _ lo sep true hs ho'.2.2 h
    simp only at this
    omega
theorem len_all : ∀ (l : List Nd) (d : Nat) (st : Nat × List ByteArray) (lo : List Int) (sep : List UInt8) (b : Bool), sep.length ≤ 1 → okL l → (visAll l d st).1 = 0 → (fmtL lo sep b l).length + 1400 * st.1 ≤ 1400 * (visAll l d st).2.1
  | [], _, st, lo, sep, b, _, _, _ => by
    rw [fmtL_nil]
    unfold visAll
    simp only [List.length_nil]
    omega
  | k :: r, d, st, lo, sep, b, hs, ho, h => by
    unfold okL at ho
    unfold visAll at h ⊢
    by_cases h1 : (visN k d st).1 ≠ 0
    · rw [if_pos h1] at h; exact absurd h h1
    rw [if_neg h1] at h ⊢
    have a := len_vis k d st ho.1 (Classical.byContradiction h1)
    have c := len_all r d _ lo sep false hs ho.2 h
    have p := (piece_len lo k).2
    rw [fmtL_cons, List.length_append, List.length_append]
    have q : (if b = true then [] else sep).length ≤ 1 := by
      split
      · simp
      · exact hs
    omega
end
theorem fmt_short {t : Nd} (hb : bytT t) (h : chkN t = 0) : (fmtN t).length ≤ 560000 := by
  have hv := chk_vis h
  have h1 := len_vis t 0 (0, []) (okT_of_chk hb h) hv
  have h2 := vis_le t 0 (0, []) hv
  omega
end Go.Proofs.YtbadhhfnbgaamaaDoor
