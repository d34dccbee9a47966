/- Package multiline: flush. Package multiline: isContinuedBy. -/
import Derived.Test.YtfkgicakiapmaaaMlD
namespace Go.Proofs.Ytfkgicakiapmaaa
open Go Go.RowKit

/-- What flush has yielded at its end. -/
def FlS (d : Nat) (v : Value) (s : Int) (opn : List LnV) (xs : List BkV) (W : World) : Prop :=
  (opn = [] ∧ xs = [] ∧ AsAt d v s W) ∨ (opn ≠ [] ∧ xs = [⟨v, mkB ⟨#[]⟩ opn⟩] ∧ AsAt d (.slice none 0 0) s W ∧ LnsAt v opn W)
theorem oneSl (a : Option Addr) (n c : Nat) : (Value.slice a n c).oneCell' = true := rfl

set_option maxRecDepth 100000 in
set_option maxHeartbeats 2000000 in
theorem flush_seq (d : Nat) (v : Value) (s : Int) (opn : List LnV) (w : World) (hd : AsAt d v s w) (hv : LnsAt v opn w) (hok : OkS opn) (n0 : Nat) :
    SeqM 1 n0 20 #[.pointer (some ⟨d, 0, none⟩)] #[] (fun k => k = d) (FlS d v s opn) w := by
  intro l J W hW hn hJ hY h0
  have hdW := hd.below hW
  have hvW := hv.below hW
  refine callsIn_of_wp Try.func20 rfl trivial ?_ rfl
  simp only [Try.ntmps20, List.size_toArray, List.length_cons, List.length_nil, Nat.reduceAdd, Nat.reduceSub, Array.replicate_succ, Array.replicate_zero, List.push_toArray, List.append_toArray, List.nil_append, List.cons_append, List.append_nil]
  have c0 : W.cell? ⟨d, 0, none⟩ = some v := hdW.cell 0
  by_cases ho : opn = []
  · subst ho
    obtain ⟨a, c, rfl⟩ := lns_nil hvW
    have H := Lib.hid (And.intro hdW h0)
    clear hd hv hW hn hJ hY h0 hdW hvW
    gi_wp2
    refine bodyPost_ret (results_none rfl _ _ _) rfl ?_
    exact ⟨⟨_, rfl⟩, [], .inl ⟨rfl, rfl, H.out.1⟩, H.out.2⟩
  · obtain ⟨g, cap, rfl, hc, -⟩ := lns_form hvW ho
    have hB := fun W (h : LnsAt (.slice (some ⟨g, 0, none⟩) opn.length cap) opn W) => block_any ⟨#[]⟩ _ opn ho hok W h
    obtain ⟨n, hnl⟩ : ∃ n, opn.length = n := ⟨_, rfl⟩
    have hn1 : 0 < n := by have := List.length_pos_iff.2 ho; omega
    have z1 : ((n : Int) == 0) = false := by rw [beq_eq_false_iff_ne]; omega
    have z2 : decide ((n : Int) = 0) = false := decide_eq_false (by omega)
    rw [hnl] at hB hd hv hdW hvW c0 hc ⊢
    obtain ⟨fr, hfr⟩ : ∃ x, (mkB ⟨#[]⟩ opn).fr = x := ⟨_, rfl⟩
    obtain ⟨en, hen⟩ : ∃ x, (mkB ⟨#[]⟩ opn).en = x := ⟨_, rfl⟩
    rw [hfr, hen] at hB
    have H := Lib.hid (And.intro hB (And.intro hdW (And.intro hvW (And.intro hJ (And.intro hY (And.intro h0 (And.intro hn (And.intro hfr (And.intro hen ho)))))))))
    clear hB hdW hvW hJ hY h0 hd hv hW hok hfr hen hnl ho
    gi_wp2_with (refine ⟨trivial, ?_⟩; gi_at_call 31; refine (callsIn_wide.2 (H.out.1 _ H.out.2.2.1)).mono ?_)
    rintro e w1 ⟨rfl, hb1⟩
    have hd1 := H.out.2.1.below hb1
    have hv1 := H.out.2.2.1.below hb1
    have hJ1 := H.out.2.2.2.1 [] W w1 H.out.2.2.2.2.2.1 (ItP.ofBelow _ _ H.out.2.2.2.2.2.2.1 hb1)
    have d0 : w1.cell? ⟨d, 0, none⟩ = some (.slice (some ⟨g, 0, none⟩) n cap) := hd1.cell 0
    have f0 : w1.frozen? ⟨d, 0, none⟩ = false := hd1.free 0
    have hlt : d < w1.heap.size := hd1.lt
    have hsz : n0 ≤ w1.heap.size := Nat.le_trans H.out.2.2.2.2.2.2.1 hb1.size
    have hd2 := hd1.set 0 (.slice none 0 0)
    have hv2 : LnsAt (.slice (some ⟨g, 0, none⟩) n cap) opn (w1.setCell ⟨d, 0, none⟩ (.slice none 0 0)) := row_ch hv1 ((ChP.refl (fun k => k = d) w1).set d 0 _ rfl) (fun q hq e => row_ne hv1 hd1 (by decide) hq e)
    have hJ2 := H.out.2.2.2.1 [] w1 _ hJ1 (ItP.setA (PI := fun k => k = d) (n := n0) hd1 (by decide) (.inl rfl) (j := 0) (v := .slice none 0 0))
    have hb3 := below_new (w1.setCell ⟨d, 0, none⟩ (.slice none 0 0)) (.cells #[.int .i64 fr, .int .i64 en, .slice (some ⟨g, 0, none⟩) n cap, .string ⟨#[]⟩] 44)
    have hd3 := hd2.below hb3
    have hv3 := hv2.below hb3
    have hJ3 := H.out.2.2.2.1 [] _ _ hJ2 (ItP.ofBelow _ _ (by simp; exact hsz) hb3)
    obtain ⟨fn, tm, u1, bo, hy, hRd⟩ := H.out.2.2.2.2.1 [] ⟨.slice (some ⟨g, 0, none⟩) n cap, mkB ⟨#[]⟩ opn⟩ _ hJ3 hv3 (by simp) 8
    have hle : bkE ⟨.slice (some ⟨g, 0, none⟩) n cap, mkB ⟨#[]⟩ opn⟩ = #[.agg #[.int .i64 fr, .int .i64 en, .slice (some ⟨g, 0, none⟩) n cap, .string ⟨#[]⟩]] := by
      unfold bkE
      rw [H.out.2.2.2.2.2.2.2.1, H.out.2.2.2.2.2.2.2.2.1]
      rfl
    rw [hle] at hy
    have HR := Lib.hid (And.intro hRd (And.intro hd3 hv3))
    clear hRd hd3 hv3 hJ1 hJ2 hJ3 hd1 hd2 hv1 hv2 hb1 hb3 hle hsz
    gi_wp2
    refine HR.out.1.mono ?_
    rintro e W4 ⟨rfl, hJ4, hk4⟩
    have HJ := Lib.hid (And.intro hJ4 hk4)
    clear hJ4 hk4
    gi_wp2
    go_end0
    exact ⟨⟨_, rfl⟩, _, .inr ⟨H.out.2.2.2.2.2.2.2.2.2, rfl, HJ.out.2.bk HR.out.2.1 (by decide) (by decide), HJ.out.2.lns HR.out.2.2⟩, HJ.out.1⟩
end Go.Proofs.Ytfkgicakiapmaaa

namespace Go.Proofs.Ytfkgicakiapmaaa
open Go Go.RowKit

/-- A start without kids. -/
def ndA (op : Int) (ra : Option Addr) (rn rc : Nat) : Array Value := #[.int .i64 op, .slice ra rn rc, .string ⟨#[]⟩, .slice none 0 0, .int .i64 0, .int .i64 0]
/-- Its ranges in memory. -/
def NdAt (rs : List (Nat × Nat)) (ra : Option Addr) (rc : Nat) (w : World) : Prop := w.ownsRow 0 59 2 (.slice ra rs.length rc) rs.length ((rs.map fun r => [Value.int .u8 (r.1 : Int), Value.int .u8 (r.2 : Int)]).flatten)
theorem NdAt.below {rs : List (Nat × Nat)} {ra : Option Addr} {rc : Nat} {w w' : World} (h : NdAt rs ra rc w) (k : Below w.heap.size w w') : NdAt rs ra rc w' := row_below h k
theorem KpB.nd {n : Nat} {rs : List (Nat × Nat)} {ra : Option Addr} {rc : Nat} {A B : World} (h : KpB n A B) (k : NdAt rs ra rc A) : NdAt rs ra rc B := h.row k (by decide) (by decide)
/-- What Match answers at the start, from 0. -/
def MtC (op : Int) (rs : List (Nat × Nat)) (ra : Option Addr) (rc : Nat) (m : ByteArray → Bool) : Prop :=
  ∀ (txt : ByteArray) (W : World), txt.size ≤ 20000 → NdAt rs ra rc W → Calls Try.prog 41 #[.agg (ndA op ra rs.length rc), .string txt, .int .i64 0] W fun e w' =>
    (∃ x y a n c, e = .returned (.tuple #[.agg #[.int .i64 x, .int .i64 y, .slice a n c], .bool (m txt)])) ∧ Below W.heap.size W w'
/-- Whether a line is taken to the open ones. -/
def contS (m : ByteArray → Bool) (opn : List LnV) (x : LnV) : Bool := decide (opn ≠ [] ∧ opn.length < 40 ∧ x.off = lastEnd opn) && !m x.txt

theorem bl_dn {B : Nat} {a b : World} (h : Below B a b) (n : Nat) : Below B a (b.drewN n) := ⟨h.os, h.tape, h.output, h.size, h.block⟩
set_option maxRecDepth 100000 in
set_option maxHeartbeats 2000000 in
theorem cont_any (d : Nat) (v : Value) (s : Int) (opn : List LnV) (x : LnV) (op : Int) (rs : List (Nat × Nat)) (ra : Option Addr) (rc : Nat) (m : ByteArray → Bool) (hM : MtC op rs ra rc m) (w : World) (hd : AsAt d v s w) (hv : LnsAt v opn w) (hok : OkS opn) (hx : OkL x) (hxt : x.txt.size ≤ 20000) (hnd : NdAt rs ra rc w) :
    Calls Try.prog 32 #[.pointer (some ⟨d, 0, none⟩), .agg #[.int .i64 x.off, .int .i64 x.len, .string x.txt], .agg (ndA op ra rs.length rc)] w fun e w' => e = .returned (.bool (contS m opn x)) ∧ Below w.heap.size w w' := by
  obtain ⟨off, len, txt⟩ := x
  simp only at hxt ⊢
  unfold ndA
  have hMt := fun W => hM txt W hxt
  unfold ndA at hMt
  by_cases ho : opn = []
  · subst ho
    have hc : contS m [] ⟨off, len, txt⟩ = false := by simp [contS]
    rw [hc]
    obtain ⟨a, c, rfl⟩ := lns_nil hv
    have c0 : w.cell? ⟨d, 0, none⟩ = some (.slice a 0 c) := hd.cell 0
    have hl := hd.lt
    clear hM hMt hd hv hok hx hxt hnd hc
    go_enter Try.func32, Try.ntmps32
    go_wp2_with fail
    go_quiet (fail)
    go_wp2
    go_ret
    exact ⟨rfl, (((Below.refl _ w).alloc (Nat.le_refl _) _).alloc (by simp) _) |> (bl_dn · _)⟩
  · obtain ⟨g, cap, rfl, hcap, hcx⟩ := lns_form hv ho
    obtain ⟨n, hn⟩ : ∃ n, opn.length = n := ⟨_, rfl⟩
    have hn0 : 0 < n := by have := List.length_pos_iff.2 ho; omega
    have hn64 : n ≤ 40 := by have := hok.1; omega
    have z1 : ((n : Int) == 0) = false := by rw [beq_eq_false_iff_ne]; omega
    have z2 : decide ((n : Int) = 0) = false := decide_eq_false (by omega)
    have c0 : w.cell? ⟨d, 0, none⟩ = some (.slice (some ⟨g, 0, none⟩) n cap) := by rw [← hn]; exact hd.cell 0
    by_cases h64 : n = 40
    · subst h64
      have hc : contS m opn ⟨off, len, txt⟩ = false := by unfold contS; rw [decide_eq_false (by rintro ⟨-, h, -⟩; omega)]; rfl
      rw [hc]
      have hl := hd.lt
      clear hM hMt hd hv hok hx hxt hnd hc hcx hcap hn
      go_enter Try.func32, Try.ntmps32
      go_wp2_with fail
      go_quiet (fail)
      go_wp2
      go_ret
      exact ⟨rfl, (((Below.refl _ w).alloc (Nat.le_refl _) _).alloc (by simp) _) |> (bl_dn · _)⟩
    · have z3 : decide ((40 : Int) ≤ (n : Int)) = false := decide_eq_false (by omega)
      have z4 : decide (n = 0) = false := decide_eq_false (by omega)
      have z5 : (n == 0) = false := by rw [beq_eq_false_iff_ne]; omega
      have z6 : decide (40 ≤ n) = false := decide_eq_false (by omega)
      obtain ⟨p, hp⟩ : ∃ p, n - 1 = p := ⟨_, rfl⟩
      obtain ⟨⟨zo, zl, zt⟩, hz⟩ : ∃ z, opn[n - 1]'(by omega) = z := ⟨_, rfl⟩
      have h1 := hcx (n - 1) (by omega)
      have hzm : OkL ⟨zo, zl, zt⟩ := hok.2 _ (hz ▸ List.getElem_mem _)
      rw [hz, hp] at h1
      simp only at h1
      have hle : lastEnd opn = zo + zl := by
        unfold lastEnd
        rw [List.getLast?_eq_getElem?, hn, List.getElem?_eq_getElem (by omega), hz]
        rfl
      obtain ⟨k, hk⟩ : ∃ k, p * 3 = k := ⟨_, rfl⟩
      rw [hk] at h1
      have hi2 : (p : Int) < (n : Int) := by omega
      have hi3 : p < n := by omega
      have hi5 : (0 : Int) ≤ (p : Int) := by omega
      have hw1 : IntKind.i64.wrap ((n : Int) - 1) = (p : Int) := by rw [show (n : Int) - 1 = (p : Int) by omega]; exact IntWalk.i64_in _ (by omega)
      have hct : contS m opn ⟨off, len, txt⟩ = (decide (off = zo + zl) && !m txt) := by
        unfold contS
        rw [hle, hn]
        have : (opn ≠ [] ∧ n < 40 ∧ off = zo + zl) ↔ off = zo + zl := ⟨fun h => h.2.2, fun h => ⟨ho, by omega, h⟩⟩
        rw [decide_eq_decide.2 this]
      rw [hct]
      have hgl : g < w.heap.size := block_lt_of_cell h1.1
      have hdl := hd.lt
      have hE := end_any zo zl zt hzm
      obtain ⟨O1, hO1⟩ : ∃ o, Obj.cells #[.int .i64 off, .int .i64 len, .string txt] 46 = o := ⟨_, rfl⟩
      obtain ⟨O2, hO2⟩ : ∃ o, Obj.cells #[.int .i64 op, .slice ra rs.length rc, .string ⟨#[]⟩, .slice none 0 0, .int .i64 0, .int .i64 0] 27 = o := ⟨_, rfl⟩
      have hb0 : Below w.heap.size w ((w.alloc O1).alloc O2) := ((Below.refl _ w).alloc (Nat.le_refl _) _).alloc (by simp) _
      have hk1 : BkAt w.heap.size 46 #[.int .i64 off, .int .i64 len, .string txt] ((w.alloc O1).alloc O2) := by rw [← hO1]; exact (BkAt.new _ _ _).below (below_new _ _)
      have hk2 : BkAt (w.heap.size + 1) 27 #[.int .i64 op, .slice ra rs.length rc, .string ⟨#[]⟩, .slice none 0 0, .int .i64 0, .int .i64 0] ((w.alloc O1).alloc O2) := by
        have q := BkAt.new 27 #[.int .i64 op, .slice ra rs.length rc, .string ⟨#[]⟩, .slice none 0 0, .int .i64 0, .int .i64 0] (w.alloc O1)
        rw [hO2, World.size_alloc] at q
        exact q
      have HM := Lib.hid hMt
      have HE := Lib.hid hE
      have HN := Lib.hid (And.intro hnd hb0)
      have HS := Lib.hid (show ∀ W, Below ((w.alloc O1).alloc O2).heap.size ((w.alloc O1).alloc O2) W → (W.cell? ⟨w.heap.size, 0, none⟩ = some (.int .i64 off) ∧ W.cell? ⟨w.heap.size, 2, none⟩ = some (.string txt)) ∧ W.cell? ⟨d, 0, none⟩ = some (.slice (some ⟨g, 0, none⟩) n cap) ∧ (W.cell? ⟨g, k, none⟩ = some (.int .i64 zo) ∧ W.cell? ⟨g, k + 1, none⟩ = some (.int .i64 zl) ∧ W.cell? ⟨g, k + 2, none⟩ = some (.string zt)) ∧
          (W.cell? ⟨w.heap.size + 1, 0, none⟩ = some (.int .i64 op) ∧ W.cell? ⟨w.heap.size + 1, 1, none⟩ = some (.slice ra rs.length rc) ∧ W.cell? ⟨w.heap.size + 1, 2, none⟩ = some (.string ⟨#[]⟩) ∧ W.cell? ⟨w.heap.size + 1, 3, none⟩ = some (.slice none 0 0) ∧ W.cell? ⟨w.heap.size + 1, 4, none⟩ = some (.int .i64 0) ∧ W.cell? ⟨w.heap.size + 1, 5, none⟩ = some (.int .i64 0)) from fun W hW => by
        have hB := bl_trans' hb0 hW
        have hk1 := hk1.below hW
        have hk2 := hk2.below hW
        exact ⟨⟨hk1.cell 0, hk1.cell 2⟩, (hB.cell (p := ⟨d, 0, none⟩) hdl).trans c0, ⟨(hB.cell (p := ⟨g, k, none⟩) hgl).trans h1.1, (hB.cell (p := ⟨g, k + 1, none⟩) hgl).trans h1.2.1, (hB.cell (p := ⟨g, k + 2, none⟩) hgl).trans h1.2.2⟩, hk2.cell 0, hk2.cell 1, hk2.cell 2, hk2.cell 3, hk2.cell 4, hk2.cell 5⟩)
      clear hM hMt hE hd hv hok hx hxt hnd hcx hcap hn hk1 hk2 h1 hz hle hct hb0 hzm hp ho
      go_enter Try.func32, Try.ntmps32
      go_wp2_with fail
      clear hO1 hO2
      go_region_held3 (fun W => (W.cell? ⟨w.heap.size, 0, none⟩ = some (.int .i64 off) ∧ W.cell? ⟨w.heap.size, 2, none⟩ = some (.string txt)) ∧ W.cell? ⟨d, 0, none⟩ = some (.slice (some ⟨g, 0, none⟩) n cap) ∧ (W.cell? ⟨g, k, none⟩ = some (.int .i64 zo) ∧ W.cell? ⟨g, k + 1, none⟩ = some (.int .i64 zl) ∧ W.cell? ⟨g, k + 2, none⟩ = some (.string zt)) ∧
          (W.cell? ⟨w.heap.size + 1, 0, none⟩ = some (.int .i64 op) ∧ W.cell? ⟨w.heap.size + 1, 1, none⟩ = some (.slice ra rs.length rc) ∧ W.cell? ⟨w.heap.size + 1, 2, none⟩ = some (.string ⟨#[]⟩) ∧ W.cell? ⟨w.heap.size + 1, 3, none⟩ = some (.slice none 0 0) ∧ W.cell? ⟨w.heap.size + 1, 4, none⟩ = some (.int .i64 0) ∧ W.cell? ⟨w.heap.size + 1, 5, none⟩ = some (.int .i64 0)))
        (first | (with_reducible exact HS.out _ (Below.refl _ _).drew) | (with_reducible exact HS.out _ (Below.refl _ _)) | (with_reducible exact HS.out _ (by assumption)))
        ((go_at_call 40; refine (HE.out _).mono ?_; rintro e w' ⟨rfl, hb2⟩; have hb3 := bl_trans' (Below.refl _ _).drew hb2))
      obtain ⟨⟨r0, r1⟩, -, -, r2, r3, r4, r5, r6, r7⟩ := HS.out _ hb3
      have hbw := bl_trans' HN.out.2 hb3
      have hnw := HN.out.1.below hbw
      have HB := Lib.hid (And.intro hbw hnw)
      clear hbw hnw hb2 hb3
      by_cases hoe : off = zo + zl
      · have y1 : (off != zo + zl) = false := by rw [bne_eq_false_iff_eq]; exact hoe
        have y2 : decide (off = zo + zl) = true := decide_eq_true hoe
        rw [y1]
        go_wp2_with fail
        refine (HM.out _ HB.out.2).mono ?_
        rintro e w5 ⟨⟨ax, ay, aa, an, ac, rfl⟩, hb5⟩
        have H5 := Lib.hid (bl_trans' HB.out.1 hb5)
        clear hb5
        go_wp2
        go_ret
        exact ⟨by rw [y2]; rfl, bl_trans' H5.out (below_new _ _)⟩
      · have y1 : (off != zo + zl) = true := by rw [bne_iff_ne]; exact hoe
        have y2 : decide (off = zo + zl) = false := decide_eq_false hoe
        rw [y1]
        go_wp2_with fail
        go_ret
        exact ⟨by rw [y2]; rfl, HB.out.1⟩
end Go.Proofs.Ytfkgicakiapmaaa
