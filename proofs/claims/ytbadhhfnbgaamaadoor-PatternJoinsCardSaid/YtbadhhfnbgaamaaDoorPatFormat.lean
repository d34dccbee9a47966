/- The contract of package pattern's Format, at every node; its condition: strconv's table of powers lies in memory. -/
import Derived.Test.YtbadhhfnbgaamaaDoorPatFmn
import Derived.Test.YtbadhhfnbgaamaaDoorPatParse
namespace Go.Proofs.YtbadhhfnbgaamaaDoor
open Go.RowKit

theorem below_drewN {n : Nat} {a w : World} (h : Below n a w) (k : Nat) : Below n a (w.drewN k) := ⟨h.os, h.tape, h.output, h.size, h.block⟩
theorem fm_new (w : World) : Fm w.heap.size w.heap.size [] 0 (w.alloc (.cells #[.pointer none, .slice none 0 0, .int .i64 0] 49)) :=
  ⟨.pointer none, .inl rfl, Nat.le_refl _, .slice none 0 0, heap_alloc_new _ _, World.ownsRow_nil _ _ _ _, by simp [Value.ownBlock]⟩
def FmtOut (r : List UInt8 × Int) (w : World) (e : Ending) (w' : World) : Prop := e = .returned (.tuple #[.string ⟨r.1.toArray⟩, .int .i64 r.2]) ∧ Below w.heap.size w w'

set_option maxRecDepth 100000 in
set_option maxHeartbeats 8000000 in
theorem format_bad (t : Nd) (v : Value) (w : World) (h : NodeIn 0 w t v) (hc : chkN t ≠ 0) :
    Calls Tryd.prog 8 #[v] w (FmtOut ([], chkN t) w) := by
  obtain ⟨ra, rc, ka, kc, rfl⟩ := id h.shape
  have hb0 := (Below.refl w.heap.size w).alloc (Nat.le_refl _) (.cells #[.int .i64 t.op, .slice ra t.rs.length rc, .string t.nm, .slice ka t.kids.length kc, .int .i64 t.mn, .int .i64 t.mx] 27)
  have hck := check_any t _ _ (h.keeps (keeps_below hb0))
  have e1 : (chkN t == 0) = false := by rw [beq_eq_false_iff_ne]; exact hc
  have e2 : (chkN t != 0) = true := by rw [bne_iff_ne]; exact hc
  obtain ⟨c, hcc⟩ : ∃ x, chkN t = x := ⟨_, rfl⟩
  rw [hcc] at hck e1 e2 ⊢
  have H := Lib.hid (And.intro hb0 hck)
  clear hb0 hck h hc hcc
  go_enter Tryd.func8, Tryd.ntmps8
  go_wp2_with fail
  refine (H.out.2).mono ?_
  rintro e w1 ⟨rfl, hb1⟩
  have K := Lib.hid hb1
  clear hb1
  go_wp2
  go_ret2
  exact ⟨rfl, H.out.1.trans (K.out.mono H.out.1.size)⟩

set_option maxRecDepth 100000 in
set_option maxHeartbeats 8000000 in
theorem format_good (t : Nd) (v : Value) (w : World) (h : NodeIn 0 w t v) (hp : Pow10 w) (hc : chkN t = 0) :
    Calls Tryd.prog 8 #[v] w (FmtOut (if errN t = true then ([], 1) else if 400 < (fmtN t).length then ([], 3) else (fmtN t, 0)) w) := by
  have hbyt := h.bytT
  have hok := okT_of_chk hbyt hc
  have hsh := fmt_short hbyt hc
  have htr := trip_any t hok
  obtain ⟨ra, rc, ka, kc, rfl⟩ := id h.shape
  have hb0 := (Below.refl w.heap.size w).alloc (Nat.le_refl _) (.cells #[.int .i64 t.op, .slice ra t.rs.length rc, .string t.nm, .slice ka t.kids.length kc, .int .i64 t.mn, .int .i64 t.mx] 27)
  have hin1 := NodeIn.keeps (keeps_below (lo := 0) hb0) _ _ h
  have hck := check_any t _ _ hin1
  have hbox := NBox.new w (.int .i64 t.op) (.slice ra t.rs.length rc) (.string t.nm) (.slice ka t.kids.length kc) (.int .i64 t.mn) (.int .i64 t.mx)
  rw [hc] at hck
  have hnd := fun B b w0 W (hin : NodeIn 0 w0 t _) (hx : FCtx B b [] 0 w0 W) => node_any t hok B b 0 [] 0 (.agg #[.int .i64 t.op, .slice ra t.rs.length rc, .string t.nm, .slice ka t.kids.length kc, .int .i64 t.mn, .int .i64 t.mx]) w0 W hin hx hok (by simp only [List.length_nil]; omega)
  obtain ⟨w1, hw1⟩ : ∃ x, w.alloc (.cells #[.int .i64 t.op, .slice ra t.rs.length rc, .string t.nm, .slice ka t.kids.length kc, .int .i64 t.mn, .int .i64 t.mx] 27) = x := ⟨_, rfl⟩
  rw [hw1] at hb0 hin1 hck hbox
  have hstep : ∀ w2, Below w1.heap.size w1 w2 → NodeIn 0 w2 t (.agg #[.int .i64 t.op, .slice ra t.rs.length rc, .string t.nm, .slice ka t.kids.length kc, .int .i64 t.mn, .int .i64 t.mx]) ∧ NBox w2 w.heap.size (.int .i64 t.op) (.slice ra t.rs.length rc) (.string t.nm) (.slice ka t.kids.length kc) (.int .i64 t.mn) (.int .i64 t.mx) ∧ Below w.heap.size w w2 := fun w2 hb2 =>
    ⟨hin1.keeps (keeps_below hb2), (hb2.block _ (Array.getElem?_eq_some_iff.1 hbox).1).trans hbox, hb0.trans (hb2.mono hb0.size)⟩
  have hnode : ∀ w2, Below w1.heap.size w1 w2 → _ := fun w2 hb2 => hnd w2.heap.size w2.heap.size w2 (w2.alloc (.cells #[.pointer none, .slice none 0 0, .int .i64 0] 49)) (hstep w2 hb2).1
    ⟨fm_new w2, (Below.refl _ _).alloc (Nat.le_refl _) _, Nat.le_refl _, powBelow hp (hstep w2 hb2).2.2⟩
  have hne : ∀ x, errN t = x → x = false → fmtN t ≠ [] := fun x hx hx' e => by
    rw [hx'] at hx
    have := (htr hx).head.facts.2.2.2.2
    rw [e] at this
    simp at this
  obtain ⟨op, hop⟩ : ∃ x, t.op = x := ⟨_, rfl⟩
  obtain ⟨nm, hnm⟩ : ∃ x, t.nm = x := ⟨_, rfl⟩
  obtain ⟨mn, hmn⟩ : ∃ x, t.mn = x := ⟨_, rfl⟩
  obtain ⟨mx, hmx⟩ : ∃ x, t.mx = x := ⟨_, rfl⟩
  obtain ⟨rl, hrl⟩ : ∃ x, t.rs.length = x := ⟨_, rfl⟩
  obtain ⟨kl, hkl⟩ : ∃ x, t.kids.length = x := ⟨_, rfl⟩
  rw [hop, hnm, hmn, hmx, hrl, hkl] at hck hstep hnode hw1 ⊢
  obtain ⟨ft, hft⟩ : ∃ x, fmtN t = x := ⟨_, rfl⟩
  obtain ⟨et, het⟩ : ∃ x, errN t = x := ⟨_, rfl⟩
  have hne2 := hne et het
  rw [hft] at hnode hsh hne2 ⊢
  rw [het] at hnode ⊢
  have H := Lib.hid (And.intro hck (And.intro hstep (And.intro hnode hb0)))
  have HE := Lib.hid hw1
  have HN := Lib.hid hne2
  clear hck hstep hnode hb0 hbox hin1 hnd htr hok hbyt h hp hc hop hnm hmn hmx hrl hkl hft het hw1 hne hne2
  obtain ⟨goal, hgoal⟩ : ∃ g, (if et = true then ([], 1) else if 400 < ft.length then ([], 3) else (ft, 0) : List UInt8 × Int) = g := ⟨_, rfl⟩
  rw [hgoal]
  have HG := Lib.hid hgoal
  clear hgoal
  go_enter Tryd.func8, Tryd.ntmps8
  go_wp2_with fail
  rw [HE.out]
  refine (H.out.1).mono ?_
  rintro e w2 ⟨rfl, hb2⟩
  obtain ⟨hin2, hbox2, hbel2⟩ := H.out.2.1 w2 hb2
  obtain ⟨p0, p1, p2, p3, p4, p5⟩ := (hbox2.alloc (.cells #[.pointer none, .slice none 0 0, .int .i64 0] 49)).cells
  have hnn := H.out.2.2.1 w2 hb2
  have K := Lib.hid (And.intro hbel2 (And.intro hnn hbox2))
  clear hbel2 hnn hbox2 hin2 hb2
  go_wp2_with fail
  refine (K.out.2.1).mono ?_
  rintro e w3 ⟨rfl, hw3⟩
  have hb3 : Below w.heap.size w w3 := (K.out.1.alloc K.out.1.size _).trans (hw3.2.1.mono K.out.1.size)
  have hlo : w.heap.size ≤ w2.heap.size := K.out.1.size
  obtain ⟨q2, q2f⟩ := hw3.1.erCell
  have hfm3 := hw3.1
  have HF := Lib.hid (And.intro hw3.1 hb3)
  cases et with
  | true =>
    have KG := Lib.hid (show ([], 1) = goal from HG.out)
    clear hw3 hb3 hfm3
    go_wp2
    go_quiet (fail)
    go_wp2
    go_ret2
    rw [← KG.out]
    exact ⟨rfl, below_drewN HF.out.2 _⟩
  | false =>
    have hlen3 := len_fm _ _ _ _ w3 hfm3
    have her3 := hfm3.err 3
    have hstr := fun hx => string_fm _ _ _ _ w3 hfm3 hx
    by_cases hbig : 400 < ft.length
    · have KG := Lib.hid (show ([], 3) = goal by rw [← HG.out, if_neg (by decide), if_pos hbig])
      have hc3 := her3.erCell
      obtain ⟨c3, c3f⟩ := hc3
      have KL := Lib.hid (And.intro hlen3 her3)
      have d1 : decide ((400 : Int) < (ft.length : Int)) = true := by simp; omega
      have d2 : decide (400 < ft.length) = true := by simp; omega
      clear hw3 hb3 hfm3 hlen3 her3 hstr hbig
      rw [List.nil_append] at KL
      go_wp2_with fail
      refine (KL.out.1).mono ?_
      rintro e w4 ⟨rfl, rfl⟩
      go_wp2
      go_quiet (fail)
      go_wp2
      go_ret2
      rw [← KG.out]
      exact ⟨rfl, below_drewN (HF.out.2.setCell (p := ⟨w2.heap.size, 2, none⟩) hlo _) _⟩
    · have KG := Lib.hid (show (ft, 0) = goal by rw [← HG.out, if_neg (by decide), if_neg hbig])
      have KL := Lib.hid (And.intro hlen3 (hstr (by rw [List.nil_append]; exact HN.out rfl)))
      have d1 : decide ((400 : Int) < (ft.length : Int)) = false := by simp; omega
      have d2 : decide (400 < ft.length) = false := by simp; omega
      clear hw3 hb3 hfm3 hlen3 her3 hstr hbig
      rw [List.nil_append] at KL
      go_wp2_with fail
      refine (KL.out.1).mono ?_
      rintro e w4 ⟨rfl, rfl⟩
      go_wp2_with fail
      refine (KL.out.2).mono ?_
      rintro e w5 ⟨rfl, hb5⟩
      go_wp2
      go_ret2
      rw [← KG.out]
      exact ⟨rfl, HF.out.2.trans (hb5.mono hlo)⟩

theorem format_any (t : Nd) (v : Value) (w : World) (h : NodeIn 0 w t v) (hp : Pow10 w) :
    Calls Tryd.prog 8 #[v] w (FmtOut (formatN t) w) := by
  unfold formatN
  by_cases hc : chkN t ≠ 0
  · rw [if_pos hc]; exact format_bad t v w h hc
  · rw [if_neg hc]; exact format_good t v w h hp (Classical.byContradiction hc)
end Go.Proofs.YtbadhhfnbgaamaaDoor
