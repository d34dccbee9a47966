/- The statement PatternReturns: the law returns true. -/
import Derived.Test.YtbadhhfnbgaamaaDoorMakeN
import Derived.Test.YtbadhhfnbgaamaaDoorPatAwake
namespace Go.Proofs.YtbadhhfnbgaamaaDoor
open Go.RowKit

theorem ArgB.below {w w' : World} {sv : Value} {l : List UInt8} (h : ArgB w w.heap.size sv l) (hb : Below w.heap.size w w') : ArgB w' w'.heap.size sv l := by
  rcases h with ⟨rfl, rfl⟩ | ⟨ad, cap, rfl, hl, hc, hbx⟩
  · exact .inl ⟨rfl, rfl⟩
  · refine .inr ⟨ad, cap, rfl, hl, fun j u hj => ?_, fun h0 => ?_⟩
    · have hjl : j < (Lib.byteCells l).length := (List.getElem?_eq_some_iff.1 hj).1
      rw [Lib.byteCells_length] at hjl
      obtain ⟨bk, off, rfl, hbk⟩ := hbx (by omega)
      have := hc j u hj
      rw [← this]
      have e : (Addr.add ⟨bk, off, none⟩ j).block = bk := by unfold Addr.add; split <;> rfl
      exact World.cell?_of_block (w := w) (a := Addr.add ⟨bk, off, none⟩ j) (by rw [e]; exact hb.block bk hbk)
    · obtain ⟨bk, off, rfl, hbk⟩ := hbx h0
      exact ⟨bk, off, rfl, Nat.lt_of_lt_of_le hbk hb.size⟩
theorem parse_ok {s : ByteArray} (h : (parseN s (bracketS s)).2.2 = 0) : chkN (parseN s (bracketS s)).1 = 0 := by
  unfold parseN at h ⊢
  by_cases h1 : 400 < s.size
  · rw [if_pos h1] at h; simp at h
  rw [if_neg h1] at h ⊢
  obtain ⟨⟨t, p⟩, hr⟩ : ∃ r, choiceF s (bracketS s) (s.size + 1) ⟨0, 0⟩ = r := ⟨_, rfl⟩
  rw [hr] at h ⊢
  simp only at h ⊢
  by_cases h2 : p.pos < s.size
  · rw [if_pos h2] at h
    simp only [failS] at h
    split at h
    · simp at h
    · rename_i h3; exact absurd h h3
  rw [if_neg h2] at h ⊢
  by_cases h3 : p.er ≠ 0
  · rw [if_pos h3] at h; exact absurd h h3
  rw [if_neg h3] at h ⊢
  by_cases h4 : chkN t ≠ 0
  · rw [if_pos h4] at h; exact absurd h h4
  rw [if_neg h4]
  exact Classical.byContradiction h4
theorem format_cases (t : Nd) (h : chkN t = 0) : (formatN t).2 = 1 ∨ (formatN t).2 = 3 ∨ (formatN t).2 = 0 := by
  unfold formatN
  rw [if_neg (by rw [h]; simp)]
  split
  · exact .inl rfl
  · split
    · exact .inr (.inl rfl)
    · exact .inr (.inr rfl)
/-- Parse of a source that Format wrote. -/
theorem parse_back (t : Nd) (w w' : World) (v : Value) (lo : Nat) (hv : NodeIn lo w' t v) (h0 : (formatN t).2 = 0) :
    Calls Tryd.prog 9 #[.string ⟨(formatN t).1.toArray⟩] w (ParseOut w.heap.size w (t, (formatN t).1.length, 0)) := by
  have h := parse_all ⟨(formatN t).1.toArray⟩ w
  have e := parse_format t ⟨(formatN t).1.toArray⟩ hv.bytT (Prod.ext rfl h0)
  rw [e] at h
  exact h
theorem len_mk (l : List UInt8) : (ByteArray.mk l.toArray).size = l.length := by rw [← sizeB]

/-- The second half of PatternReturns, as it goes on behind the first. -/
def Mid (w0 w : World) : Prop := Below w0.heap.size w0 w ∧ Pow10 w
theorem Mid.step {w0 w w' : World} (h : Mid w0 w) (hb : Below w.heap.size w w') : Mid w0 w' := ⟨h.1.trans (hb.mono h.1.size), powBelow h.2 hb⟩
theorem Mid.alloc {w0 w : World} (h : Mid w0 w) (o : Obj) : Mid w0 (w.alloc o) := h.step ((Below.refl _ _).alloc (Nat.le_refl _) o)

set_option linter.unusedSimpArgs false in
set_option maxRecDepth 100000 in
set_option maxHeartbeats 8000000 in
theorem lawReturns2 (sv : Value) (l : List UInt8) (s : ByteArray) (w : World) (hA : ArgB w w.heap.size sv l) (hP : Pow10 w) :
    Calls Tryd.prog 3 #[sv, .string s] w fun e w' => e = .returned (.bool true) ∧ Below w.heap.size w w' := by
  have haw := Lib.hid (awake_any w)
  have HA := Lib.hid hA
  have HP := Lib.hid (show Mid w w from ⟨Below.refl _ _, hP⟩)
  have HPA := Lib.hid (fun W => parse_all s W)
  have HOK := Lib.hid (fun h => parse_ok (s := s) h)
  clear hA hP
  go_enter Tryd.func3, Tryd.ntmps3
  go_wp2_with fail
  refine (haw.out).mono ?_
  rintro e w1 ⟨rfl, hb1⟩
  have hnew := new_any sv l 200 w1 (HA.out.below hb1) (by omega)
  have K1 := Lib.hid (And.intro (HP.out.step hb1) hnew)
  clear hb1 hnew
  go_wp2_with fail
  refine (K1.out.2).mono ?_
  rintro e w2 ⟨rfl, hmk, hb2⟩
  have hnd := make_any w1.heap.size 4 (by omega) w2 hmk
  have hC := hmk.lt
  have K2 := Lib.hid (And.intro (K1.out.1.step hb2) hnd)
  clear hb2 hnd hmk
  go_wp2_with fail
  refine (K2.out.2).mono ?_
  rintro e w3 ⟨t, tv, rfl, htv, -, hf3⟩
  have hb3 : Below w.heap.size w w3 := K2.out.1.1.trans ((hf3.toBelow (by omega)).mono K1.out.1.1.size)
  have hm3 : Mid w w3 := ⟨hb3, powBelow HP.out.2 hb3⟩
  obtain ⟨ra, rc, ka, kc, rfl⟩ := id htv.shape
  have htv0 := NodeIn.lower (lo' := 0) (Nat.zero_le _) _ _ htv
  have hm4 := hm3.alloc (.cells #[.int .i64 t.op, .slice ra t.rs.length rc, .string t.nm, .slice ka t.kids.length kc, .int .i64 t.mn, .int .i64 t.mx] 27)
  have hX := NBox.new w3 (.int .i64 t.op) (.slice ra t.rs.length rc) (.string t.nm) (.slice ka t.kids.length kc) (.int .i64 t.mn) (.int .i64 t.mx)
  have htv4 := NodeIn.keeps (keeps_alloc 0 w3 (.cells #[.int .i64 t.op, .slice ra t.rs.length rc, .string t.nm, .slice ka t.kids.length kc, .int .i64 t.mn, .int .i64 t.mx] 27)) _ _ htv0
  have hfm := format_any t _ _ htv4 hm4.2
  obtain ⟨x0, x1, x2, x3, x4, x5⟩ := hX.cells
  have K4 := Lib.hid (And.intro hm4 (And.intro hX (And.intro htv4 hfm)))
  clear hm4 hX htv4 hfm htv0 htv hf3 hb3 hm3
  go_wp2_with fail
  refine (K4.out.2.2.2).mono ?_
  rintro e w5 ⟨rfl, hb5⟩
  have hm5 := K4.out.1.step hb5
  have hX5 := K4.out.2.1.below hb5
  have htv5 := NodeIn.keeps (keeps_below hb5) _ _ K4.out.2.2.1
  obtain ⟨y0, y1, y2, y3, y4, y5⟩ := hX5.cells
  have hpb := fun h0 => parse_back t w5 w5 _ 0 htv5 h0
  obtain ⟨fl, hfl⟩ : ∃ x, (formatN t).1 = x := ⟨_, rfl⟩
  obtain ⟨fe, hfe⟩ : ∃ x, (formatN t).2 = x := ⟨_, rfl⟩
  rw [hfl] at hpb
  rw [hfe] at hpb
  rw [hfl, hfe]
  have K5 := Lib.hid (And.intro hm5 (And.intro hX5 (And.intro htv5 hpb)))
  clear hm5 hX5 htv5 hpb hb5 hfl hfe
  by_cases hf0 : fe = 0
  · subst hf0
    have hsz := len_mk fl
    have hpc := K5.out.2.2.2 rfl
    have KP := Lib.hid hpc
    clear hpc
    go_wp2_with fail
    refine (KP.out).mono ?_
    rintro e w6 ⟨mv, rfl, hmv, hb6⟩
    obtain ⟨ma, mc, mk, md, rfl⟩ := id hmv.shape
    have hmv0 := NodeIn.keeps (keeps_alloc 0 w6 (.cells #[.int .i64 t.op, .slice ma t.rs.length mc, .string t.nm, .slice mk t.kids.length md, .int .i64 t.mn, .int .i64 t.mx] 27)) _ _ (NodeIn.lower (lo' := 0) (Nat.zero_le _) _ _ hmv)
    have htv6 := NodeIn.keeps (keeps_alloc 0 w6 (.cells #[.int .i64 t.op, .slice ma t.rs.length mc, .string t.nm, .slice mk t.kids.length md, .int .i64 t.mn, .int .i64 t.mx] 27)) _ _ (NodeIn.keeps (keeps_below hb6) _ _ K5.out.2.2.1)
    have hm7 := (K5.out.1.step hb6).alloc (.cells #[.int .i64 t.op, .slice ma t.rs.length mc, .string t.nm, .slice mk t.kids.length md, .int .i64 t.mn, .int .i64 t.mx] 27)
    have hX7 := (K5.out.2.1.below hb6).alloc (.cells #[.int .i64 t.op, .slice ma t.rs.length mc, .string t.nm, .slice mk t.kids.length md, .int .i64 t.mn, .int .i64 t.mx] 27)
    have hM7 := NBox.new w6 (.int .i64 t.op) (.slice ma t.rs.length mc) (.string t.nm) (.slice mk t.kids.length md) (.int .i64 t.mn) (.int .i64 t.mx)
    have hsm := same_any t _ _ _ hmv0 htv6
    obtain ⟨z0, z1, z2, z3, z4, z5⟩ := hX7.cells
    obtain ⟨u0, u1, u2, u3, u4, u5⟩ := hM7.cells
    have K7 := Lib.hid (And.intro hm7 hsm)
    clear hmv hmv0 htv6 hm7 hX7 hM7 hsm hb6
    go_wp2_with fail
    refine (K7.out.2).mono ?_
    rintro e w8 ⟨rfl, hb8⟩
    have hmW := K7.out.1.step hb8
    have HM := Lib.hid hmW
    clear hmW hb8 z0 z1 z2 z3 z4 z5 u0 u1 u2 u3 u4 u5 x0 x1 x2 x3 x4 x5 y0 y1 y2 y3 y4 y5
    have hp9 := HPA.out w8
    have K9 := Lib.hid hp9
    clear hp9
    go_wp2_with fail
    refine (K9.out).mono ?_
    rintro e v1 ⟨pv, rfl, hpv, hc1⟩
    have hok := HOK.out
    obtain ⟨⟨p, pk, pe⟩, hr⟩ : ∃ r, parseN s (bracketS s) = r := ⟨_, rfl⟩
    rw [hr] at hpv hok ⊢
    simp only at hpv hok ⊢
    have hn1 := HM.out.step hc1
    obtain ⟨pa, pc, pq, pd, rfl⟩ := id hpv.shape
    by_cases hpe : pe = 0
    · subst hpe
      have hchk := hok rfl
      have hn2 := hn1.alloc (.cells #[.int .i64 p.op, .slice pa p.rs.length pc, .string p.nm, .slice pq p.kids.length pd, .int .i64 p.mn, .int .i64 p.mx] 27)
      have hpv2 := NodeIn.keeps (keeps_alloc 0 v1 (.cells #[.int .i64 p.op, .slice pa p.rs.length pc, .string p.nm, .slice pq p.kids.length pd, .int .i64 p.mn, .int .i64 p.mx] 27)) _ _ (NodeIn.lower (lo' := 0) (Nat.zero_le _) _ _ hpv)
      have hPX := NBox.new v1 (.int .i64 p.op) (.slice pa p.rs.length pc) (.string p.nm) (.slice pq p.kids.length pd) (.int .i64 p.mn) (.int .i64 p.mx)
      have hfp := format_any p _ _ hpv2 hn2.2
      have hcs := format_cases p hchk
      obtain ⟨s0, s1, s2, s3, s4, s5⟩ := hPX.cells
      have L2 := Lib.hid (And.intro hn2 (And.intro hPX (And.intro hpv2 hfp)))
      clear hn1 hn2 hpv2 hPX hfp hpv hok hr hc1 hchk
      go_wp2_with fail
      refine (L2.out.2.2.2).mono ?_
      rintro e v3 ⟨rfl, hc3⟩
      have hn3 := L2.out.1.step hc3
      have hP3 := L2.out.2.1.below hc3
      have hpv3 := NodeIn.keeps (keeps_below hc3) _ _ L2.out.2.2.1
      have hpb := fun h0 => parse_back p v3 v3 _ 0 hpv3 h0
      obtain ⟨gl, hgl⟩ : ∃ x, (formatN p).1 = x := ⟨_, rfl⟩
      obtain ⟨ge, hge⟩ : ∃ x, (formatN p).2 = x := ⟨_, rfl⟩
      rw [hgl, hge] at hpb
      rw [hge] at hcs
      rw [hgl, hge]
      have L3 := Lib.hid (And.intro hn3 (And.intro hP3 (And.intro hpv3 hpb)))
      clear hn3 hP3 hpv3 hpb hc3 hgl hge
      rcases hcs with rfl | rfl | rfl
      · go_wp2
        go_ret
        exact ⟨rfl, L3.out.1.1⟩
      · go_wp2
        go_ret
        exact ⟨rfl, L3.out.1.1⟩
      · have hpc := Lib.hid (L3.out.2.2.2 rfl)
        go_wp2_with fail
        refine (hpc.out).mono ?_
        rintro e v4 ⟨qv, rfl, hqv, hc4⟩
        obtain ⟨qa, qc, qk, qd, rfl⟩ := id hqv.shape
        have hqv0 := NodeIn.keeps (keeps_alloc 0 v4 (.cells #[.int .i64 p.op, .slice qa p.rs.length qc, .string p.nm, .slice qk p.kids.length qd, .int .i64 p.mn, .int .i64 p.mx] 27)) _ _ (NodeIn.lower (lo' := 0) (Nat.zero_le _) _ _ hqv)
        have hpv5 := NodeIn.keeps (keeps_alloc 0 v4 (.cells #[.int .i64 p.op, .slice qa p.rs.length qc, .string p.nm, .slice qk p.kids.length qd, .int .i64 p.mn, .int .i64 p.mx] 27)) _ _ (NodeIn.keeps (keeps_below hc4) _ _ L3.out.2.2.1)
        have hn5 := (L3.out.1.step hc4).alloc (.cells #[.int .i64 p.op, .slice qa p.rs.length qc, .string p.nm, .slice qk p.kids.length qd, .int .i64 p.mn, .int .i64 p.mx] 27)
        have hP5 := (L3.out.2.1.below hc4).alloc (.cells #[.int .i64 p.op, .slice qa p.rs.length qc, .string p.nm, .slice qk p.kids.length qd, .int .i64 p.mn, .int .i64 p.mx] 27)
        have hQ5 := NBox.new v4 (.int .i64 p.op) (.slice qa p.rs.length qc) (.string p.nm) (.slice qk p.kids.length qd) (.int .i64 p.mn) (.int .i64 p.mx)
        have hsm := same_any p _ _ _ hpv5 hqv0
        obtain ⟨i0, i1, i2, i3, i4, i5⟩ := hP5.cells
        obtain ⟨j0, j1, j2, j3, j4, j5⟩ := hQ5.cells
        have L5 := Lib.hid (And.intro hn5 hsm)
        clear hqv hqv0 hpv5 hn5 hP5 hQ5 hsm hc4
        go_wp2_with fail
        refine (L5.out.2).mono ?_
        rintro e v6 ⟨rfl, hc6⟩
        have L6 := Lib.hid (L5.out.1.step hc6)
        clear hc6
        go_wp2
        go_ret
        exact ⟨rfl, L6.out.1⟩
    · have epe : (pe != 0) = true := by rw [bne_iff_ne]; exact hpe
      have L1 := Lib.hid hn1
      clear hn1 hpv hok hr hc1 hpe
      go_wp2
      go_ret
      exact ⟨rfl, (L1.out.alloc _).1⟩
  · have ef : (fe == 0) = false := by rw [beq_eq_false_iff_ne]; exact hf0
    have HM := Lib.hid K5.out.1
    clear x0 x1 x2 x3 x4 x5 y0 y1 y2 y3 y4 y5 hf0
    have hp9 := HPA.out w5
    have K9 := Lib.hid hp9
    clear hp9
    go_wp2_with fail
    refine (K9.out).mono ?_
    rintro e v1 ⟨pv, rfl, hpv, hc1⟩
    have hok := HOK.out
    obtain ⟨⟨p, pk, pe⟩, hr⟩ : ∃ r, parseN s (bracketS s) = r := ⟨_, rfl⟩
    rw [hr] at hpv hok ⊢
    simp only at hpv hok ⊢
    have hn1 := HM.out.step hc1
    obtain ⟨pa, pc, pq, pd, rfl⟩ := id hpv.shape
    by_cases hpe : pe = 0
    · subst hpe
      have hchk := hok rfl
      have hn2 := hn1.alloc (.cells #[.int .i64 p.op, .slice pa p.rs.length pc, .string p.nm, .slice pq p.kids.length pd, .int .i64 p.mn, .int .i64 p.mx] 27)
      have hpv2 := NodeIn.keeps (keeps_alloc 0 v1 (.cells #[.int .i64 p.op, .slice pa p.rs.length pc, .string p.nm, .slice pq p.kids.length pd, .int .i64 p.mn, .int .i64 p.mx] 27)) _ _ (NodeIn.lower (lo' := 0) (Nat.zero_le _) _ _ hpv)
      have hPX := NBox.new v1 (.int .i64 p.op) (.slice pa p.rs.length pc) (.string p.nm) (.slice pq p.kids.length pd) (.int .i64 p.mn) (.int .i64 p.mx)
      have hfp := format_any p _ _ hpv2 hn2.2
      have hcs := format_cases p hchk
      obtain ⟨s0, s1, s2, s3, s4, s5⟩ := hPX.cells
      have L2 := Lib.hid (And.intro hn2 (And.intro hPX (And.intro hpv2 hfp)))
      clear hn1 hn2 hpv2 hPX hfp hpv hok hr hc1 hchk
      go_wp2_with fail
      refine (L2.out.2.2.2).mono ?_
      rintro e v3 ⟨rfl, hc3⟩
      have hn3 := L2.out.1.step hc3
      have hP3 := L2.out.2.1.below hc3
      have hpv3 := NodeIn.keeps (keeps_below hc3) _ _ L2.out.2.2.1
      have hpb := fun h0 => parse_back p v3 v3 _ 0 hpv3 h0
      obtain ⟨gl, hgl⟩ : ∃ x, (formatN p).1 = x := ⟨_, rfl⟩
      obtain ⟨ge, hge⟩ : ∃ x, (formatN p).2 = x := ⟨_, rfl⟩
      rw [hgl, hge] at hpb
      rw [hge] at hcs
      rw [hgl, hge]
      have L3 := Lib.hid (And.intro hn3 (And.intro hP3 (And.intro hpv3 hpb)))
      clear hn3 hP3 hpv3 hpb hc3 hgl hge
      rcases hcs with rfl | rfl | rfl
      · go_wp2
        go_ret
        exact ⟨rfl, L3.out.1.1⟩
      · go_wp2
        go_ret
        exact ⟨rfl, L3.out.1.1⟩
      · have hpc := Lib.hid (L3.out.2.2.2 rfl)
        go_wp2_with fail
        refine (hpc.out).mono ?_
        rintro e v4 ⟨qv, rfl, hqv, hc4⟩
        obtain ⟨qa, qc, qk, qd, rfl⟩ := id hqv.shape
        have hqv0 := NodeIn.keeps (keeps_alloc 0 v4 (.cells #[.int .i64 p.op, .slice qa p.rs.length qc, .string p.nm, .slice qk p.kids.length qd, .int .i64 p.mn, .int .i64 p.mx] 27)) _ _ (NodeIn.lower (lo' := 0) (Nat.zero_le _) _ _ hqv)
        have hpv5 := NodeIn.keeps (keeps_alloc 0 v4 (.cells #[.int .i64 p.op, .slice qa p.rs.length qc, .string p.nm, .slice qk p.kids.length qd, .int .i64 p.mn, .int .i64 p.mx] 27)) _ _ (NodeIn.keeps (keeps_below hc4) _ _ L3.out.2.2.1)
        have hn5 := (L3.out.1.step hc4).alloc (.cells #[.int .i64 p.op, .slice qa p.rs.length qc, .string p.nm, .slice qk p.kids.length qd, .int .i64 p.mn, .int .i64 p.mx] 27)
        have hP5 := (L3.out.2.1.below hc4).alloc (.cells #[.int .i64 p.op, .slice qa p.rs.length qc, .string p.nm, .slice qk p.kids.length qd, .int .i64 p.mn, .int .i64 p.mx] 27)
        have hQ5 := NBox.new v4 (.int .i64 p.op) (.slice qa p.rs.length qc) (.string p.nm) (.slice qk p.kids.length qd) (.int .i64 p.mn) (.int .i64 p.mx)
        have hsm := same_any p _ _ _ hpv5 hqv0
        obtain ⟨i0, i1, i2, i3, i4, i5⟩ := hP5.cells
        obtain ⟨j0, j1, j2, j3, j4, j5⟩ := hQ5.cells
        have L5 := Lib.hid (And.intro hn5 hsm)
        clear hqv hqv0 hpv5 hn5 hP5 hQ5 hsm hc4
        go_wp2_with fail
        refine (L5.out.2).mono ?_
        rintro e v6 ⟨rfl, hc6⟩
        have L6 := Lib.hid (L5.out.1.step hc6)
        clear hc6
        go_wp2
        go_ret
        exact ⟨rfl, L6.out.1⟩
    · have epe : (pe != 0) = true := by rw [bne_iff_ne]; exact hpe
      have L1 := Lib.hid hn1
      clear hn1 hpv hok hr hc1 hpe
      go_wp2
      go_ret
      exact ⟨rfl, (L1.out.alloc _).1⟩
end Go.Proofs.YtbadhhfnbgaamaaDoor
