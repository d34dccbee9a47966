/- The statement PatternJoins: the law returns true. -/
import Derived.Test.YtbadhhfnbgaamaaDoorLawPat
namespace Go.Proofs.YtbadhhfnbgaamaaDoor
open Go.RowKit

theorem format_ok {t : Nd} (h : (formatN t).2 = 0) : chkN t = 0 ∧ errN t = false ∧ (formatN t).1 = fmtN t := by
  unfold formatN at h ⊢
  by_cases h1 : chkN t ≠ 0
  · rw [if_pos h1] at h; exact absurd h h1
  rw [if_neg h1] at h ⊢
  by_cases h2 : errN t = true
  · rw [if_pos h2] at h; simp at h
  rw [if_neg h2] at h ⊢
  by_cases h3 : 400 < (fmtN t).length
  · rw [if_pos h3] at h; simp at h
  rw [if_neg h3]
  exact ⟨Classical.byContradiction h1, by simpa using h2, rfl⟩
theorem format_le {t : Nd} (h : (formatN t).2 = 0) : (formatN t).1.length ≤ 400 := by
  obtain ⟨c1, c2, c3⟩ := format_ok h
  rw [c3]
  unfold formatN at h
  rw [if_neg (by rw [c1]; simp), if_neg (by rw [c2]; simp)] at h
  by_cases h3 : 400 < (fmtN t).length
  · rw [if_pos h3] at h; simp at h
  · omega
theorem trip_of_format {t : Nd} (hb : bytT t) (h : (formatN t).2 = 0) : Trip t := trip_any t (okT_of_chk hb (format_ok h).1) (format_ok h).2.1
/-- Two patterns in parentheses, one after the other. -/
theorem join_cat {a b : Nd} (ha : Trip a) (hb : Trip b) : ChoOk ((40 :: fmtN a ++ [41]) ++ (40 :: fmtN b ++ [41])) (ndKids 2 [a, b]) := by
  have h := cat_pieces (ls := [40 :: fmtN a ++ [41], 40 :: fmtN b ++ [41]]) (ts := [a, b]) ⟨ha.group.rep, ⟨40, _, rfl, .inl rfl⟩, hb.group.rep, ⟨40, _, rfl, .inl rfl⟩, trivial⟩
  have := h.cho
  simpa [catOf] using this
/-- .. as alternatives. -/
theorem join_cho {a b : Nd} (ha : Trip a) (hb : Trip b) : ChoOk ((40 :: fmtN a ++ [41]) ++ 124 :: (40 :: fmtN b ++ [41])) (ndKids 3 [a, b]) := by
  have hh : ∀ t : Nd, Head (40 :: fmtN t ++ [41]) := fun t => ⟨40, _, rfl, .inl rfl⟩
  have h := cho_pieces (l := 40 :: fmtN a ++ [41]) (t := a) (ls := [40 :: fmtN b ++ [41]]) (ts := [b]) (ha.group.rep.cat (hh a)) ⟨hb.group.rep.cat (hh b), hh b, trivial⟩
  simpa [chOf, chJoin] using h
def joinP (op : Int) (a b : Nd) (n : Nat) : Nd × Nat × Int := if chkN (ndKids op [a, b]) ≠ 0 then (ndLeaf 0, n, chkN (ndKids op [a, b])) else (ndKids op [a, b], n, 0)
theorem join_parse (op : Int) (a b : Nd) (S : ByteArray) (h : ChoOk S.data.toList (ndKids op [a, b])) (hs : S.size ≤ 400) (w : World) :
    Calls Tryd.prog 9 #[.string S] w (ParseOut w.heap.size w (joinP op a b S.size)) := by
  have h1 := parse_all S w
  rw [parse_of_cho S _ h hs] at h1
  exact h1
theorem size_list (S : ByteArray) : S.size = S.data.toList.length := (sizeB S).symm
theorem kids_two (w : World) (a b : Nd) (aa : Option Addr) (ac : Nat) (ak : Option Addr) (ad : Nat) (ba : Option Addr) (bc : Nat) (bk : Option Addr) (bd : Nat) (ha : NodeIn 0 w a (.agg #[.int .i64 a.op, .slice aa a.rs.length ac, .string a.nm, .slice ak a.kids.length ad, .int .i64 a.mn, .int .i64 a.mx])) (hb : NodeIn 0 w b (.agg #[.int .i64 b.op, .slice ba b.rs.length bc, .string b.nm, .slice bk b.kids.length bd, .int .i64 b.mn, .int .i64 b.mx])) (op : Int) (ho : 0 ≤ op ∧ op ≤ 7) :
    NodeIn 0 (w.alloc (.cells #[.int .i64 a.op, .slice aa a.rs.length ac, .string a.nm, .slice ak a.kids.length ad, .int .i64 a.mn, .int .i64 a.mx, .int .i64 b.op, .slice ba b.rs.length bc, .string b.nm, .slice bk b.kids.length bd, .int .i64 b.mn, .int .i64 b.mx] 27)) (ndKids op [a, b]) (.agg #[.int .i64 op, .slice none 0 0, .string ⟨#[]⟩, .slice (some ⟨w.heap.size, 0, none⟩) 2 2, .int .i64 0, .int .i64 0]) := by
  have hh := heap_alloc_new w (.cells #[.int .i64 a.op, .slice aa a.rs.length ac, .string a.nm, .slice ak a.kids.length ad, .int .i64 a.mn, .int .i64 a.mx, .int .i64 b.op, .slice ba b.rs.length bc, .string b.nm, .slice bk b.kids.length bd, .int .i64 b.mn, .int .i64 b.mx] 27)
  have hc : ∀ i v, (#[.int .i64 a.op, .slice aa a.rs.length ac, .string a.nm, .slice ak a.kids.length ad, .int .i64 a.mn, .int .i64 a.mx, .int .i64 b.op, .slice ba b.rs.length bc, .string b.nm, .slice bk b.kids.length bd, .int .i64 b.mn, .int .i64 b.mx] : Array Value)[i]? = some v → (w.alloc (.cells #[.int .i64 a.op, .slice aa a.rs.length ac, .string a.nm, .slice ak a.kids.length ad, .int .i64 a.mn, .int .i64 a.mx, .int .i64 b.op, .slice ba b.rs.length bc, .string b.nm, .slice bk b.kids.length bd, .int .i64 b.mn, .int .i64 b.mx] 27)).cell? ⟨w.heap.size, i, none⟩ = some v := fun i v hv => by rw [Lib.cell_of_heap hh]; exact hv
  have h := kids_node 0 (w.alloc (.cells #[.int .i64 a.op, .slice aa a.rs.length ac, .string a.nm, .slice ak a.kids.length ad, .int .i64 a.mn, .int .i64 a.mx, .int .i64 b.op, .slice ba b.rs.length bc, .string b.nm, .slice bk b.kids.length bd, .int .i64 b.mn, .int .i64 b.mx] 27)) op ho [a, b] (by simp [maxLen]) w.heap.size 2 (Nat.zero_le _) ?_
  · exact h
  · unfold KidsIn
    refine ⟨⟨_, _, _, _, _, _, NodeIn.keeps (keeps_alloc 0 w _) _ _ ha, hc 0 _ rfl, hc 1 _ rfl, hc 2 _ rfl, hc 3 _ rfl, hc 4 _ rfl, hc 5 _ rfl⟩, ?_⟩
    unfold KidsIn
    refine ⟨⟨_, _, _, _, _, _, NodeIn.keeps (keeps_alloc 0 w _) _ _ hb, hc 6 _ rfl, hc 7 _ rfl, hc 8 _ rfl, hc 9 _ rfl, hc 10 _ rfl, hc 11 _ rfl⟩, ?_⟩
    unfold KidsIn
    trivial

/-- What the loop of PatternJoins holds. -/
structure JAt (w wr : World) (X Y I : Nat) (a b : Nd) (va vb : Array Value) : Prop where
  mid : Mid w wr
  xa : wr.heap[X]? = some (.cells va 27 (0, 0))
  xb : wr.heap[Y]? = some (.cells vb 27 (0, 0))
  xi : wr.heap[I]? = some (.cells #[.int .i64 2, .int .i64 3] 3 (0, 0))
  na : NodeIn 0 wr a (.agg va)
  nb : NodeIn 0 wr b (.agg vb)
theorem JAt.below {w wr wr' : World} {X Y I : Nat} {a b : Nd} {va vb : Array Value} (h : JAt w wr X Y I a b va vb) (hb : Below wr.heap.size wr wr') : JAt w wr' X Y I a b va vb :=
  ⟨h.mid.step hb, (hb.block X (Array.getElem?_eq_some_iff.1 h.xa).1).trans h.xa, (hb.block Y (Array.getElem?_eq_some_iff.1 h.xb).1).trans h.xb, (hb.block I (Array.getElem?_eq_some_iff.1 h.xi).1).trans h.xi, NodeIn.keeps (keeps_below hb) _ _ h.na, NodeIn.keeps (keeps_below hb) _ _ h.nb⟩
theorem JAt.alloc {w wr : World} {X Y I : Nat} {a b : Nd} {va vb : Array Value} (h : JAt w wr X Y I a b va vb) (o : Obj) : JAt w (wr.alloc o) X Y I a b va vb := h.below ((Below.refl _ _).alloc (Nat.le_refl _) o)

set_option linter.unusedSimpArgs false in
set_option maxRecDepth 100000 in
set_option maxHeartbeats 8000000 in
theorem lawJoins (sv : Value) (l : List UInt8) (sv2 : Value) (l2 : List UInt8) (w : World) (hA : ArgB w w.heap.size sv l) (hA2 : ArgB w w.heap.size sv2 l2) (hP : Pow10 w) :
    Calls Tryd.prog 4 #[sv, sv2] w fun e w' => e = .returned (.bool true) ∧ Below w.heap.size w w' := by
  have haw := Lib.hid (awake_any w)
  have HA := Lib.hid hA
  have HA2 := Lib.hid hA2
  have HP := Lib.hid (show Mid w w from ⟨Below.refl _ _, hP⟩)
  clear hA hA2 hP
  go_enter Tryd.func4, Tryd.ntmps4
  go_wp2_with fail
  refine (haw.out).mono ?_
  rintro e w1 ⟨rfl, hb1⟩
  have hnew := new_any sv l 60 w1 (HA.out.below hb1) (by omega)
  have K1 := Lib.hid (And.intro (HP.out.step hb1) hnew)
  clear hb1 hnew
  go_wp2_with fail
  refine (K1.out.2).mono ?_
  rintro e w2 ⟨rfl, hmk, hb2⟩
  have hnd := make_any w1.heap.size 2 (by omega) w2 hmk
  have hC := hmk.lt
  have K2 := Lib.hid (And.intro (K1.out.1.step hb2) hnd)
  clear hb2 hnd hmk
  go_wp2_with fail
  refine (K2.out.2).mono ?_
  rintro e w3 ⟨a, av, rfl, hav, -, hf3⟩
  have hb3 : Below w.heap.size w w3 := K2.out.1.1.trans ((hf3.toBelow (by omega)).mono K1.out.1.1.size)
  have hm3 : Mid w w3 := ⟨hb3, powBelow HP.out.2 hb3⟩
  obtain ⟨aa, ac, ak, ad, rfl⟩ := id hav.shape
  have hav0 := NodeIn.lower (lo' := 0) (Nat.zero_le _) _ _ hav
  have hnew2 := new_any sv2 l2 60 w3 (HA2.out.below hb3) (by omega)
  have K3 := Lib.hid (And.intro hm3 (And.intro hav0 hnew2))
  clear hm3 hav0 hnew2 hav hf3 hb3
  go_wp2_with fail
  refine (K3.out.2.2).mono ?_
  rintro e w4 ⟨rfl, hmk, hb4⟩
  have hnd := make_any w3.heap.size 2 (by omega) w4 hmk
  have hC2 := hmk.lt
  have K4 := Lib.hid (And.intro hb4 hnd)
  clear hb4 hnd hmk
  go_wp2_with fail
  refine (K4.out.2).mono ?_
  rintro e w5 ⟨b, bv, rfl, hbv, -, hf5⟩
  have hb5 : Below w3.heap.size w3 w5 := K4.out.1.trans (hf5.toBelow (by omega))
  have hm5 := K3.out.1.step hb5
  have hav5 := NodeIn.keeps (keeps_below hb5) _ _ K3.out.2.1
  obtain ⟨ba, bc, bk, bd, rfl⟩ := id hbv.shape
  have hbv5 := NodeIn.lower (lo' := 0) (Nat.zero_le _) _ _ hbv
  have hm7 := (hm5.alloc (.cells #[.int .i64 a.op, .slice aa a.rs.length ac, .string a.nm, .slice ak a.kids.length ad, .int .i64 a.mn, .int .i64 a.mx] 27)).alloc (.cells #[.int .i64 b.op, .slice ba b.rs.length bc, .string b.nm, .slice bk b.kids.length bd, .int .i64 b.mn, .int .i64 b.mx] 27)
  have hXa := (NBox.new w5 (.int .i64 a.op) (.slice aa a.rs.length ac) (.string a.nm) (.slice ak a.kids.length ad) (.int .i64 a.mn) (.int .i64 a.mx)).alloc (.cells #[.int .i64 b.op, .slice ba b.rs.length bc, .string b.nm, .slice bk b.kids.length bd, .int .i64 b.mn, .int .i64 b.mx] 27)
  have hXb := NBox.new (w5.alloc (.cells #[.int .i64 a.op, .slice aa a.rs.length ac, .string a.nm, .slice ak a.kids.length ad, .int .i64 a.mn, .int .i64 a.mx] 27)) (.int .i64 b.op) (.slice ba b.rs.length bc) (.string b.nm) (.slice bk b.kids.length bd) (.int .i64 b.mn) (.int .i64 b.mx)
  rw [Go.Deep.nblk_alloc] at hXb
  have hav7 := NodeIn.keeps (keeps_alloc 0 _ (.cells #[.int .i64 b.op, .slice ba b.rs.length bc, .string b.nm, .slice bk b.kids.length bd, .int .i64 b.mn, .int .i64 b.mx] 27)) _ _ (NodeIn.keeps (keeps_alloc 0 w5 (.cells #[.int .i64 a.op, .slice aa a.rs.length ac, .string a.nm, .slice ak a.kids.length ad, .int .i64 a.mn, .int .i64 a.mx] 27)) _ _ hav5)
  have hbv7 := NodeIn.keeps (keeps_alloc 0 _ (.cells #[.int .i64 b.op, .slice ba b.rs.length bc, .string b.nm, .slice bk b.kids.length bd, .int .i64 b.mn, .int .i64 b.mx] 27)) _ _ (NodeIn.keeps (keeps_alloc 0 w5 (.cells #[.int .i64 a.op, .slice aa a.rs.length ac, .string a.nm, .slice ak a.kids.length ad, .int .i64 a.mn, .int .i64 a.mx] 27)) _ _ hbv5)
  have hfa := format_any a _ _ hav7 hm7.2
  obtain ⟨x0, x1, x2, x3, x4, x5⟩ := hXa.cells
  have K7 := Lib.hid (And.intro hm7 (And.intro hXa (And.intro hXb (And.intro hav7 (And.intro hbv7 hfa)))))
  clear hm7 hXa hXb hav7 hbv7 hfa hm5 hav5 hbv5 hbv hb5 hf5
  go_wp2_with fail
  refine (K7.out.2.2.2.2.2).mono ?_
  rintro e w8 ⟨rfl, hb8⟩
  have hm8 := K7.out.1.step hb8
  have hXa8 := K7.out.2.1.below hb8
  have hXb8 := K7.out.2.2.1.below hb8
  have hav8 := NodeIn.keeps (keeps_below hb8) _ _ K7.out.2.2.2.1
  have hbv8 := NodeIn.keeps (keeps_below hb8) _ _ K7.out.2.2.2.2.1
  have hfb := format_any b _ _ hbv8 hm8.2
  obtain ⟨y0, y1, y2, y3, y4, y5⟩ := hXb8.cells
  have K8 := Lib.hid (And.intro hm8 (And.intro hXa8 (And.intro hXb8 (And.intro hav8 (And.intro hbv8 hfb)))))
  clear hm8 hXa8 hXb8 hav8 hbv8 hfb hb8
  go_wp2_with fail
  refine (K8.out.2.2.2.2.2).mono ?_
  rintro e w9 ⟨rfl, hb9⟩
  have hm9 := K8.out.1.step hb9
  have hXa9 := K8.out.2.1.below hb9
  have hXb9 := K8.out.2.2.1.below hb9
  have hav9 := NodeIn.keeps (keeps_below hb9) _ _ K8.out.2.2.2.1
  have hbv9 := NodeIn.keeps (keeps_below hb9) _ _ K8.out.2.2.2.2.1
  have hta := fun h => trip_of_format (t := a) hav9.bytT h
  have htb := fun h => trip_of_format (t := b) hbv9.bytT h
  have hfa := fun h => format_le (t := a) h
  have hfb := fun h => format_le (t := b) h
  have hoa := fun h => (format_ok (t := a) h).2.2
  have hob := fun h => (format_ok (t := b) h).2.2
  obtain ⟨S1, hS1⟩ : ∃ x, ByteArray.mk (formatN a).1.toArray = x := ⟨_, rfl⟩
  obtain ⟨S2, hS2⟩ : ∃ x, ByteArray.mk (formatN b).1.toArray = x := ⟨_, rfl⟩
  have hl1 : S1.data.toList = (formatN a).1 := by rw [← hS1]
  have hl2 : S2.data.toList = (formatN b).1 := by rw [← hS2]
  obtain ⟨ea, hea⟩ : ∃ x, (formatN a).2 = x := ⟨_, rfl⟩
  obtain ⟨eb, heb⟩ : ∃ x, (formatN b).2 = x := ⟨_, rfl⟩
  rw [hS1, hS2, hea, heb]
  rw [hea] at hta hoa hfa
  rw [heb] at htb hob hfb
  have K9 := Lib.hid (And.intro hm9 (And.intro hXa9 (And.intro hXb9 (And.intro hav9 hbv9))))
  have KT := Lib.hid (And.intro hta (And.intro htb (And.intro hoa (And.intro hob (And.intro hl1 hl2)))))
  have KF := Lib.hid (And.intro hfa hfb)
  clear hm9 hXa9 hXb9 hav9 hbv9 hta htb hoa hob hfa hfb hS1 hS2 hl1 hl2 hea heb hb9 x0 x1 x2 x3 x4 x5 y0 y1 y2 y3 y4 y5
  by_cases h1 : ea = 0
  · by_cases h2 : eb = 0
    · by_cases h3 : S1.size + S2.size ≤ 395
      · subst h1
        subst h2
        have d1 : decide ((395 : Int) < (S1.size : Int) + (S2.size : Int)) = false := by rw [decide_eq_false_iff_not]; omega
        have hTa := KT.out.1 rfl
        have hTb := KT.out.2.1 rfl
        have hsa : S1.data.toList = fmtN a := KT.out.2.2.2.2.1.trans (KT.out.2.2.1 rfl)
        have hsb : S2.data.toList = fmtN b := KT.out.2.2.2.2.2.trans (KT.out.2.2.2.1 rfl)
        have hj0 : JAt w (w9.alloc (.cells #[.int .i64 2, .int .i64 3] 3)) w5.heap.size (w5.heap.size + 1) w9.heap.size a b #[.int .i64 a.op, .slice aa a.rs.length ac, .string a.nm, .slice ak a.kids.length ad, .int .i64 a.mn, .int .i64 a.mx] #[.int .i64 b.op, .slice ba b.rs.length bc, .string b.nm, .slice bk b.kids.length bd, .int .i64 b.mn, .int .i64 b.mx] :=
          ⟨K9.out.1.alloc _, K9.out.2.1.alloc _, K9.out.2.2.1.alloc _, heap_alloc_new _ _, NodeIn.keeps (keeps_alloc 0 _ _) _ _ K9.out.2.2.2.1, NodeIn.keeps (keeps_alloc 0 _ _) _ _ K9.out.2.2.2.2⟩
        have HJ := Lib.hid hj0
        have HT := Lib.hid (And.intro hTa (And.intro hTb (And.intro hsa hsb)))
        clear hj0 hTa hTb hsa hsb
        go_wp2
        go_loopw [52] (fun i wr => ∃ k : Nat, k ≤ 2 ∧ i = .int .i64 k ∧ JAt w wr w5.heap.size (w5.heap.size + 1) w9.heap.size a b #[.int .i64 a.op, .slice aa a.rs.length ac, .string a.nm, .slice ak a.kids.length ad, .int .i64 a.mn, .int .i64 a.mx] #[.int .i64 b.op, .slice ba b.rs.length bc, .string b.nm, .slice bk b.kids.length bd, .int .i64 b.mn, .int .i64 b.mx]) (fun i _ => 2 - (intOf i).toNat)
        case atStart => exact ⟨0, by omega, rfl, HJ.out⟩
        case round =>
          obtain ⟨k, hk, rfl, hj⟩ := hrel
          obtain ⟨W1, rfl⟩ : ∃ W1, W1 = wr := ⟨_, rfl⟩
          have hk3 : k = 0 ∨ k = 1 ∨ k = 2 := by omega
          obtain ⟨x0, x1, x2, x3, x4, x5⟩ := NBox.cells (show NBox W1 _ _ _ _ _ _ _ from hj.xa)
          obtain ⟨y0, y1, y2, y3, y4, y5⟩ := NBox.cells (show NBox W1 _ _ _ _ _ _ _ from hj.xb)
          have i0 : W1.cell? ⟨w9.heap.size, 0, none⟩ = some (.int .i64 2) := by rw [Lib.cell_of_heap hj.xi]; rfl
          have i1 : W1.cell? ⟨w9.heap.size, 1, none⟩ = some (.int .i64 3) := by rw [Lib.cell_of_heap hj.xi]; rfl
          have KJ := Lib.hid hj
          clear hj
          rcases hk3 with rfl | rfl | rfl
          · have hSl : (((((((⟨#[40]⟩ ++ S1) ++ ⟨#[41]⟩) ++ ⟨#[]⟩) ++ ⟨#[40]⟩) ++ S2) ++ ⟨#[41]⟩) : ByteArray).data.toList = (40 :: fmtN a ++ [41]) ++ (40 :: fmtN b ++ [41]) := by
              simp only [cat_list, HT.out.2.2.1, HT.out.2.2.2]
              simp
            have hSz : (((((((⟨#[40]⟩ ++ S1) ++ ⟨#[41]⟩) ++ ⟨#[]⟩) ++ ⟨#[40]⟩) ++ S2) ++ ⟨#[41]⟩) : ByteArray).size ≤ 400 := by
              have e1 : S1.size = (fmtN a).length := by rw [size_list, HT.out.2.2.1]
              have e2 : S2.size = (fmtN b).length := by rw [size_list, HT.out.2.2.2]
              rw [size_list, hSl]
              simp only [List.length_append, List.length_cons, List.length_nil]
              omega
            obtain ⟨S, hS⟩ : ∃ x, (((((((⟨#[40]⟩ ++ S1) ++ ⟨#[41]⟩) ++ ⟨#[]⟩) ++ ⟨#[40]⟩) ++ S2) ++ ⟨#[41]⟩) : ByteArray) = x := ⟨_, rfl⟩
            rw [hS] at hSl hSz
            have hpc := fun W => join_parse 2 a b S (by rw [hSl]; exact join_cat HT.out.1 HT.out.2.1) hSz W
            have hwant := kids_two W1 a b aa ac ak ad ba bc bk bd KJ.out.na KJ.out.nb 2 (by omega)
            have hj2 := (KJ.out.alloc (.cells #[.int .i64 a.op, .slice aa a.rs.length ac, .string a.nm, .slice ak a.kids.length ad, .int .i64 a.mn, .int .i64 a.mx, .int .i64 b.op, .slice ba b.rs.length bc, .string b.nm, .slice bk b.kids.length bd, .int .i64 b.mn, .int .i64 b.mx] 27)).alloc (.cells #[.int .i64 2, .slice none 0 0, .string ⟨#[]⟩, .slice (some ⟨W1.heap.size, 0, none⟩) 2 2, .int .i64 0, .int .i64 0] 27)
            have hw2 := NodeIn.keeps (keeps_alloc 0 _ (.cells #[.int .i64 2, .slice none 0 0, .string ⟨#[]⟩, .slice (some ⟨W1.heap.size, 0, none⟩) 2 2, .int .i64 0, .int .i64 0] 27)) _ _ hwant
            have hXw := NBox.new (W1.alloc (.cells #[.int .i64 a.op, .slice aa a.rs.length ac, .string a.nm, .slice ak a.kids.length ad, .int .i64 a.mn, .int .i64 a.mx, .int .i64 b.op, .slice ba b.rs.length bc, .string b.nm, .slice bk b.kids.length bd, .int .i64 b.mn, .int .i64 b.mx] 27)) (.int .i64 2) (.slice none 0 0) (.string ⟨#[]⟩) (.slice (some ⟨W1.heap.size, 0, none⟩) 2 2) (.int .i64 0) (.int .i64 0)
            rw [Go.Deep.nblk_alloc] at hXw
            have KR := Lib.hid (And.intro hpc (And.intro hj2 (And.intro hw2 hXw)))
            have HS := Lib.hid hS
            clear hpc hwant hj2 hw2 hXw hSl hSz hS
            go_wp2_with fail
            rw [HS.out]
            refine (KR.out.1 _).mono ?_
            rintro e v1 ⟨nv, rfl, hnv, hc1⟩
            unfold joinP at hnv ⊢
            have hjA := KR.out.2.1.below hc1
            have hwA := NodeIn.keeps (keeps_below hc1) _ _ KR.out.2.2.1
            have hXA := KR.out.2.2.2.below hc1
            obtain ⟨cw, hcw⟩ : ∃ x, chkN (ndKids 2 [a, b]) = x := ⟨_, rfl⟩
            have hck := fun W v hW => check_any (ndKids 2 [a, b]) v W hW
            rw [hcw] at hnv hck ⊢
            by_cases hz : cw = 0
            · subst hz
              rw [if_neg (by simp)] at hnv ⊢
              simp only at hnv ⊢
              obtain ⟨nv', na, nc, nk, nd, hnve, hnv'⟩ : ∃ nv' na nc nk nd, nv' = .agg #[.int .i64 2, .slice na 0 nc, .string noName, .slice nk 2 nd, .int .i64 0, .int .i64 0] ∧ nv = nv' := by
                obtain ⟨na, nc, nk, nd, h⟩ := id hnv.shape
                exact ⟨_, na, nc, nk, nd, rfl, h⟩
              subst hnv'
              subst hnve
              have hnv2 := NodeIn.keeps (keeps_alloc 0 v1 (.cells #[.int .i64 2, .slice na 0 nc, .string noName, .slice nk 2 nd, .int .i64 0, .int .i64 0] 27)) _ _ (NodeIn.lower (lo' := 0) (Nat.zero_le _) _ _ hnv)
              have hw3 := NodeIn.keeps (keeps_alloc 0 v1 (.cells #[.int .i64 2, .slice na 0 nc, .string noName, .slice nk 2 nd, .int .i64 0, .int .i64 0] 27)) _ _ hwA
              have hj3 := hjA.alloc (.cells #[.int .i64 2, .slice na 0 nc, .string noName, .slice nk 2 nd, .int .i64 0, .int .i64 0] 27)
              have hX3 := hXA.alloc (.cells #[.int .i64 2, .slice na 0 nc, .string noName, .slice nk 2 nd, .int .i64 0, .int .i64 0] 27)
              have hN3 := NBox.new v1 (.int .i64 2) (.slice na 0 nc) (.string noName) (.slice nk 2 nd) (.int .i64 0) (.int .i64 0)
              obtain ⟨p0, p1, p2, p3, p4, p5⟩ := hX3.cells
              have hcc := hck _ _ hw3
              have KC := Lib.hid (And.intro hcc (And.intro hj3 (And.intro hX3 (And.intro hN3 (And.intro hnv2 hw3)))))
              clear hcc hj3 hX3 hN3 hnv2 hw3 hnv hck hjA hwA hXA hcw hc1
              unfold noName at KC p0 p1 p2 p3 p4 p5 ⊢
              go_wp2_with fail
              refine (KC.out.1).mono ?_
              rintro e v3 ⟨rfl, hc3⟩
              have hj4 := KC.out.2.1.below hc3
              obtain ⟨r0, r1, r2, r3, r4, r5⟩ := (KC.out.2.2.1.below hc3).cells
              obtain ⟨s0, s1, s2, s3, s4, s5⟩ := (KC.out.2.2.2.1.below hc3).cells
              have hsm := same_any (ndKids 2 [a, b]) _ _ v3 (NodeIn.keeps (keeps_below hc3) _ _ KC.out.2.2.2.2.1) (NodeIn.keeps (keeps_below hc3) _ _ KC.out.2.2.2.2.2)
              have KS := Lib.hid (And.intro hj4 hsm)
              clear hj4 hsm hc3
              go_wp2_with fail
              refine (KS.out.2).mono ?_
              rintro e v4 ⟨rfl, hc4⟩
              have KE := Lib.hid (KS.out.1.below hc4)
              clear hc4
              go_wp2
              go_roundw
              case rel => exact ⟨0 + 1, by omega, by simp, KE.out⟩
              case measure => simp [intOf]
            · rw [if_pos hz] at hnv ⊢
              simp only at hnv ⊢
              obtain ⟨nv', na, nc, nk, nd, hnve, hnv'⟩ : ∃ nv' na nc nk nd, nv' = .agg #[.int .i64 0, .slice na 0 nc, .string noName, .slice nk 0 nd, .int .i64 0, .int .i64 0] ∧ nv = nv' := by
                obtain ⟨na, nc, nk, nd, h⟩ := id hnv.shape
                exact ⟨_, na, nc, nk, nd, rfl, h⟩
              subst hnv'
              subst hnve
              have hw3 := NodeIn.keeps (keeps_alloc 0 v1 (.cells #[.int .i64 0, .slice na 0 nc, .string noName, .slice nk 0 nd, .int .i64 0, .int .i64 0] 27)) _ _ hwA
              have hj3 := hjA.alloc (.cells #[.int .i64 0, .slice na 0 nc, .string noName, .slice nk 0 nd, .int .i64 0, .int .i64 0] 27)
              have hX3 := hXA.alloc (.cells #[.int .i64 0, .slice na 0 nc, .string noName, .slice nk 0 nd, .int .i64 0, .int .i64 0] 27)
              obtain ⟨p0, p1, p2, p3, p4, p5⟩ := hX3.cells
              have hcc := hck _ _ hw3
              have ez : (cw == 0) = false := by rw [beq_eq_false_iff_ne]; exact hz
              have KC := Lib.hid (And.intro hcc hj3)
              clear hcc hj3 hX3 hw3 hnv hck hjA hwA hXA hcw hc1 hz
              unfold noName at KC p0 p1 p2 p3 p4 p5 ⊢
              go_wp2_with fail
              refine (KC.out.1).mono ?_
              rintro e v3 ⟨rfl, hc3⟩
              have KE := Lib.hid (KC.out.2.below hc3)
              clear hc3
              go_wp2
              go_roundw
              case rel => exact ⟨0 + 1, by omega, by simp, KE.out⟩
              case measure => simp [intOf]
          · have hSl : (((((((⟨#[40]⟩ ++ S1) ++ ⟨#[41]⟩) ++ ⟨#[124]⟩) ++ ⟨#[40]⟩) ++ S2) ++ ⟨#[41]⟩) : ByteArray).data.toList = (40 :: fmtN a ++ [41]) ++ 124 :: (40 :: fmtN b ++ [41]) := by
              simp only [cat_list, HT.out.2.2.1, HT.out.2.2.2]
              simp
            have hSz : (((((((⟨#[40]⟩ ++ S1) ++ ⟨#[41]⟩) ++ ⟨#[124]⟩) ++ ⟨#[40]⟩) ++ S2) ++ ⟨#[41]⟩) : ByteArray).size ≤ 400 := by
              have e1 : S1.size = (fmtN a).length := by rw [size_list, HT.out.2.2.1]
              have e2 : S2.size = (fmtN b).length := by rw [size_list, HT.out.2.2.2]
              rw [size_list, hSl]
              simp only [List.length_append, List.length_cons, List.length_nil]
              omega
            obtain ⟨S, hS⟩ : ∃ x, (((((((⟨#[40]⟩ ++ S1) ++ ⟨#[41]⟩) ++ ⟨#[124]⟩) ++ ⟨#[40]⟩) ++ S2) ++ ⟨#[41]⟩) : ByteArray) = x := ⟨_, rfl⟩
            rw [hS] at hSl hSz
            have hpc := fun W => join_parse 3 a b S (by rw [hSl]; exact join_cho HT.out.1 HT.out.2.1) hSz W
            have hwant := kids_two W1 a b aa ac ak ad ba bc bk bd KJ.out.na KJ.out.nb 3 (by omega)
            have hj2 := (KJ.out.alloc (.cells #[.int .i64 a.op, .slice aa a.rs.length ac, .string a.nm, .slice ak a.kids.length ad, .int .i64 a.mn, .int .i64 a.mx, .int .i64 b.op, .slice ba b.rs.length bc, .string b.nm, .slice bk b.kids.length bd, .int .i64 b.mn, .int .i64 b.mx] 27)).alloc (.cells #[.int .i64 3, .slice none 0 0, .string ⟨#[]⟩, .slice (some ⟨W1.heap.size, 0, none⟩) 2 2, .int .i64 0, .int .i64 0] 27)
            have hw2 := NodeIn.keeps (keeps_alloc 0 _ (.cells #[.int .i64 3, .slice none 0 0, .string ⟨#[]⟩, .slice (some ⟨W1.heap.size, 0, none⟩) 2 2, .int .i64 0, .int .i64 0] 27)) _ _ hwant
            have hXw := NBox.new (W1.alloc (.cells #[.int .i64 a.op, .slice aa a.rs.length ac, .string a.nm, .slice ak a.kids.length ad, .int .i64 a.mn, .int .i64 a.mx, .int .i64 b.op, .slice ba b.rs.length bc, .string b.nm, .slice bk b.kids.length bd, .int .i64 b.mn, .int .i64 b.mx] 27)) (.int .i64 3) (.slice none 0 0) (.string ⟨#[]⟩) (.slice (some ⟨W1.heap.size, 0, none⟩) 2 2) (.int .i64 0) (.int .i64 0)
            rw [Go.Deep.nblk_alloc] at hXw
            have KR := Lib.hid (And.intro hpc (And.intro hj2 (And.intro hw2 hXw)))
            have HS := Lib.hid hS
            clear hpc hwant hj2 hw2 hXw hSl hSz hS
            go_wp2_with fail
            rw [HS.out]
            refine (KR.out.1 _).mono ?_
            rintro e v1 ⟨nv, rfl, hnv, hc1⟩
            unfold joinP at hnv ⊢
            have hjA := KR.out.2.1.below hc1
            have hwA := NodeIn.keeps (keeps_below hc1) _ _ KR.out.2.2.1
            have hXA := KR.out.2.2.2.below hc1
            obtain ⟨cw, hcw⟩ : ∃ x, chkN (ndKids 3 [a, b]) = x := ⟨_, rfl⟩
            have hck := fun W v hW => check_any (ndKids 3 [a, b]) v W hW
            rw [hcw] at hnv hck ⊢
            by_cases hz : cw = 0
            · subst hz
              rw [if_neg (by simp)] at hnv ⊢
              simp only at hnv ⊢
              obtain ⟨nv', na, nc, nk, nd, hnve, hnv'⟩ : ∃ nv' na nc nk nd, nv' = .agg #[.int .i64 3, .slice na 0 nc, .string noName, .slice nk 2 nd, .int .i64 0, .int .i64 0] ∧ nv = nv' := by
                obtain ⟨na, nc, nk, nd, h⟩ := id hnv.shape
                exact ⟨_, na, nc, nk, nd, rfl, h⟩
              subst hnv'
              subst hnve
              have hnv2 := NodeIn.keeps (keeps_alloc 0 v1 (.cells #[.int .i64 3, .slice na 0 nc, .string noName, .slice nk 2 nd, .int .i64 0, .int .i64 0] 27)) _ _ (NodeIn.lower (lo' := 0) (Nat.zero_le _) _ _ hnv)
              have hw3 := NodeIn.keeps (keeps_alloc 0 v1 (.cells #[.int .i64 3, .slice na 0 nc, .string noName, .slice nk 2 nd, .int .i64 0, .int .i64 0] 27)) _ _ hwA
              have hj3 := hjA.alloc (.cells #[.int .i64 3, .slice na 0 nc, .string noName, .slice nk 2 nd, .int .i64 0, .int .i64 0] 27)
              have hX3 := hXA.alloc (.cells #[.int .i64 3, .slice na 0 nc, .string noName, .slice nk 2 nd, .int .i64 0, .int .i64 0] 27)
              have hN3 := NBox.new v1 (.int .i64 3) (.slice na 0 nc) (.string noName) (.slice nk 2 nd) (.int .i64 0) (.int .i64 0)
              obtain ⟨p0, p1, p2, p3, p4, p5⟩ := hX3.cells
              have hcc := hck _ _ hw3
              have KC := Lib.hid (And.intro hcc (And.intro hj3 (And.intro hX3 (And.intro hN3 (And.intro hnv2 hw3)))))
              clear hcc hj3 hX3 hN3 hnv2 hw3 hnv hck hjA hwA hXA hcw hc1
              unfold noName at KC p0 p1 p2 p3 p4 p5 ⊢
              go_wp2_with fail
              refine (KC.out.1).mono ?_
              rintro e v3 ⟨rfl, hc3⟩
              have hj4 := KC.out.2.1.below hc3
              obtain ⟨r0, r1, r2, r3, r4, r5⟩ := (KC.out.2.2.1.below hc3).cells
              obtain ⟨s0, s1, s2, s3, s4, s5⟩ := (KC.out.2.2.2.1.below hc3).cells
              have hsm := same_any (ndKids 3 [a, b]) _ _ v3 (NodeIn.keeps (keeps_below hc3) _ _ KC.out.2.2.2.2.1) (NodeIn.keeps (keeps_below hc3) _ _ KC.out.2.2.2.2.2)
              have KS := Lib.hid (And.intro hj4 hsm)
              clear hj4 hsm hc3
              go_wp2_with fail
              refine (KS.out.2).mono ?_
              rintro e v4 ⟨rfl, hc4⟩
              have KE := Lib.hid (KS.out.1.below hc4)
              clear hc4
              go_wp2
              go_roundw
              case rel => exact ⟨1 + 1, by omega, by simp, KE.out⟩
              case measure => simp [intOf]
            · rw [if_pos hz] at hnv ⊢
              simp only at hnv ⊢
              obtain ⟨nv', na, nc, nk, nd, hnve, hnv'⟩ : ∃ nv' na nc nk nd, nv' = .agg #[.int .i64 0, .slice na 0 nc, .string noName, .slice nk 0 nd, .int .i64 0, .int .i64 0] ∧ nv = nv' := by
                obtain ⟨na, nc, nk, nd, h⟩ := id hnv.shape
                exact ⟨_, na, nc, nk, nd, rfl, h⟩
              subst hnv'
              subst hnve
              have hw3 := NodeIn.keeps (keeps_alloc 0 v1 (.cells #[.int .i64 0, .slice na 0 nc, .string noName, .slice nk 0 nd, .int .i64 0, .int .i64 0] 27)) _ _ hwA
              have hj3 := hjA.alloc (.cells #[.int .i64 0, .slice na 0 nc, .string noName, .slice nk 0 nd, .int .i64 0, .int .i64 0] 27)
              have hX3 := hXA.alloc (.cells #[.int .i64 0, .slice na 0 nc, .string noName, .slice nk 0 nd, .int .i64 0, .int .i64 0] 27)
              obtain ⟨p0, p1, p2, p3, p4, p5⟩ := hX3.cells
              have hcc := hck _ _ hw3
              have ez : (cw == 0) = false := by rw [beq_eq_false_iff_ne]; exact hz
              have KC := Lib.hid (And.intro hcc hj3)
              clear hcc hj3 hX3 hw3 hnv hck hjA hwA hXA hcw hc1 hz
              unfold noName at KC p0 p1 p2 p3 p4 p5 ⊢
              go_wp2_with fail
              refine (KC.out.1).mono ?_
              rintro e v3 ⟨rfl, hc3⟩
              have KE := Lib.hid (KC.out.2.below hc3)
              clear hc3
              go_wp2
              go_roundw
              case rel => exact ⟨1 + 1, by omega, by simp, KE.out⟩
              case measure => simp [intOf]
          · go_wp2
            go_ret
            exact ⟨rfl, KJ.out.mid.1⟩
      · subst h1
        subst h2
        have z1 : S1.size ≤ 400 := by rw [size_list, KT.out.2.2.2.2.1]; exact KF.out.1 rfl
        have z2 : S2.size ≤ 400 := by rw [size_list, KT.out.2.2.2.2.2]; exact KF.out.2 rfl
        have d1 : decide ((395 : Int) < (S1.size : Int) + (S2.size : Int)) = true := by rw [decide_eq_true_eq]; omega
        go_wp2
        go_ret
        exact ⟨rfl, K9.out.1.1⟩
    · have e2 : (eb != 0) = true := by rw [bne_iff_ne]; exact h2
      subst h1
      clear h2
      go_wp2
      go_ret
      exact ⟨rfl, K9.out.1.1⟩
  · have e1 : (ea != 0) = true := by rw [bne_iff_ne]; exact h1
    clear h1
    go_wp2
    go_ret
    exact ⟨rfl, K9.out.1.1⟩
end Go.Proofs.YtbadhhfnbgaamaaDoor
