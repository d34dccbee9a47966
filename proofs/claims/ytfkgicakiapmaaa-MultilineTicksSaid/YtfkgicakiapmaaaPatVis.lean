/- The contract of the checker's visit: the first error of a preorder traversal, the number of nodes and the names of the captures. -/
import Derived.Test.YtfkgicakiapmaaaPatChkNode
import Derived.Deep.RegionLaw
namespace Go.Proofs.Ytfkgicakiapmaaa
open Go.RowKit

theorem step_append_own {P : Program} {ops : Array Oper} {o : Oper} {a : Act} {w : World} {K : Act → World → Prop} {Q : Exit → Act → World → Prop} {E : Prop}
    (hg : o.guard = none) (s x : Operand) (t : TypeId) (hop : o.op = Op.call { callee := Callee.builtin Builtin.append, args := #[s, x], argTypes := #[t, t] })
    (base : Nat) (e : TypeId) (i : TypeInfo) (z : Value) (size bytes : Nat) (h1 : P.underlying t = some (.slice e)) (h2 : P.info? e = some i) (h3 : i.zero = some z) (h4 : i.size = size) (h5 : i.bytes = bytes) (h6 : z.cells.size = size) (h7 : 0 < size)
    (v : Value) (n : Nat) (xs : List Value) (hs : a.eval s = v) (hown : w.ownsRow base e size v n xs)
    (ad : Addr) (m c : Nat) (news : List Value) (hx : a.eval x = .slice (some ad) m c) (hn : news.length = m * size) (hc : ∀ j u, news[j]? = some u → w.cell? (ad.add j) = some u) (h1c : ∀ u ∈ news, u.oneCell' = true)
    (b1 : n + m ≤ maxLen) (b2 : (n + m) * bytes ≤ 140737488355328) (hbase : base ≤ w.heap.size)
    (hK : ∀ v' w', w'.ownsRow base e size v' (n + m) (xs ++ news) → w.grownBy w' v.ownBlock → (v'.ownBlock = v.ownBlock ∨ v'.ownBlock = some w.heap.size) → K (a.put o.dst v') w') :
    if Region.wanted o (yielded ops a.tmps) = true then Oper.wp P o a w K Q else E := by
  have hw : Region.wanted o (yielded ops a.tmps) = true := by simp [Region.wanted, hg]
  rw [if_pos hw]
  obtain ⟨v', w', hrun, r1, r2, _, r4⟩ := run_append_own_at (P := P) w base t o.type e i z size bytes h1 h2 h3 h4 h5 h6 h7 v n xs hown ad m c news hn hc h1c b1 b2 hbase
  unfold Oper.wp
  simp [execOp, hop, resolve, invoke, builtin, hs, hx, hrun, Result.andThen]
  exact hK v' w' r1 r2 r4

theorem Nd.induct {P : Nd → Prop} (h : ∀ op rs nm kids mn mx, (∀ k ∈ kids, P k) → P (.mk op rs nm kids mn mx)) : ∀ t, P t := fun t =>
  Nd.rec (motive_1 := P) (motive_2 := fun l => ∀ k ∈ l, P k) (fun op rs nm kids mn mx ih => h op rs nm kids mn mx ih) (by simp) (fun k r hk hr => by
    intro x hx
    rcases List.mem_cons.1 hx with rfl | hx
    · exact hk
    · exact hr x hx) t

/-- The checker in block C: the nodes and the names. -/
structure CkAt (base C k : Nat) (L : List ByteArray) (w : World) : Prop where
  lo : base ≤ C
  ex : ∃ nv, w.heap[C]? = some (.cells #[.int .i64 (k : Int), nv] 151 (0, 0)) ∧ w.ownsRow base 9 1 nv L.length (L.map Value.string) ∧ nv.ownBlock ≠ some C
  sz : ∀ x ∈ L, x.size ≤ maxLen
  le : L.length ≤ k
theorem CkAt.below {base C k : Nat} {L : List ByteArray} {w w' : World} (h : CkAt base C k L w) (hb : Below w.heap.size w w') : CkAt base C k L w' := by
  obtain ⟨nv, h1, h2, h3⟩ := h.ex
  have hlt : C < w.heap.size := (Array.getElem?_eq_some_iff.1 h1).1
  have hg : w.grownBy w' none := ⟨hb.os, hb.tape, hb.output, hb.size, fun i hi _ => hb.block i hi⟩
  exact ⟨h.lo, ⟨nv, (hb.block C hlt).trans h1, h2.kept hg (by cases nv.ownBlock <;> simp), h3⟩, h.sz, h.le⟩
theorem kids_at {lo : Nat} {w : World} : ∀ (l : List Nd) (b o : Nat), KidsIn lo w l b o → ∀ j (hj : j < l.length), ∃ ra rc ka kc, NodeIn lo w l[j] (.agg #[.int .i64 l[j].op, .slice ra l[j].rs.length rc, .string l[j].nm, .slice ka l[j].kids.length kc, .int .i64 l[j].mn, .int .i64 l[j].mx]) ∧
    w.cell? ⟨b, o + j * 6, none⟩ = some (.int .i64 l[j].op) ∧ w.cell? ⟨b, o + j * 6 + 1, none⟩ = some (.slice ra l[j].rs.length rc) ∧ w.cell? ⟨b, o + j * 6 + 2, none⟩ = some (.string l[j].nm) ∧ w.cell? ⟨b, o + j * 6 + 3, none⟩ = some (.slice ka l[j].kids.length kc) ∧ w.cell? ⟨b, o + j * 6 + 4, none⟩ = some (.int .i64 l[j].mn) ∧ w.cell? ⟨b, o + j * 6 + 5, none⟩ = some (.int .i64 l[j].mx)
  | [], _, _, _, j, hj => absurd hj (by simp)
  | t :: r, b, o, h, 0, _ => by
    unfold KidsIn at h
    obtain ⟨⟨op, rv, nm, kv, mn, mx, hn, c0, c1, c2, c3, c4, c5⟩, -⟩ := h
    obtain ⟨ra, rc, ka, kc, hs⟩ := hn.shape
    unfold ndVals at hs
    simp only [Value.agg.injEq, Array.mk.injEq, List.cons.injEq, and_true] at hs
    obtain ⟨e0, rfl, e2, rfl, e4, e5⟩ := hs
    unfold ndVals at hn
    rw [e0, e2, e4, e5] at hn
    rw [e0] at c0
    rw [e2] at c2
    rw [e4] at c4
    rw [e5] at c5
    simp only [Nat.zero_mul, Nat.add_zero, List.getElem_cons_zero]
    exact ⟨ra, rc, ka, kc, hn, c0, c1, c2, c3, c4, c5⟩
  | t :: r, b, o, h, j + 1, hj => by
    unfold KidsIn at h
    have := kids_at r b (o + 6) h.2 j (by simpa using hj)
    rw [show o + (j + 1) * 6 = o + 6 + j * 6 from by omega]
    simpa using this
theorem visAll_drop (l : List Nd) (j : Nat) (h : j < l.length) (d : Nat) (st : Nat × List ByteArray) :
    visAll (l.drop j) d st = if (visN l[j] d st).1 ≠ 0 then visN l[j] d st else visAll (l.drop (j + 1)) d (visN l[j] d st).2 := by
  rw [List.drop_eq_getElem_cons h, visAll]
theorem vis_le : ∀ (t : Nd) (d : Nat) (st : Nat × List ByteArray), (visN t d st).1 = 0 → (visN t d st).2.1 ≤ 400 := by
  refine Nd.induct fun op rs nm kids mn mx ih d st => ?_
  have hall : ∀ (l : List Nd), (∀ k ∈ l, k ∈ kids) → ∀ d (st : Nat × List ByteArray), st.1 ≤ 400 → (visAll l d st).1 = 0 → (visAll l d st).2.1 ≤ 400 := by
    intro l
    induction l with
    | nil => intro _ d st hs _; simpa [visAll] using hs
    | cons x r ihr =>
      intro hm d st hs
      rw [visAll]
      by_cases h : (visN x d st).1 ≠ 0
      · rw [if_pos h]; intro h0; exact absurd h0 h
      · rw [if_neg h]; exact ihr (fun k hk => hm k (by simp [hk])) d _ (ih x (hm x (by simp)) d st (by simpa using h))
  unfold visN
  by_cases h1 : 400 < st.1 + 1
  · rw [if_pos h1]; intro h; cases h
  rw [if_neg h1]
  by_cases h2 : 20 < d
  · rw [if_pos h2]; intro h; cases h
  rw [if_neg h2]
  by_cases h3 : nodeErr op rs nm kids.length mn mx ≠ 0
  · rw [if_pos h3]; intro h; exact absurd h h3
  rw [if_neg h3]
  exact hall kids (fun _ h => h) _ _ (by simp only; omega)
theorem CkAt.inc {base C k : Nat} {L : List ByteArray} {w : World} (h : CkAt base C k L w) (z : Int) (hz : z = ((k + 1 : Nat) : Int)) : CkAt base C (k + 1) L (w.setCell ⟨C, 0, none⟩ (.int .i64 z)) := by
  subst hz
  obtain ⟨nv, h1, h2, h3⟩ := h.ex
  refine ⟨h.lo, ⟨nv, ?_, ?_, h3⟩, h.sz, Nat.le_succ_of_le h.le⟩
  · simp only [World.setCell, Array.getElem?_modify, if_true, h1, Option.map_some]
    rfl
  · have hg : w.grownBy (w.setCell ⟨C, 0, none⟩ (.int .i64 ((k + 1 : Nat) : Int))) (some C) := ⟨rfl, rfl, rfl, by simp [World.setCell], fun i _ hne => Below.heap_setCell w ⟨C, 0, none⟩ _ i (by rintro rfl; exact hne rfl)⟩
    exact h2.kept hg (.inr h3)
theorem CkAt.snoc {base C k : Nat} {L : List ByteArray} {w w' : World} {nv v' : Value} {row : Option Nat} (x : ByteArray) (hx : x.size ≤ maxLen) (hlo : base ≤ C) (hle : L.length + 1 ≤ k) (hsz : ∀ x ∈ L, x.size ≤ maxLen) (hb : w.heap[C]? = some (.cells #[.int .i64 (k : Int), nv] 151 (0, 0)))
    (hg : w.grownBy w' row) (hr : row ≠ some C) (hown : w'.ownsRow base 9 1 v' (L.length + 1) (L.map Value.string ++ [.string x])) (hv : v'.ownBlock ≠ some C) : CkAt base C k (L ++ [x]) (w'.setCell ⟨C, 1, none⟩ v') := by
  have hlt : C < w.heap.size := (Array.getElem?_eq_some_iff.1 hb).1
  have hb' := (hg.block C hlt (fun e => hr e.symm)).trans hb
  refine ⟨hlo, ⟨v', ?_, ?_, hv⟩, ?_, by simpa using hle⟩
  · simp only [World.setCell, Array.getElem?_modify, if_true, hb', Option.map_some]
    rfl
  · rw [List.length_append, List.length_singleton, List.map_append]
    have hgs : w'.grownBy (w'.setCell ⟨C, 1, none⟩ v') (some C) := ⟨rfl, rfl, rfl, by simp [World.setCell], fun i _ hne => Below.heap_setCell w' ⟨C, 1, none⟩ _ i (by rintro rfl; exact hne rfl)⟩
    exact hown.kept hgs (.inr hv)
  · intro y hy
    rcases List.mem_append.1 hy with h | h
    · exact hsz y h
    · simp at h; rw [h]; exact hx
theorem CkAt.parts {base C k : Nat} {L : List ByteArray} {w : World} (h : CkAt base C k L w) : w.cell? ⟨C, 0, none⟩ = some (.int .i64 (k : Int)) ∧ w.frozen? ⟨C, 0, none⟩ = false ∧ C < w.heap.size := by
  obtain ⟨nv, h1, -, -⟩ := h.ex
  exact ⟨by rw [Lib.cell_of_heap h1]; rfl, Lib.frozen_of_heap h1 0, (Array.getElem?_eq_some_iff.1 h1).1⟩
/-- What visit does at a node. -/
def VisOk (t : Nd) : Prop :=
  ∀ (W0 : World) (v : Value) (d : Nat) (w : World) (C k : Nat) (L : List ByteArray), NodeIn 0 W0 t v → Below W0.heap.size W0 w → CkAt W0.heap.size C k L w → k ≤ 400 → d ≤ 21 →
    Calls Try.prog 72 #[.pointer (some ⟨C, 0, none⟩), v, .int .i64 (d : Int)] w fun e w' => e = .returned (.int .i64 (visN t d (k, L)).1) ∧ CkAt W0.heap.size C (visN t d (k, L)).2.1 (visN t d (k, L)).2.2 w' ∧ Below W0.heap.size W0 w'
theorem infoStr : (Try.prog.info? 9).map (fun i => (i.zero, i.size, i.bytes)) = some (some (.string ⟨#[]⟩), 1, 16) := by kernel_rfl

set_option maxRecDepth 100000 in
set_option maxHeartbeats 8000000 in
theorem visit_step (op : Int) (rs : List (Nat × Nat)) (nm : ByteArray) (kids : List Nd) (mn mx : Int) (ih : ∀ k ∈ kids, VisOk k) : VisOk (.mk op rs nm kids mn mx) := by
  intro W0 v d w C k L hn hbw hck hk hd
  unfold NodeIn at hn
  obtain ⟨rv, ka, kc, rfl, ho, h2, h3, h4, h5, hr, hks⟩ := hn
  have hrk := hr
  obtain ⟨ra, rc, rfl, -⟩ := hrk
  unfold ndVals
  unfold maxLen at h5
  have hcn := fun W hW => checkNode_any op ra ka rs rc kids.length kc nm mn mx W hW
  unfold visN
  simp only
  obtain ⟨er, her⟩ : ∃ er, nodeErr op rs nm kids.length mn mx = er := ⟨_, rfl⟩
  rw [her] at hcn ⊢
  have HI := Lib.hid (fun W (hW : Below W0.heap.size W0 W) => hr.keeps (keeps_below (lo := 0) hW))
  have HC := Lib.hid hcn
  clear hcn hr
  obtain ⟨c0, f0, hCl⟩ := hck.parts
  have hLk := hck.le
  obtain ⟨nv0, q1, q2, -⟩ := hck.ex
  have hq : Hid (∀ g, nv0.ownBlock = some g → g < w.heap.size) := fun g hg => (q2.lt g hg).2
  have hq1 : Hid (((w.setCell ⟨C, 0, none⟩ (.int .i64 ((k : Int) + 1))).alloc (.cells #[.int .i64 op, .slice ra rs.length rc, .string nm, .slice ka kids.length kc, .int .i64 mn, .int .i64 mx] 27)).heap[C]? = some (.cells #[.int .i64 ((k : Int) + 1), nv0] 151 (0, 0))) := by
    refine (Below.heap_alloc _ _ C (by rw [Go.Deep.nblk_setCell]; exact hCl)).trans ?_
    simp only [World.setCell, Array.getElem?_modify, if_true, q1, Option.map_some]
    rfl
  clear q1 q2
  have hw1 := (hck.inc ((k : Int) + 1) (by push_cast; rfl)).below ((Below.refl _ _).alloc (Nat.le_refl _) (.cells #[.int .i64 op, .slice ra rs.length rc, .string nm, .slice ka kids.length kc, .int .i64 mn, .int .i64 mx] 27))
  have hb1 : Below W0.heap.size W0 ((w.setCell ⟨C, 0, none⟩ (.int .i64 ((k : Int) + 1))).alloc (.cells #[.int .i64 op, .slice ra rs.length rc, .string nm, .slice ka kids.length kc, .int .i64 mn, .int .i64 mx] 27)) := (hbw.setCell (p := ⟨C, 0, none⟩) hck.lo _).alloc (by rw [Go.Deep.nblk_setCell]; exact hbw.size) _
  have hz0 := hbw.size
  have HCK := Lib.hid hw1
  have HKS := Lib.hid hks
  have HIH := Lib.hid ih
  clear hks ih hck hw1 her
  by_cases hA : 400 < k + 1
  · rw [if_pos hA]
    go_enter Try.func72, Try.ntmps72
    go_wp2
    go_ret
    exact ⟨rfl, HCK.out, hb1⟩
  rw [if_neg hA]
  by_cases hD : 20 < d
  · rw [if_pos hD]
    go_enter Try.func72, Try.ntmps72
    go_wp2
    go_ret
    exact ⟨rfl, HCK.out, hb1⟩
  rw [if_neg hD]
  have hS1 : SixAt ((w.setCell ⟨C, 0, none⟩ (.int .i64 ((k : Int) + 1))).alloc (.cells #[.int .i64 op, .slice ra rs.length rc, .string nm, .slice ka kids.length kc, .int .i64 mn, .int .i64 mx] 27)) w.heap.size (.int .i64 op) (.slice ra rs.length rc) (.string nm) (.slice ka kids.length kc) (.int .i64 mn) (.int .i64 mx) := by
    have := SixAt.new (w.setCell ⟨C, 0, none⟩ (.int .i64 ((k : Int) + 1))) (.int .i64 op) (.slice ra rs.length rc) (.string nm) (.slice ka kids.length kc) (.int .i64 mn) (.int .i64 mx) 27
    rw [Go.Deep.nblk_setCell] at this
    exact this
  obtain ⟨w1, hw1⟩ : ∃ w1, w1 = (w.setCell ⟨C, 0, none⟩ (.int .i64 ((k : Int) + 1))).alloc (.cells #[.int .i64 op, .slice ra rs.length rc, .string nm, .slice ka kids.length kc, .int .i64 mn, .int .i64 mx] 27) := ⟨_, rfl⟩
  have hcall := HC.out w1 (by rw [hw1]; exact HI.out _ hb1)
  rw [← hw1] at hb1 hS1 HCK
  have hz1 : w1.heap.size = w.heap.size + 1 := by rw [hw1]; simp [World.setCell]
  rw [hw1] at hcall
  have HCALL := Lib.hid hcall
  have HW1 := Lib.hid hw1
  have HS1 := Lib.hid hS1
  have HZ1 := Lib.hid hz1
  clear hcall hw1 HC HI hS1 hz1
  by_cases hE : er ≠ 0
  · rw [if_pos hE]
    have e1 : (er == 0) = false := by rw [beq_eq_false_iff_ne]; exact hE
    have e2 : (er != 0) = true := by rw [bne_iff_ne]; exact hE
    clear hE
    go_enter Try.func72, Try.ntmps72
    go_wp2_with fail
    refine (HCALL.out).mono ?_
    rw [← HW1.out]
    rintro e w2 ⟨rfl, hb2⟩
    go_wp2
    go_ret
    exact ⟨rfl, HCK.out.below hb2, hb1.trans (hb2.mono hb1.size)⟩
  rw [if_neg hE]
  obtain rfl : er = 0 := by simpa using hE
  clear hE
  by_cases h5 : op = 5
  · subst h5
    rw [if_pos rfl]
    obtain ⟨goal, hgoal⟩ : ∃ g, visAll kids (d + 1) (k + 1, L ++ [nm]) = g := ⟨_, rfl⟩
    rw [hgoal]
    have HG := Lib.hid hgoal
    clear hgoal
    obtain ⟨i0, hi, hz0', hz1', hz2'⟩ := info_parts infoStr
    go_enter Try.func72, Try.ntmps72
    go_wp2_with fail
    refine (HCALL.out).mono ?_
    rw [← HW1.out]
    rintro e w2 ⟨rfl, hb2⟩
    have hck2 := HCK.out.below hb2
    have hS2 : SixAt w2 w.heap.size (.int .i64 5) (.slice ra rs.length rc) (.string nm) (.slice ka kids.length kc) (.int .i64 mn) (.int .i64 mx) := by
      obtain ⟨ty, ht⟩ := HS1.out
      exact ⟨ty, (hb2.block _ (by rw [HZ1.out]; omega)).trans ht⟩
    obtain ⟨s0, s1, s2, s3, s4, s5⟩ := hS2.cells
    obtain ⟨nv, n1, n2, n3⟩ := hck2.ex
    have hnv : nv = nv0 := by
      have e0 := hq1.out
      rw [← HW1.out] at e0
      have e1 := (hb2.block C (by rw [HZ1.out]; omega)).trans e0
      have e2 := n1.symm.trans e1
      simp only [Option.some.injEq, Obj.cells.injEq, Array.mk.injEq, List.cons.injEq, and_true] at e2
      exact e2.2
    have hNN : Hid (nv.ownBlock ≠ some w.heap.size) := fun e => by
      rw [hnv] at e
      have := hq.out _ e
      omega
    clear hnv
    obtain ⟨na, nc, rfl⟩ : ∃ na nc, nv = .slice na L.length nc := by
      rcases n2.2 with ⟨hv, h0⟩ | ⟨g, cap, cur, hv, -⟩
      · exact ⟨none, 0, by rw [hv, h0]⟩
      · exact ⟨_, _, hv⟩
    have m0 : w2.cell? ⟨C, 0, none⟩ = some (.int .i64 ((k + 1 : Nat) : Int)) := by rw [Lib.cell_of_heap n1]; rfl
    have m1 : w2.cell? ⟨C, 1, none⟩ = some (.slice na L.length nc) := by rw [Lib.cell_of_heap n1]; rfl
    have hll := hck2.le
    have HO := Lib.hid (n2.alloc (.cells #[.string nm] 9))
    have HN1 := Lib.hid n1
    have HN3 := Lib.hid n3
    have hzw2 : W0.heap.size ≤ w2.heap.size := Nat.le_trans hb1.size hb2.size
    have HS2 := Lib.hid hS2
    have hC2 : C < w2.heap.size := (Array.getElem?_eq_some_iff.1 n1).1
    have hN2 : w.heap.size < w2.heap.size := hS2.lt
    clear hS2 n1 n2 n3
    go_wp2
    go_region_law ((refine step_append_own rfl (.tmp 37) (.tmp 40) 102 rfl W0.heap.size 9 i0 (.string ⟨#[]⟩) 1 16 Try.underlying102 hi hz0' hz1' hz2' rfl (by decide) (.slice na L.length nc) L.length _ (by simp [Act.eval]) HO.out ⟨w2.heap.size, 0, none⟩ 1 1 [.string nm] (by simp [Act.eval]) rfl (new_cells _ _ _) (by simp [Value.oneCell']) (by unfold maxLen; omega) (by omega) (by show W0.heap.size ≤ (w2.alloc _).heap.size; rw [Go.Deep.nblk_alloc]; omega) ?_; intro v' w3 hown3 hg3 hat3; have hb3 := (hg3.block C (by have := (Array.getElem?_eq_some_iff.1 HN1.out).1; simp; omega) (fun e => HN3.out e.symm)).trans ((Below.heap_alloc w2 _ C (Array.getElem?_eq_some_iff.1 HN1.out).1).trans HN1.out); have p0 : w3.cell? ⟨C, 1, none⟩ = some (.slice na L.length nc) := (by rw [Lib.cell_of_heap hb3]; rfl); have p1 : w3.frozen? ⟨C, 1, none⟩ = false := Lib.frozen_of_heap hb3 1; have HO3 := Lib.hid hown3; have HA3 := Lib.hid hat3; obtain ⟨g, cap, rfl⟩ : ∃ g cap, v' = .slice (some ⟨g, 0, none⟩) (L.length + 1) cap := (by rcases hown3.2 with ⟨_, h0⟩ | ⟨g, cap, cur, hv, _⟩; (omega); (exact ⟨g, cap, hv⟩)); clear hown3 hat3 hb3))
    all_goals
      have HB3 : Hid (Below W0.heap.size W0 w3) := ((hb1.trans (hb2.mono hb1.size)).alloc (Nat.le_trans hb1.size hb2.size) _).drew.grown hg3 (by simp; omega) (fun j hj => by
        have := HO.out.lt j hj
        exact this.1)
      have HCL : Hid (CkAt W0.heap.size C (k + 1) (L ++ [nm]) (w3.setCell ⟨C, 1, none⟩ (.slice (some ⟨g, 0, none⟩) (L.length + 1) cap))) :=
        CkAt.snoc (w := (w2.alloc (.cells #[.string nm] 9)).drew) nm h4 hck2.lo (by omega) hck2.sz ((Below.heap_alloc w2 _ C (Array.getElem?_eq_some_iff.1 HN1.out).1).trans HN1.out) hg3 HN3.out HO3.out (by
          rcases HA3.out with e | e
          · rw [e]; exact HN3.out
          · rw [e]; intro e2; have e3 : (w2.alloc (.cells #[.string nm] 9)).heap.size = C := Option.some.inj e2; rw [Go.Deep.nblk_alloc] at e3; omega)
      have HBL : Hid (Below W0.heap.size W0 (w3.setCell ⟨C, 1, none⟩ (.slice (some ⟨g, 0, none⟩) (L.length + 1) cap))) := HB3.out.setCell (p := ⟨C, 1, none⟩) hck2.lo _
      have hS3 : SixAt w3 w.heap.size (.int .i64 5) (.slice ra rs.length rc) (.string nm) (.slice ka kids.length kc) (.int .i64 mn) (.int .i64 mx) := by
        have hlt2 := HS2.out.lt
        obtain ⟨ty, ht⟩ := HS2.out
        exact ⟨ty, (hg3.block _ (by simp; omega) (fun e => hNN.out e.symm)).trans ((Below.heap_alloc w2 _ _ hlt2).trans ht)⟩
      obtain ⟨z0, z1, z2, z3, z4, z5⟩ := hS3.cells
      clear hS3 hg3
      go_wp2
      go_loopw [47] (fun i wr => ∃ (j kk : Nat) (LL : List ByteArray), j ≤ kids.length ∧ i = .int .i64 j ∧ Hid (visAll (kids.drop j) (d + 1) (kk, LL) = goal) ∧ CkAt W0.heap.size C kk LL wr ∧ kk ≤ 400 ∧ Below W0.heap.size W0 wr) (fun i _ => kids.length - (intOf i).toNat)
      case atStart => exact ⟨0, k + 1, _, by omega, rfl, by rw [List.drop_zero]; exact HG, HCL.out, by omega, HBL.out⟩
      case round =>
        obtain ⟨j, kk, LL, hj, rfl, HV, hckr, hkk, hbr⟩ := hrel
        by_cases hlt : j < kids.length
        · obtain ⟨b, o, rfl, hkid⟩ : ∃ b o, ka = some ⟨b, o, none⟩ ∧ KidsIn 0 W0 kids b o := by
            rcases HKS.out with h0 | ⟨b, o, ha, -, hk⟩
            · rw [h0] at hlt; simp at hlt
            · exact ⟨b, o, ha, hk⟩
          obtain ⟨qra, qrc, qka, qkc, hnk, b0, b1, b2, b3, b4, b5⟩ := kids_at kids b o hkid j hlt
          have kp := keeps_below (lo := 0) hbr
          have g0 := kp _ _ _ (Nat.zero_le _) b0
          have g1 := kp _ _ _ (Nat.zero_le _) b1
          have g2 := kp _ _ _ (Nat.zero_le _) b2
          have g3 := kp _ _ _ (Nat.zero_le _) b3
          have g4 := kp _ _ _ (Nat.zero_le _) b4
          have g5 := kp _ _ _ (Nat.zero_le _) b5
          have hst := visAll_drop kids j hlt (d + 1) (kk, LL)
          have hle := vis_le kids[j] (d + 1) (kk, LL)
          have hih := HIH.out kids[j] (List.getElem_mem hlt) W0 _ (d + 1) (wr.alloc (.cells #[.int .i64 kids[j].op, .slice qra kids[j].rs.length qrc, .string kids[j].nm, .slice qka kids[j].kids.length qkc, .int .i64 kids[j].mn, .int .i64 kids[j].mx] 27)) C kk LL hnk (hbr.alloc hbr.size _) (hckr.below ((Below.refl _ _).alloc (Nat.le_refl _) _)) hkk (by omega)
          have hmn := hnk
          unfold NodeIn at hmn
          obtain ⟨q, hq⟩ : ∃ q, kids[j] = q := ⟨_, rfl⟩
          rw [hq] at g0 g1 g2 g3 g4 g5 hst hle hih
          obtain ⟨er, hx⟩ : ∃ er, visN q (d + 1) (kk, LL) = er := ⟨_, rfl⟩
          rw [hx] at hst hle hih
          obtain ⟨er, k2, L2⟩ := er
          simp only at hst hle hih
          have HX := Lib.hid (And.intro hst hle)
          have HH := Lib.hid hih
          clear hst hle hih hx hq b0 b1 b2 b3 b4 b5 hnk hmn kp hkid
          go_wp2_with fail
          refine (HH.out).mono ?_
          rintro e w5 ⟨rfl, hck5, hb5⟩
          by_cases h0 : er = 0
          · subst h0
            have hv : Hid (visAll (kids.drop (j + 1)) (d + 1) (k2, L2) = goal) := by
              have := HX.out.1
              rw [if_neg (by simp)] at this
              exact this.symm.trans HV.out
            have hk2 := HX.out.2 rfl
            go_wp2
            go_roundw
            case rel => exact ⟨j + 1, k2, L2, by omega, by simp, hv, hck5, hk2, hb5⟩
            case measure => simp [intOf]; omega
          · have hv : (er, k2, L2) = goal := by
              have := HX.out.1
              rw [if_pos h0] at this
              exact this.symm.trans HV.out
            subst hv
            have e1 : (er == 0) = false := by rw [beq_eq_false_iff_ne]; exact h0
            have e2 : (er != 0) = true := by rw [bne_iff_ne]; exact h0
            clear h0 HG
            go_wp2
            go_ret
            exact ⟨rfl, hck5, hb5⟩
        · obtain rfl : j = kids.length := by omega
          have hv : (0, kk, LL) = goal := by
            have := HV.out
            rw [List.drop_length, visAll] at this
            exact this
          subst hv
          clear HG HV
          go_wp2
          go_ret
          exact ⟨rfl, hckr, hbr⟩
  · rw [if_neg h5]
    obtain ⟨goal, hgoal⟩ : ∃ g, visAll kids (d + 1) (k + 1, L) = g := ⟨_, rfl⟩
    rw [hgoal]
    have HG := Lib.hid hgoal
    have e5 : (op == 5) = false := by rw [beq_eq_false_iff_ne]; exact h5
    clear hgoal h5 hq hq1
    go_enter Try.func72, Try.ntmps72
    go_wp2_with fail
    refine (HCALL.out).mono ?_
    rw [← HW1.out]
    rintro e w2 ⟨rfl, hb2⟩
    have HCL := Lib.hid (HCK.out.below hb2)
    have HBL := Lib.hid (hb1.trans (hb2.mono hb1.size))
    have hS2 : SixAt w2 w.heap.size (.int .i64 op) (.slice ra rs.length rc) (.string nm) (.slice ka kids.length kc) (.int .i64 mn) (.int .i64 mx) := by
      obtain ⟨ty, ht⟩ := HS1.out
      exact ⟨ty, (hb2.block _ (by rw [HZ1.out]; omega)).trans ht⟩
    obtain ⟨z0, z1, z2, z3, z4, z5⟩ := hS2.cells
    clear hS2
    go_wp2
    go_loopw [47] (fun i wr => ∃ (j kk : Nat) (LL : List ByteArray), j ≤ kids.length ∧ i = .int .i64 j ∧ Hid (visAll (kids.drop j) (d + 1) (kk, LL) = goal) ∧ CkAt W0.heap.size C kk LL wr ∧ kk ≤ 400 ∧ Below W0.heap.size W0 wr) (fun i _ => kids.length - (intOf i).toNat)
    case atStart => exact ⟨0, k + 1, _, by omega, rfl, by rw [List.drop_zero]; exact HG, HCL.out, by omega, HBL.out⟩
    case round =>
      obtain ⟨j, kk, LL, hj, rfl, HV, hckr, hkk, hbr⟩ := hrel
      by_cases hlt : j < kids.length
      · obtain ⟨b, o, rfl, hkid⟩ : ∃ b o, ka = some ⟨b, o, none⟩ ∧ KidsIn 0 W0 kids b o := by
          rcases HKS.out with h0 | ⟨b, o, ha, -, hk⟩
          · rw [h0] at hlt; simp at hlt
          · exact ⟨b, o, ha, hk⟩
        obtain ⟨qra, qrc, qka, qkc, hnk, b0, b1, b2, b3, b4, b5⟩ := kids_at kids b o hkid j hlt
        have kp := keeps_below (lo := 0) hbr
        have g0 := kp _ _ _ (Nat.zero_le _) b0
        have g1 := kp _ _ _ (Nat.zero_le _) b1
        have g2 := kp _ _ _ (Nat.zero_le _) b2
        have g3 := kp _ _ _ (Nat.zero_le _) b3
        have g4 := kp _ _ _ (Nat.zero_le _) b4
        have g5 := kp _ _ _ (Nat.zero_le _) b5
        have hst := visAll_drop kids j hlt (d + 1) (kk, LL)
        have hle := vis_le kids[j] (d + 1) (kk, LL)
        have hih := HIH.out kids[j] (List.getElem_mem hlt) W0 _ (d + 1) (wr.alloc (.cells #[.int .i64 kids[j].op, .slice qra kids[j].rs.length qrc, .string kids[j].nm, .slice qka kids[j].kids.length qkc, .int .i64 kids[j].mn, .int .i64 kids[j].mx] 27)) C kk LL hnk (hbr.alloc hbr.size _) (hckr.below ((Below.refl _ _).alloc (Nat.le_refl _) _)) hkk (by omega)
        have hmn := hnk
        unfold NodeIn at hmn
        obtain ⟨q, hq⟩ : ∃ q, kids[j] = q := ⟨_, rfl⟩
        rw [hq] at g0 g1 g2 g3 g4 g5 hst hle hih
        obtain ⟨er, hx⟩ : ∃ er, visN q (d + 1) (kk, LL) = er := ⟨_, rfl⟩
        rw [hx] at hst hle hih
        obtain ⟨er, k2, L2⟩ := er
        simp only at hst hle hih
        have HX := Lib.hid (And.intro hst hle)
        have HH := Lib.hid hih
        clear hst hle hih hx hq b0 b1 b2 b3 b4 b5 hnk hmn kp hkid
        go_wp2_with fail
        refine (HH.out).mono ?_
        rintro e w5 ⟨rfl, hck5, hb5⟩
        by_cases h0 : er = 0
        · subst h0
          have hv : Hid (visAll (kids.drop (j + 1)) (d + 1) (k2, L2) = goal) := by
            have := HX.out.1
            rw [if_neg (by simp)] at this
            exact this.symm.trans HV.out
          have hk2 := HX.out.2 rfl
          go_wp2
          go_roundw
          case rel => exact ⟨j + 1, k2, L2, by omega, by simp, hv, hck5, hk2, hb5⟩
          case measure => simp [intOf]; omega
        · have hv : (er, k2, L2) = goal := by
            have := HX.out.1
            rw [if_pos h0] at this
            exact this.symm.trans HV.out
          subst hv
          have e1 : (er == 0) = false := by rw [beq_eq_false_iff_ne]; exact h0
          have e2 : (er != 0) = true := by rw [bne_iff_ne]; exact h0
          clear h0 HG
          go_wp2
          go_ret
          exact ⟨rfl, hck5, hb5⟩
      · obtain rfl : j = kids.length := by omega
        have hv : (0, kk, LL) = goal := by
          have := HV.out
          rw [List.drop_length, visAll] at this
          exact this
        subst hv
        clear HG HV
        go_wp2
        go_ret
        exact ⟨rfl, hckr, hbr⟩

/-- visit at every node. -/
theorem visit_any : ∀ t, VisOk t := Nd.induct visit_step
end Go.Proofs.Ytfkgicakiapmaaa
