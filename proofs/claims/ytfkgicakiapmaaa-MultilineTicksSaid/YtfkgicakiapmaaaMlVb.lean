/- Package multiline: the iterator add$1, where the start is empty. Package multiline: the iterator add$1, where the line is too long. -/
import Derived.Test.YtfkgicakiapmaaaMlVa
namespace Go.Proofs.Ytfkgicakiapmaaa
open Go Go.RowKit
attribute [local go_sem] Oper.semAt_some
variable {d Bl Ba Bs Bn : Nat} {v : Value} {s now : Int} {opn : List LnV} {x : LnV} {dmg : Int} {rs : List (Nat × Nat)} {ra : Option Addr} {rc : Nat} {w : World} {m : ByteArray → Bool}

/-- The block of a line of its own, at the yield. -/
theorem one_yield {l n0 N : Nat} {J : List BkV → World → Prop} (rule : ByteArray) (off len : Int) (txt : ByteArray) (pre : List BkV) (hJ : StJ n0 (fun k => k = d) J) (hY : YOk N l n0 J) (hlen : pre.length < N) (W : World) (hn : n0 ≤ W.heap.size) (h0 : J pre W) (B : Nat) (hB : BkAt B 46 #[.int .i64 off, .int .i64 len, .string txt] W) :
    ∀ w4, Below W.heap.size W w4 → YieldAt Fence.wide 8 Try.prog l #[.agg #[.int .i64 off, .int .i64 (off + len), .slice (some ⟨B, 0, none⟩) 1 1, .string rule]] w4 fun e W' => e = .returned (.bool true) ∧ J (pre ++ [⟨.slice (some ⟨B, 0, none⟩) 1 1, mkB rule [⟨off, len, txt⟩]⟩]) W' ∧ KpB n0 w4 W' ∧ LnsAt (.slice (some ⟨B, 0, none⟩) 1 1) [⟨off, len, txt⟩] W' := by
  intro w4 hb
  have hl : LnsAt (.slice (some ⟨B, 0, none⟩) 1 1) [⟨off, len, txt⟩] w4 := lns_one (hB.below hb)
  obtain ⟨fn, tm, u1, bo, hy, hR⟩ := hY pre ⟨.slice (some ⟨B, 0, none⟩) 1 1, mkB rule [⟨off, len, txt⟩]⟩ w4 (hJ.bl h0 hn hb) hl hlen 8
  refine ⟨fn, tm, u1, bo, hy, hR.mono ?_⟩
  rintro e W' ⟨rfl, h1, h2⟩
  exact ⟨rfl, h1, h2, h2.lns hl⟩
theorem one_block (rule : ByteArray) (off len : Int) (txt : ByteArray) (hx : OkL ⟨off, len, txt⟩) (W : World) (B : Nat) (hB : BkAt B 46 #[.int .i64 off, .int .i64 len, .string txt] W) :
    Calls Try.prog 31 #[.string rule, .slice (some ⟨B, 0, none⟩) 1 1] W fun e w' => e = .returned (.agg #[.int .i64 off, .int .i64 (off + len), .slice (some ⟨B, 0, none⟩) 1 1, .string rule]) ∧ Below W.heap.size W w' :=
  block_any rule _ [⟨off, len, txt⟩] (by simp) ⟨by simp, fun y hy => by simp only [List.mem_singleton] at hy; subst hy; exact hx⟩ W (lns_one hB)

set_option maxRecDepth 100000 in
set_option maxHeartbeats 4000000 in
theorem add1_emp (h : AdW d Bl Ba Bs Bn v s now opn x dmg false 0 rs ra rc w) (n0 : Nat) :
    SeqM 2 n0 30 #[] #[.pointer (some ⟨Bl, 0, none⟩), .pointer (some ⟨Ba, 0, none⟩), .pointer (some ⟨Bs, 0, none⟩), .pointer (some ⟨Bn, 0, none⟩)] (fun k => k = d) (AdS d [mkB ⟨#[]⟩ [x]] opn s) w := by
  intro l J W hW hn hJ hY h0
  have hA := h.below hW
  clear h hW
  obtain ⟨off, len, txt⟩ := x
  refine callsIn_of_wp_marks Try.func30 rfl trivial ?_ rfl
  simp only [Try.ntmps30, List.size_toArray, List.length_cons, List.length_nil, Nat.reduceAdd, Nat.reduceSub, Array.replicate_succ, Array.replicate_zero, List.push_toArray, List.append_toArray, List.nil_append, List.cons_append]
  have a0 : W.cell? ⟨Bl, 0, none⟩ = some (.int .i64 off) := hA.bl.cell 0
  have a1 : W.cell? ⟨Bl, 1, none⟩ = some (.int .i64 len) := hA.bl.cell 1
  have a2 : W.cell? ⟨Bl, 2, none⟩ = some (.string txt) := hA.bl.cell 2
  have a4 : W.cell? ⟨Bl, 4, none⟩ = some (.bool false) := hA.bl.cell 4
  have c0 : W.cell? ⟨Bs, 0, none⟩ = some (.int .i64 0) := hA.bs.cell 0
  have l0 := hA.bl.lt
  have l2 := hA.bs.lt
  obtain ⟨O1, hO1⟩ : ∃ o, Obj.cells #[.func (.yield l) #[] #[]] 86 = o := ⟨_, rfl⟩
  obtain ⟨O2, hO2⟩ : ∃ o, Obj.cells #[.int .i64 off, .int .i64 len, .string txt] 46 = o := ⟨_, rfl⟩
  have hb0 : Below W.heap.size W ((W.alloc O1).alloc O2) := ((Below.refl _ W).alloc (Nat.le_refl _) _).alloc (by simp) _
  have hk1 : BkAt W.heap.size 86 #[.func (.yield l) #[] #[]] ((W.alloc O1).alloc O2) := by rw [← hO1]; exact (BkAt.new _ _ _).below (below_new _ _)
  have hk2 : BkAt (W.heap.size + 1) 46 #[.int .i64 off, .int .i64 len, .string txt] ((W.alloc O1).alloc O2) := by
    have q := BkAt.new 46 #[.int .i64 off, .int .i64 len, .string txt] (W.alloc O1)
    rw [hO2, World.size_alloc] at q
    exact q
  have hA2 := hA.below hb0
  have hk3 : BkAt (W.heap.size + 1 + 1) 46 #[.int .i64 off, .int .i64 len, .string txt] (((W.alloc O1).alloc O2).alloc (.cells #[.int .i64 off, .int .i64 len, .string txt] 46)).drew := by
    have q := BkAt.new 46 #[.int .i64 off, .int .i64 len, .string txt] ((W.alloc O1).alloc O2)
    rw [World.size_alloc, World.size_alloc] at q
    exact q
  have hb3 : Below W.heap.size W (((W.alloc O1).alloc O2).alloc (.cells #[.int .i64 off, .int .i64 len, .string txt] 46)).drew := (bl_trans' hb0 (below_new _ _)).drew
  have hyy := one_yield (d := d) ⟨#[]⟩ off len txt [] hJ hY (by simp) _ (Nat.le_trans hn hb3.size) (hJ.bl h0 hn hb3) _ hk3
  have hbb := one_block ⟨#[]⟩ off len txt hA.ox _ _ hk3
  have y0 : ((W.alloc O1).alloc O2).cell? ⟨W.heap.size, 0, none⟩ = some (.func (.yield l) #[] #[]) := hk1.cell 0
  have q0 : ((W.alloc O1).alloc O2).cell? ⟨W.heap.size + 1, 0, none⟩ = some (.int .i64 off) := hk2.cell 0
  have q1 : ((W.alloc O1).alloc O2).cell? ⟨W.heap.size + 1, 1, none⟩ = some (.int .i64 len) := hk2.cell 1
  have q2 : ((W.alloc O1).alloc O2).cell? ⟨W.heap.size + 1, 2, none⟩ = some (.string txt) := hk2.cell 2
  have hy1 : BkAt W.heap.size 86 #[.func (.yield l) #[] #[]] (((W.alloc O1).alloc O2).alloc (.cells #[.int .i64 off, .int .i64 len, .string txt] 46)).drew := hk1.below ((below_new _ _).drew)
  have H := Lib.hid (And.intro hyy (And.intro hbb (And.intro hb3 (And.intro hA hy1))))
  clear hJ hY h0 hn hA hb0 hk1 hk2 hk3 hb3 hA2 hyy hbb hy1
  gi_wp2_with fail
  have mixed : Try.prog.follows .mixedOrders = true := by kernel_rfl
  clear hO1 hO2
  gi_region_with_o (first
    | (refine ⟨trivial, ?_⟩; gi_at_call 31; refine (callsIn_wide.2 H.out.2.1).mono ?_; rintro e w4 ⟨rfl, hb4⟩
       obtain ⟨fn, tm, u1, bo, hy, hRd⟩ := H.out.1 w4 hb4
       have HR := Lib.hid hRd
       have HB4 := Lib.hid (bl_trans' H.out.2.2.1 hb4)
       have y4 : w4.cell? ⟨W.heap.size, 0, none⟩ = some (.func (.yield l) #[] #[]) := (H.out.2.2.2.2.below hb4).cell 0
       clear hRd hb4)
    | (refine HR.out.mono ?_; rintro e w5 ⟨rfl, hJ5, hk5, hl5⟩; have H5 := Lib.hid (And.intro hJ5 (And.intro hk5 hl5)); clear hJ5 hk5 hl5))
  all_goals
    have hA5 := H.out.2.2.2.1.below HB4.out
    have hs5 : AsAt d v s w5 := H5.out.2.1.bk hA5.st (by decide) (by decide)
    have hl5 := H5.out.2.1.lns hA5.ls
    refine ⟨_, results_none rfl _ _ _, ?_⟩
    refine ⟨⟨_, rfl⟩, [⟨.slice (some ⟨W.heap.size + 1 + 1, 0, none⟩) 1 1, mkB ⟨#[]⟩ [⟨off, len, txt⟩]⟩], ⟨rfl, ⟨v, hs5, hl5, hA5.nl⟩, fun b hb => ?_⟩, H5.out.1⟩
    simp only [List.mem_singleton] at hb
    subst hb
    exact H5.out.2.2
end Go.Proofs.Ytfkgicakiapmaaa

namespace Go.Proofs.Ytfkgicakiapmaaa
open Go Go.RowKit
attribute [local go_sem] Oper.semAt_some
variable {d Bl Ba Bs Bn : Nat} {v : Value} {s now : Int} {opn : List LnV} {x : LnV} {dmg op : Int} {rs : List (Nat × Nat)} {ra : Option Addr} {rc : Nat} {w : World} {m : ByteArray → Bool}

theorem RoundIn.inR {k k' : Nat} {l l2 : Nat} {f : FuncId} {tmps : Array Value} {u1 bo : Code} {w : World} {R : Ending → World → Prop} (h : RoundIn Fence.wide k Try.prog l f tmps u1 bo w R) : RoundIn (Fence.wide.inRound l2) k' Try.prog l f tmps u1 bo w R :=
  ⟨h.1, fun c cs _ => h.2 c cs (fun d e => by cases e)⟩
theorem FlS.put {d : Nat} {v : Value} {s : Int} {opn : List LnV} {xs : List BkV} {W : World} (h : FlS d v s opn xs W) {l : Nat} {o : Obj} (o' : Obj) (h1 : W.heap[l]? = some o) (h2 : o.isCells = false) : FlS d v s opn xs (W.putObj l o') := by
  rcases h with ⟨a, b, c⟩ | ⟨a, b, c, e⟩
  · exact .inl ⟨a, b, bk_putO c o' h1 h2⟩
  · exact .inr ⟨a, b, bk_putO c o' h1 h2, row_putO e o' h1 h2⟩
def tlF (l Bl Ba Bs Bn n d : Nat) (off len : Int) (txt : ByteArray) (b y : Value) : Act :=
  { tmps := #[.func (.yield l) #[] #[], .pointer (some ⟨Bl, 0, none⟩), .pointer (some ⟨Ba, 0, none⟩), .pointer (some ⟨Bs, 0, none⟩), .pointer (some ⟨Bn, 0, none⟩), .pointer (some ⟨n, 0, none⟩), .pointer (some ⟨n + 1, 0, none⟩), b,
      .pointer (some ⟨Bl, 0, none⟩), .int .i64 off, .pointer (some ⟨Bl, 1, none⟩), .int .i64 len, .pointer (some ⟨Bl, 2, none⟩), .string txt, .agg #[.int .i64 off, .int .i64 len, .string txt], undef, undef, undef, undef, undef, undef, undef, undef, undef, undef, undef, undef, .bool true,
      .pointer (some ⟨Bl, 4, none⟩), .bool true, .pointer (some ⟨n + 1, 2, none⟩), .pointer (some ⟨d, 0, none⟩), .func (.func 20) #[.pointer (some ⟨d, 0, none⟩)] #[], y, undef, undef, undef, undef, undef, undef, undef, undef, undef, undef, undef, undef, undef, undef, undef, undef, undef, undef], defers := [] }
set_option maxRecDepth 100000 in
set_option maxHeartbeats 4000000 in
theorem add1_tl (h : AdW d Bl Ba Bs Bn v s now opn x dmg true op rs ra rc w) (n0 : Nat) :
    SeqM 2 n0 30 #[] #[.pointer (some ⟨Bl, 0, none⟩), .pointer (some ⟨Ba, 0, none⟩), .pointer (some ⟨Bs, 0, none⟩), .pointer (some ⟨Bn, 0, none⟩)] (fun k => k = d) (AdS d (flB opn ++ [mkB tlR [⟨x.off, x.len, ⟨#[]⟩⟩]]) [] s) w := by
  intro l J W hW hn hJ hY h0
  have hA := h.below hW
  clear h hW
  obtain ⟨off, len, txt⟩ := x
  refine callsIn_of_wp_marks Try.func30 rfl trivial ?_ rfl
  simp only [Try.ntmps30, List.size_toArray, List.length_cons, List.length_nil, Nat.reduceAdd, Nat.reduceSub, Array.replicate_succ, Array.replicate_zero, List.push_toArray, List.append_toArray, List.nil_append, List.cons_append]
  have a0 : W.cell? ⟨Bl, 0, none⟩ = some (.int .i64 off) := hA.bl.cell 0
  have a1 : W.cell? ⟨Bl, 1, none⟩ = some (.int .i64 len) := hA.bl.cell 1
  have a2 : W.cell? ⟨Bl, 2, none⟩ = some (.string txt) := hA.bl.cell 2
  have a4 : W.cell? ⟨Bl, 4, none⟩ = some (.bool true) := hA.bl.cell 4
  have b0 : W.cell? ⟨Ba, 0, none⟩ = some (.pointer (some ⟨d, 0, none⟩)) := hA.ba.cell 0
  have l0 := hA.bl.lt
  have l1 := hA.ba.lt
  have hdW : d < W.heap.size := hA.st.lt
  have H := Lib.hid (And.intro hJ (And.intro hY (And.intro hn (And.intro h0 hA))))
  clear hJ hY h0 hn hA
  gi_wp2_with fail
  obtain ⟨W1, hW1⟩ : ∃ x, (W.alloc (.cells #[.func (.yield l) #[] #[]] 86)).alloc (.cells #[.int .i64 off, .int .i64 len, .string ⟨#[]⟩] 46) = x := ⟨_, rfl⟩
  have hb1 : Below W.heap.size W W1 := by rw [← hW1]; exact ((Below.refl _ W).alloc (Nat.le_refl _) _).alloc (by simp) _
  have hs1 : W1.heap.size = W.heap.size + 2 := by rw [← hW1]; simp
  have hk1 : BkAt W.heap.size 86 #[.func (.yield l) #[] #[]] W1 := by rw [← hW1]; exact (BkAt.new _ _ _).below (below_new _ _)
  have hk2 : BkAt (W.heap.size + 1) 46 #[.int .i64 off, .int .i64 len, .string ⟨#[]⟩] W1 := by
    have q := BkAt.new 46 #[.int .i64 off, .int .i64 len, .string ⟨#[]⟩] (W.alloc (.cells #[.func (.yield l) #[] #[]] 86))
    rw [World.size_alloc] at q
    rw [← hW1]
    exact q
  rw [hW1]
  have hA1 := H.out.2.2.2.2.below hb1
  have hJ1 := H.out.1.bl H.out.2.2.2.1 H.out.2.2.1 hb1
  obtain ⟨L, hLe⟩ : ∃ L : List (Nat × TypeId × Array Value), [(W.heap.size, 86, #[.func (.yield l) #[] #[]]), (W.heap.size + 1, 46, #[.int .i64 off, .int .i64 len, .string ⟨#[]⟩])] = L := ⟨_, rfl⟩
  have hL : Bks L W1 := by
    rw [← hLe]
    intro t ht
    simp only [List.mem_cons, List.not_mem_nil, or_false] at ht
    rcases ht with rfl | rfl
    · exact hk1
    · exact hk2
  have hT : ∀ t ∈ L, t.2.1 ≠ 44 ∧ t.2.1 ≠ 36 := by
    rw [← hLe]
    intro t ht
    simp only [List.mem_cons, List.not_mem_nil, or_false] at ht
    rcases ht with rfl | rfl <;> exact ⟨by dsimp only; decide, by dsimp only; decide⟩
  have hB : ∀ t ∈ L, t.1 < W1.heap.size + 2 ∧ ¬ (fun k => k = d) t.1 := by
    rw [← hLe]
    intro t ht
    simp only [List.mem_cons, List.not_mem_nil, or_false] at ht
    rcases ht with rfl | rfl
    · exact ⟨by dsimp only; omega, by dsimp only; omega⟩
    · exact ⟨by dsimp only; omega, by dsimp only; omega⟩
  have hLk : ∀ V, Bks L V → BkAt W.heap.size 86 #[.func (.yield l) #[] #[]] V ∧ BkAt (W.heap.size + 1) 46 #[.int .i64 off, .int .i64 len, .string ⟨#[]⟩] V := by
    rw [← hLe]
    intro V hV
    exact ⟨hV _ (.head _), hV _ (.tail _ (.head _))⟩
  have hn1 : n0 ≤ W1.heap.size := by have := H.out.2.2.1; omega
  have H1 := Lib.hid (And.intro hL (And.intro hT (And.intro hB (And.intro hn1 (And.intro hJ1 (And.intro hA1 hLk))))))
  clear hL hT hB hn1 hJ1 hA1 hLe hLk hW1 hk1 hk2 a0 a1 a2 a4 b0
  refine wpIn_rangeM (by omega) (gf := 20) (la := #[.pointer (some ⟨d, 0, none⟩)]) (lb := #[]) rfl (enters_of Try.func20 (by kernel_rfl) rfl) rfl (PI := fun k => k = d) (S := FlS d v s opn) (N := 1)
    (flush_seq d v s opn W1 H1.out.2.2.2.2.2.1.st H1.out.2.2.2.2.2.1.ls H1.out.2.2.2.2.2.1.ok _) (fun pre W => J pre W ∧ Bks L W) (H.out.1.bks (by have := H1.out.2.2.2.1; omega) H1.out.2.2.1) ?_ ?_ ?_
    (fun x a' V => ∃ b, a' = tlF l Bl Ba Bs Bn W.heap.size d off len txt (.pointer (some ⟨b, 0, none⟩)) (.agg #[.int .i64 x.p.fr, .int .i64 x.p.en, x.sl, .string x.p.rule]) ∧ BkAt b 44 #[.int .i64 x.p.fr, .int .i64 x.p.en, x.sl, .string x.p.rule] V ∧ ElB x V) ?_ ?assign ?body ?done
  · rintro s V q o o' ⟨h1, h2⟩ hq h3 h4
    exact ⟨H.out.1.put h1 o' (by have := H1.out.2.2.2.1; omega) h3 h4, h2.putO o' h3 h4⟩
  · intro V hV
    exact ⟨H.out.1.bl H1.out.2.2.2.2.1 H1.out.2.2.2.1 hV, H1.out.1.below hV⟩
  · rintro k rfl
    omega
  · rintro x a' V q o o' ⟨b, rfl, hb, hx⟩ hq h3 h4
    exact ⟨b, rfl, bk_putO hb o' h3 h4, row_putO hx o' h3 h4⟩
  case assign =>
    rintro q m pre ⟨xs, fr, en, rule, ls⟩ V K ⟨hj, hbk⟩ hel hlen hK
    obtain ⟨c, n, k, hxe⟩ : ∃ c n k, xs = .slice c n k := row_slice hel
    subst hxe
    dsimp only [bkE]
    have HV := Lib.hid (And.intro hj (And.intro hbk (And.intro hel hK)))
    clear hj hbk hel hK
    gi_wp2
    refine HV.out.2.2.2 _ _ (KpB.alloc _ _ _) ⟨H.out.1.bl HV.out.1 (by have h1 := (H1.out.2.2.2.2.2.2 V HV.out.2.1).1.lt; have h2 := H.out.2.2.1; omega) (below_new _ _), HV.out.2.1.below (below_new _ _)⟩ ⟨V.heap.size, ?_, BkAt.new _ _ _, LnsAt.below HV.out.2.2.1 (below_new _ _)⟩
    unfold tlF
    rfl
  case body =>
    rintro q m pre ⟨xs, fr, en, rule, ls⟩ a' V hq hqr ⟨hj, hbk⟩ ⟨b, rfl, hb, hel⟩ hlen
    obtain ⟨c, n, k, hxe⟩ : ∃ c n k, xs = .slice c n k := row_slice hel
    subst hxe
    simp only at hb
    have y0 : V.cell? ⟨W.heap.size, 0, none⟩ = some (.func (.yield l) #[] #[]) := (H1.out.2.2.2.2.2.2 V hbk).1.cell 0
    have e1 : V.cell? ⟨b, 0, none⟩ = some (.int .i64 fr) := hb.cell 0
    have e2 : V.cell? ⟨b, 1, none⟩ = some (.int .i64 en) := hb.cell 1
    have e3 : V.cell? ⟨b, 2, none⟩ = some (.slice c n k) := hb.cell 2
    have e4 : V.cell? ⟨b, 3, none⟩ = some (.string rule) := hb.cell 3
    obtain ⟨fn, tm, u1, bo, hy, hRd⟩ := H.out.2.1 pre ⟨.slice c n k, fr, en, rule, ls⟩ V hj hel (by omega) 8
    have HR := Lib.hid (And.intro hRd hbk)
    clear hRd hj hbk hel hb hqr
    unfold tlF
    dsimp only [bkE] at hy ⊢
    gi_wp2_with fail
    refine ⟨(fun e => by cases e), (RoundIn.inR HR.out.1).mono ?_⟩
    rintro e V5 ⟨rfl, hj5, hk5⟩
    have H5 := Lib.hid (And.intro hj5 hk5)
    clear hj5 hk5
    gi_wp2
    exact ⟨H5.out.2.mono (H1.out.2.2.2.1), H5.out.1, HR.out.2.kp H5.out.2 H1.out.2.1⟩
  case done =>
    rintro D q o o' xs V hD hq h1 h2 hxs ⟨hj, hbk⟩ hDd
    obtain ⟨hxp, hst, hel⟩ := (hxs.put o' h1 h2).out H1.out.2.2.2.2.2.1.nl
    have hxl : xs.length < 2 := by
      have := congrArg List.length hxp
      rw [List.length_map] at this
      rw [this]
      unfold flB
      split <;> simp
    obtain ⟨V2, hV2⟩ : ∃ y, V.putObj q o' = y := ⟨_, rfl⟩
    rw [hV2] at hj hbk hDd hst hel ⊢
    clear hxs hV2 h1 h2
    obtain ⟨hk1, hk2⟩ := H1.out.2.2.2.2.2.2 V2 hbk
    have hnV : n0 ≤ V2.heap.size := by have h1 := hk1.lt; have h2 := H.out.2.2.1; omega
    have hk3 : BkAt V2.heap.size 46 #[.int .i64 off, .int .i64 len, .string ⟨#[]⟩] (V2.alloc (.cells #[.int .i64 off, .int .i64 len, .string ⟨#[]⟩] 46)).drew := BkAt.new 46 #[.int .i64 off, .int .i64 len, .string ⟨#[]⟩] V2
    have hb3 : Below V2.heap.size V2 (V2.alloc (.cells #[.int .i64 off, .int .i64 len, .string ⟨#[]⟩] 46)).drew := (below_new _ _).drew
    have hox : OkL ⟨off, len, ⟨#[]⟩⟩ := H1.out.2.2.2.2.2.1.ox
    have hyy := one_yield (d := d) tlR off len ⟨#[]⟩ xs H.out.1 H.out.2.1 hxl _ (Nat.le_trans hnV hb3.size) (H.out.1.bl hj hnV hb3) _ hk3
    have hbb := one_block tlR off len ⟨#[]⟩ hox _ _ hk3
    have hy1 := hk1.below hb3
    have y0 : V2.cell? ⟨W.heap.size, 0, none⟩ = some (.func (.yield l) #[] #[]) := hk1.cell 0
    have q0 : V2.cell? ⟨W.heap.size + 1, 0, none⟩ = some (.int .i64 off) := hk2.cell 0
    have q1 : V2.cell? ⟨W.heap.size + 1, 1, none⟩ = some (.int .i64 len) := hk2.cell 1
    have q2 : V2.cell? ⟨W.heap.size + 1, 2, none⟩ = some (.string ⟨#[]⟩) := hk2.cell 2
    have g1 := hk1.lt
    have g2 := hk2.lt
    unfold tlR at hyy hbb
    have H2 := Lib.hid (And.intro hyy (And.intro hbb (And.intro hb3 (And.intro hy1 (And.intro hxp (And.intro hst (And.intro hel (And.intro hDd (Nat.le_trans H1.out.2.2.2.1 hD)))))))))
    clear hyy hbb hb3 hy1 hk1 hk2 hk3 hj hbk hDd hst hel hxp hnV hxl hox
    have mixed : Try.prog.follows .mixedOrders = true := by kernel_rfl
    gi_wp2_with fail
    gi_region_with_o (first
      | (refine ⟨trivial, ?_⟩; gi_at_call 31; refine (callsIn_wide.2 H2.out.2.1).mono ?_; rintro e w4 ⟨rfl, hb4⟩
         obtain ⟨fn, tm, u1, bo, hy, hRd⟩ := H2.out.1 w4 hb4
         have HR := Lib.hid hRd
         have y4 : w4.cell? ⟨W.heap.size, 0, none⟩ = some (.func (.yield l) #[] #[]) := (H2.out.2.2.2.1.below hb4).cell 0
         have HB4 := Lib.hid (bl_trans' H2.out.2.2.1 hb4)
         clear hRd hb4)
      | (refine HR.out.mono ?_; rintro e w5 ⟨rfl, hJ5, hk5, hl5⟩; have H5 := Lib.hid (And.intro hJ5 (And.intro hk5 hl5)); clear hJ5 hk5 hl5))
    all_goals
      have hD4 := (HB4.out.block D (lt_of_some H2.out.2.2.2.2.2.2.2.1)).trans H2.out.2.2.2.2.2.2.2.1
      have hD5 := H5.out.2.1.others D _ H2.out.2.2.2.2.2.2.2.2 hD4 rfl
      have hs5 : AsAt d (.slice none 0 0) s w5 := H5.out.2.1.bk (H2.out.2.2.2.2.2.1.below HB4.out) (by decide) (by decide)
      have he5 : ∀ b ∈ xs, ElB b w5 := fun b hb => H5.out.2.1.lns ((H2.out.2.2.2.2.2.2.1 b hb).below HB4.out)
      refine ⟨by simp, .inl ⟨_, _, rfl, run_takeDeferred hD5, ?_⟩⟩
      refine ⟨_, results_none rfl _ _ _, ?_⟩
      refine ⟨⟨_, rfl⟩, xs ++ [⟨.slice (some ⟨V2.heap.size, 0, none⟩) 1 1, mkB tlR [⟨off, len, ⟨#[]⟩⟩]⟩], ⟨?_, ⟨.slice none 0 0, bk_putO hs5 _ hD5 rfl, lns_empty _, fun _ => rfl⟩, fun b hb => ?_⟩, H.out.1.put H5.out.1 _ H2.out.2.2.2.2.2.2.2.2 hD5 rfl⟩
      · rw [List.map_append, H2.out.2.2.2.2.1]
        rfl
      · rcases List.mem_append.1 hb with hb | hb
        · exact row_putO (he5 b hb) _ hD5 rfl
        · simp only [List.mem_singleton] at hb
          subst hb
          exact row_putO H5.out.2.2 _ hD5 rfl
end Go.Proofs.Ytfkgicakiapmaaa
