/- Package multiline: the iterator assembled$1. -/
import Derived.Test.YtfkgicakiapmaaaMlVc
import Derived.LoopIn
namespace Go.Proofs.Ytfkgicakiapmaaa
open Go Go.RowKit
attribute [local go_sem] Oper.semAt_some

def mkD (D : Nat) : Deferred := { target := .collected D, args := #[] }
def asF (l Bl Bs yb d : Nat) (a : Option Addr) (n c k : Nat) (u6 u11 u12 u13 u14 u15 u16 u22 : Value) (Ds : List Nat) : Act :=
  { tmps := #[.func (.yield l) #[] #[], .pointer (some ⟨Bl, 0, none⟩), .pointer (some ⟨Bs, 0, none⟩), .pointer (some ⟨yb, 0, none⟩), .pointer (some ⟨d, 0, none⟩), undef, u6, undef, .slice a n c, .int .i64 (n : Int), .int .i64 (k : Int), u11, u12, u13, u14, u15, u16, undef, undef, undef, undef, undef, u22, undef, undef], defers := Ds.map mkD }
/-- What stands at the head of a round. -/
structure AsmI (n0 d : Nat) (J : List BkV → World → Prop) (L : List (Nat × TypeId × Array Value)) (m : ByteArray → Bool) (emp : Bool) (ls : List FrV) (Ds : List Nat) (W : World) : Prop where
  x : ∃ xs v, xs.map (·.p) = (asmF m emp ls).2 ∧ J xs W ∧ AsAt d v 0 W ∧ LnsAt v (asmF m emp ls).1 W ∧ ((asmF m emp ls).1 = [] → v = .slice none 0 0) ∧ EnvP n0 W.heap.size d L Ds xs W
  n : n0 ≤ W.heap.size
/-- What assembled$1 has yielded at its end. -/
def AsS (bs : List PBk) (xs : List BkV) (W : World) : Prop := xs.map (·.p) = bs ∧ ∀ b ∈ xs, ElB b W
theorem addT0 (emp tl : Bool) : addT emp 0 0 tl = 0 := by unfold addT; cases emp <;> cases tl <;> rfl
theorem leavesM {n : Nat} {fn : Func} {tmps : Array Value} {R : Ending → World → Prop} (hres : ∀ W, (results fn tmps).run Try.prog W = .ok (.tuple #[]) W) : ∀ (Ds : List Nat) (W : World), (∀ D ∈ Ds, W.heap[D]? = some (.deferred (some []))) → Ds.Nodup → (∀ W', (∀ k, k ∉ Ds → W'.heap[k]? = W.heap[k]?) → W'.os = W.os → W'.tape = W.tape → W'.output = W.output → W'.heap.size = W.heap.size → R (.returned (.tuple #[])) W') → LeavesInM Fence.wide n Try.prog fn tmps R (Ds.map mkD) .returning W
  | [], W, _, _, hR => ⟨_, hres W, hR W (fun _ _ => rfl) rfl rfl rfl rfl⟩
  | D :: t, W, hD, hnd, hR => by
    have h1 := hD D (by simp)
    obtain ⟨hn1, hn2⟩ := List.nodup_cons.1 hnd
    refine ⟨by simp, .inl ⟨D, _, rfl, run_takeDeferred h1, leavesM hres t _ (fun E hE => (World.putObj_heap_other (fun e => hn1 (by rw [← e]; exact hE))).trans (hD E (by simp [hE]))) hn2 ?_⟩⟩
    intro W' h2 h3 h4 h5 h6
    refine hR W' (fun k hk => ?_) h3 h4 h5 (by rw [h6]; simp)
    rw [h2 k (fun e => hk (by simp [e]))]
    exact World.putObj_heap_other (fun e => hk (by simp [e]))
def AddP (d : Nat) (op : Int) (ra : Option Addr) (rn rc : Nat) (off len : Int) (txt : ByteArray) (dmg : Int) (tl : Bool) (now : Int) (w : World) (e : Ending) (w' : World) : Prop :=
  ∃ Bl Ba Bs Bn, e = .returned (.func (.func 30) #[] #[.pointer (some ⟨Bl, 0, none⟩), .pointer (some ⟨Ba, 0, none⟩), .pointer (some ⟨Bs, 0, none⟩), .pointer (some ⟨Bn, 0, none⟩)]) ∧
      BkAt Bl 38 #[.int .i64 off, .int .i64 len, .string txt, .int .i64 dmg, .bool tl] w' ∧ BkAt Ba 85 #[.pointer (some ⟨d, 0, none⟩)] w' ∧ BkAt Bs 27 (ndA op ra rn rc) w' ∧ BkAt Bn 3 #[.int .i64 now] w' ∧ Below w.heap.size w w'
theorem add_p (d : Nat) (op : Int) (ra : Option Addr) (rn rc : Nat) (off len : Int) (txt : ByteArray) (dmg : Int) (tl : Bool) (now : Int) (w : World) :
    Calls Try.prog 18 #[.pointer (some ⟨d, 0, none⟩), .agg (ndA op ra rn rc), .agg #[.int .i64 off, .int .i64 len, .string txt, .int .i64 dmg, .bool tl], .int .i64 now] w (AddP d op ra rn rc off len txt dmg tl now w) := add_ret d op ra rn rc off len txt dmg tl now w
/-- The frame of a round of the inner loop. -/
def rdF (l Bl Bs yb d : Nat) (a : Option Addr) (n c k : Nat) (u6 u11 u12 u13 u14 u15 u16 u22 b y : Value) : Act :=
  { tmps := #[.func (.yield l) #[] #[], .pointer (some ⟨Bl, 0, none⟩), .pointer (some ⟨Bs, 0, none⟩), .pointer (some ⟨yb, 0, none⟩), .pointer (some ⟨d, 0, none⟩), undef, u6, b, .slice a n c, .int .i64 (n : Int), .int .i64 (k : Int), u11, u12, u13, u14, u15, u16, y, undef, undef, undef, undef, u22, undef, undef], defers := [] }
set_option maxRecDepth 100000 in
set_option maxHeartbeats 8000000 in
theorem asm1_seq (op : Int) (rs : List (Nat × Nat)) (ra : Option Addr) (rc : Nat) (m : ByteArray → Bool) (hM : op ≠ 0 → MtC op rs ra rc m) (Bl Bs : Nat) (fv : Value) (ls : List FrV) (hl : ls.length ≤ 400) (hok : ∀ x ∈ ls, OkL x.ln ∧ x.ln.txt.size ≤ 20000) (w : World)
    (hbl : BkAt Bl 28 #[fv] w) (hbs : BkAt Bs 27 (ndA op ra rs.length rc) w) (hfr : FrsAt fv ls w) (hnd : NdAt rs ra rc w) (n0 : Nat) :
    SeqM 1000 n0 34 #[] #[.pointer (some ⟨Bl, 0, none⟩), .pointer (some ⟨Bs, 0, none⟩)] (fun _ => False) (AsS (asmB m (decide (op = 0)) ls)) w := by
  intro l J W hW hn hJ hY h0
  have hblW := hbl.below hW
  have hbsW := hbs.below hW
  have hfrW : FrsAt fv ls W := row_below hfr hW
  have hndW := hnd.below hW
  clear hbl hbs hfr hnd hW
  obtain ⟨fa, fc, rfl, hfc, -⟩ := frs_form hfrW
  refine callsIn_of_wp_marks Try.func34 rfl trivial ?_ rfl
  simp only [Try.ntmps34, List.size_toArray, List.length_cons, List.length_nil, Nat.reduceAdd, Nat.reduceSub, Array.replicate_succ, Array.replicate_zero, List.push_toArray, List.append_toArray, List.nil_append, List.cons_append]
  have b0 : W.cell? ⟨Bl, 0, none⟩ = some (.slice fa ls.length fc) := hblW.cell 0
  have hBl := hblW.lt
  obtain ⟨yb, hyb⟩ : ∃ q, W.heap.size = q := ⟨_, rfl⟩
  have hb1 := bl_trans' (below_new W (.cells #[.func (.yield l) #[] #[]] 86)) (below_new _ (.cells #[.slice none 0 0, .int .i64 0] 65))
  have hk1 : BkAt yb 86 #[.func (.yield l) #[] #[]] ((W.alloc (.cells #[.func (.yield l) #[] #[]] 86)).alloc (.cells #[.slice none 0 0, .int .i64 0] 65)) := by rw [← hyb]; exact (BkAt.new _ _ _).below (below_new _ _)
  have hd1 : AsAt (yb + 1) (.slice none 0 0) 0 ((W.alloc (.cells #[.func (.yield l) #[] #[]] 86)).alloc (.cells #[.slice none 0 0, .int .i64 0] 65)) := by
    have q := BkAt.new 65 #[.slice none 0 0, .int .i64 0] (W.alloc (.cells #[.func (.yield l) #[] #[]] 86))
    rw [World.size_alloc, hyb] at q
    exact q
  obtain ⟨W1, hW1⟩ : ∃ y, (W.alloc (.cells #[.func (.yield l) #[] #[]] 86)).alloc (.cells #[.slice none 0 0, .int .i64 0] 65) = y := ⟨_, rfl⟩
  rw [hW1] at hb1 hk1 hd1
  obtain ⟨d, hd⟩ : ∃ q, yb + 1 = q := ⟨_, rfl⟩
  rw [hd] at hd1
  have hJ1 := hJ.bl h0 hn hb1
  obtain ⟨Lf, hLf, hLft, hLfr⟩ := row_bks (row_below hfrW hb1)
  obtain ⟨Ln, hLn, hLnt, hLnr⟩ := row_bks (hndW.below hb1)
  obtain ⟨L, hLe⟩ : ∃ L, (yb, 86, (#[.func (.yield l) #[] #[]] : Array Value)) :: (Bl, 28, #[.slice fa ls.length fc]) :: (Bs, 27, ndA op ra rs.length rc) :: (Lf ++ Ln) = L := ⟨_, rfl⟩
  have hLm : ∀ t, t ∈ L ↔ t = (yb, 86, (#[.func (.yield l) #[] #[]] : Array Value)) ∨ t = (Bl, 28, #[.slice fa ls.length fc]) ∨ t = (Bs, 27, ndA op ra rs.length rc) ∨ t ∈ Lf ∨ t ∈ Ln := fun t => by rw [← hLe]; simp
  have hLb : Bks L W1 := fun t ht => by
    rcases (hLm t).1 ht with rfl | rfl | rfl | ht | ht
    · exact hk1
    · exact hblW.below hb1
    · exact hbsW.below hb1
    · exact hLf t ht
    · exact hLn t ht
  have hLt : ∀ t ∈ L, t.2.1 ≠ 44 ∧ t.2.1 ≠ 36 ∧ t.2.1 ≠ 65 := fun t ht => by
    rcases (hLm t).1 ht with rfl | rfl | rfl | ht | ht
    · exact ⟨by dsimp only; decide, by dsimp only; decide, by dsimp only; decide⟩
    · exact ⟨by dsimp only; decide, by dsimp only; decide, by dsimp only; decide⟩
    · exact ⟨by dsimp only; decide, by dsimp only; decide, by dsimp only; decide⟩
    · rw [hLft t ht]; exact ⟨by decide, by decide, by decide⟩
    · rw [hLnt t ht]; exact ⟨by decide, by decide, by decide⟩
  have hLo : ∀ V, Bks L V → BkAt yb 86 #[.func (.yield l) #[] #[]] V ∧ BkAt Bs 27 (ndA op ra rs.length rc) V ∧ FrsAt (.slice fa ls.length fc) ls V ∧ NdAt rs ra rc V := fun V hV =>
    ⟨hV _ ((hLm _).2 (.inl rfl)), hV _ ((hLm _).2 (.inr (.inr (.inl rfl)))), hLfr V (fun t ht => hV t ((hLm t).2 (.inr (.inr (.inr (.inl ht)))))), hLnr V (fun t ht => hV t ((hLm t).2 (.inr (.inr (.inr (.inr ht))))))⟩
  have hI1 : AsmI n0 d J L m (decide (op = 0)) [] [] W1 := by
    refine ⟨⟨[], .slice none 0 0, rfl, hJ1, hd1, lns_empty _, fun _ => rfl, hLb, fun D hD => absurd hD (by simp), fun b hb => absurd hb (by simp), fun t ht => ⟨(hLt t ht).1, (hLt t ht).2.1⟩, fun t ht => ⟨(hLb t ht).lt, fun e => ?_⟩, fun D hD => absurd hD (by simp)⟩, Nat.le_trans hn hb1.size⟩
    exact bk_ne (hLb t ht) hd1 (hLt t ht).2.2 e
  have hn0d : n0 ≤ d := by omega
  have H := Lib.hid (And.intro hJ (And.intro hY (And.intro hLo (And.intro hI1 (And.intro hW1 (And.intro hyb (And.intro hd hLt)))))))
  clear hJ hY h0 hblW hbsW hfrW hndW hb1 hk1 hd1 hJ1 hLf hLft hLfr hLn hLnt hLnr hLe hLm hLb hLt hLo hI1 hW1 hyb hd hn
  gi_wp2_with fail
  have eW := H.out.2.2.2.2.1
  have ey := H.out.2.2.2.2.2.1
  have ed := H.out.2.2.2.2.2.2.1
  rw [eW]
  simp only [ey, ed]
  clear eW ey ed b0 hBl
  refine wpIn_loop (fun a' V => ∃ (k : Nat) (u6 u11 u12 u13 u14 u15 u16 u22 : Value) (Ds : List Nat), k ≤ ls.length ∧ a' = asF l Bl Bs yb d fa ls.length fc k u6 u11 u12 u13 u14 u15 u16 u22 Ds ∧ AsmI n0 d J L m (decide (op = 0)) (ls.take k) Ds V ∧ Ds.Nodup) (fun a' _ => ls.length - (intOf (a'.tmps.getD 10 undef)).toNat) ?start ?round
  case start => exact ⟨0, undef, undef, undef, undef, undef, undef, undef, undef, [], by omega, rfl, by simpa using H.out.2.2.2.1, List.nodup_nil⟩
  case round =>
    rintro a' V ⟨k, u6, u11, u12, u13, u14, u15, u16, u22, Ds, hk, rfl, hI, hnd⟩
    obtain ⟨⟨xs, v, hxp, hj, hst, hls, hnl, hev⟩, hnV⟩ := hI
    obtain ⟨k1, k2, k3, k4⟩ := H.out.2.2.1 V hev.b
    have hlen := asmF_ok (m := m) (emp := decide (op = 0)) (ls.take k) (fun x hx => (hok x (List.mem_of_mem_take hx)).1)
    have hxl : xs.length ≤ 2 * k := by
      have h1 := congrArg List.length hxp
      rw [List.length_map] at h1
      have h2 := hlen.2
      rw [List.length_take] at h2
      omega
    by_cases hlt : k < ls.length
    · obtain ⟨fa', fc', e, -, hfx⟩ := frs_form k3
      obtain ⟨g, hga, hgl, hgc⟩ := hfx k hlt
      injection e with e1 e2 e3
      rw [← e1] at hga
      clear e1 e2 e3
      subst hga
      obtain ⟨⟨⟨off, len, txt⟩, dmg, tl⟩, hx⟩ : ∃ x, ls[k] = x := ⟨_, rfl⟩
      have hox := hok ls[k] (List.getElem_mem hlt)
      rw [hx] at hgc hox
      have htk : ls.take (k + 1) = ls.take k ++ [⟨⟨off, len, txt⟩, dmg, tl⟩] := by rw [List.take_succ_eq_append_getElem hlt, hx]
      have g0 : V.cell? ⟨g, k * 5, none⟩ = some (.int .i64 off) := hgc 0 (by omega)
      have g1 : V.cell? ⟨g, k * 5 + 1, none⟩ = some (.int .i64 len) := hgc 1 (by omega)
      have g2 : V.cell? ⟨g, k * 5 + 2, none⟩ = some (.string txt) := hgc 2 (by omega)
      have g3 : V.cell? ⟨g, k * 5 + 3, none⟩ = some (.int .i64 dmg) := hgc 3 (by omega)
      have g4 : V.cell? ⟨g, k * 5 + 4, none⟩ = some (.bool tl) := hgc 4 (by omega)
      have i1 : decide ((k : Int) < (ls.length : Int)) = true := by rw [decide_eq_true_iff]; omega
      have i2 : (k : Int) < (ls.length : Int) := by omega
      have i0 : (0 : Int) ≤ (k : Int) := by omega
      have s0 : V.cell? ⟨Bs, 0, none⟩ = some (.int .i64 op) := k2.cell 0
      have s1 : V.cell? ⟨Bs, 1, none⟩ = some (.slice ra rs.length rc) := k2.cell 1
      have s2 : V.cell? ⟨Bs, 2, none⟩ = some (.string ⟨#[]⟩) := k2.cell 2
      have s3 : V.cell? ⟨Bs, 3, none⟩ = some (.slice none 0 0) := k2.cell 3
      have s4 : V.cell? ⟨Bs, 4, none⟩ = some (.int .i64 0) := k2.cell 4
      have s5 : V.cell? ⟨Bs, 5, none⟩ = some (.int .i64 0) := k2.cell 5
      have hBs := k2.lt
      have HR := Lib.hid (fun W' => add_p d op ra rs.length rc off len txt dmg tl 0 W')
      have HV := Lib.hid (And.intro hxp (And.intro hj (And.intro hst (And.intro hls (And.intro hnl (And.intro hev (And.intro hnV (And.intro k4 (And.intro hlen.1 (And.intro hox (And.intro hxl (And.intro htk hnd))))))))))))
      clear hxp hj hst hls hnl hev hnV k1 k2 k3 k4 hlen hox hgc hfx hx hxl htk
      unfold ndA at HR
      unfold asF
      gi_wp2_with (refine ⟨trivial, ?_⟩; gi_at_call 18; refine (callsIn_wide.2 (HR.out _)).mono ?_)
      rintro e w2 ⟨B1, B2, B3, B4, rfl, h1, h2, h3, h4, hb2⟩
      have hb02 := bl_trans' (below_new V (.cells #[.int .i64 off, .int .i64 len, .string txt, .int .i64 dmg, .bool tl] 38)) hb2
      have hA : AdW d B1 B2 B3 B4 v 0 0 (asmF m (decide (op = 0)) (ls.take k)).1 ⟨off, len, txt⟩ dmg tl op rs ra rc w2 := ⟨h1, h2, h3, h4, HV.out.2.2.1.below hb02, HV.out.2.2.2.1.below hb02, HV.out.2.2.2.2.1, HV.out.2.2.2.2.2.2.2.2.1, HV.out.2.2.2.2.2.2.2.2.2.1.1, HV.out.2.2.2.2.2.2.2.2.2.1.2, HV.out.2.2.2.2.2.2.2.1.below hb02⟩
      have hev2 : EnvP n0 w2.heap.size d L Ds xs w2 := (HV.out.2.2.2.2.2.1.below hb02).mono hb02.size
      have hj2 : J xs w2 := H.out.1.bl HV.out.2.1 HV.out.2.2.2.2.2.2.1 hb02
      have hn2 : n0 ≤ w2.heap.size := Nat.le_trans HV.out.2.2.2.2.2.2.1 hb02.size
      have H2 := Lib.hid (And.intro hA (And.intro hev2 (And.intro hj2 hn2)))
      have hdl2 := hA.st.lt
      clear h1 h2 h3 h4 hb2 hb02 hA hev2 hj2 hn2 g0 g1 g2 g3 g4 s0 s1 s2 s3 s4 s5 hgl hBs
      gi_wp2_with fail
      have hM2 : (xs ++ ([] : List BkV)).length + 2 ≤ 1000 := by have := HV.out.2.2.2.2.2.2.2.2.2.2.1; simp; omega
      refine wpIn_rangeM (by omega) (gf := 30) (la := #[]) (lb := #[.pointer (some ⟨B1, 0, none⟩), .pointer (some ⟨B2, 0, none⟩), .pointer (some ⟨B3, 0, none⟩), .pointer (some ⟨B4, 0, none⟩)]) rfl (enters_of Try.func30 (by kernel_rfl) rfl) rfl (PI := fun k => k = d) (N := 2)
        (add1_seq hM H2.out.1 _) (fun pre W => J (xs ++ pre) W ∧ EnvP n0 w2.heap.size d L Ds xs W) ?_ ?_ ?_ ?_
        (fun x a' V' => ∃ b, a' = rdF l Bl Bs yb d (some ⟨g, 0, none⟩) ls.length fc k (.pointer (some ⟨V.heap.size, 0, none⟩)) (.bool true) (.pointer (some ⟨g, k * 5, none⟩)) (.agg #[.int .i64 off, .int .i64 len, .string txt, .int .i64 dmg, .bool tl]) (.agg (ndA op ra rs.length rc)) (.agg #[.int .i64 off, .int .i64 len, .string txt, .int .i64 dmg, .bool tl]) (.func (.func 30) #[] #[.pointer (some ⟨B1, 0, none⟩), .pointer (some ⟨B2, 0, none⟩), .pointer (some ⟨B3, 0, none⟩), .pointer (some ⟨B4, 0, none⟩)]) u22 (.pointer (some ⟨b, 0, none⟩)) (.agg #[.int .i64 x.p.fr, .int .i64 x.p.en, x.sl, .string x.p.rule]) ∧ BkAt b 44 #[.int .i64 x.p.fr, .int .i64 x.p.en, x.sl, .string x.p.rule] V' ∧ ElB x V') ?_ ?assign ?body ?done
      · rintro s A B ⟨h1, h2⟩ hab
        exact ⟨H.out.1 _ A B h1 (hab.mono (by have := H2.out.2.2.2; omega) (fun k hk => .inr (by rw [hk]; exact hn0d))), h2.it (hab.mono (by omega) (fun k hk => .inl hk))⟩
      · rintro s V' q o o' ⟨h1, h2⟩ hq h3 h4
        exact ⟨H.out.1.put h1 o' (Nat.le_trans H2.out.2.2.2 hq) h3 h4, h2.put o' h3 h4 (fun D hD => by have := (h2.mn D hD).2.1; omega)⟩
      · intro V' hV'
        exact ⟨by rw [List.append_nil]; exact H.out.1.bl H2.out.2.2.1 H2.out.2.2.2 hV', H2.out.2.1.below hV'⟩
      · rintro k rfl
        exact hdl2
      · rintro x a' V' q o o' ⟨b, rfl, hb, hx⟩ hq h3 h4
        exact ⟨b, rfl, bk_putO hb o' h3 h4, row_putO hx o' h3 h4⟩
      case assign =>
        rintro q m' pre ⟨xs', fr, en, rule, ls'⟩ V' K ⟨hj, hev⟩ hel hlen hK
        obtain ⟨c, n, k', hxe⟩ : ∃ c n k, xs' = .slice c n k := row_slice hel
        subst hxe
        dsimp only [bkE]
        have hnV' : n0 ≤ V'.heap.size := by have h1 := (H.out.2.2.1 V' hev.b).1.lt; have h2 := H.out.2.2.2.2.2.2.1; omega
        have HV' := Lib.hid (And.intro hj (And.intro hev (And.intro hel hK)))
        clear hj hev hel hK
        gi_wp2
        refine HV'.out.2.2.2 _ _ (KpB.alloc _ _ _) ⟨H.out.1.bl HV'.out.1 hnV' (below_new _ _), HV'.out.2.1.below (below_new _ _)⟩ ⟨V'.heap.size, ?_, BkAt.new _ _ _, LnsAt.below HV'.out.2.2.1 (below_new _ _)⟩
        unfold rdF ndA
        rfl
      case body =>
        rintro q m' pre ⟨xs', fr, en, rule, ls'⟩ a' V' hq hqr ⟨hj, hev⟩ ⟨b, rfl, hb, hel⟩ hlen
        obtain ⟨c, n, k', hxe⟩ : ∃ c n k, xs' = .slice c n k := row_slice hel
        subst hxe
        simp only at hb
        have y0 : V'.cell? ⟨yb, 0, none⟩ = some (.func (.yield l) #[] #[]) := (H.out.2.2.1 V' hev.b).1.cell 0
        have e1 : V'.cell? ⟨b, 0, none⟩ = some (.int .i64 fr) := hb.cell 0
        have e2 : V'.cell? ⟨b, 1, none⟩ = some (.int .i64 en) := hb.cell 1
        have e3 : V'.cell? ⟨b, 2, none⟩ = some (.slice c n k') := hb.cell 2
        have e4 : V'.cell? ⟨b, 3, none⟩ = some (.string rule) := hb.cell 3
        have hlen2 : (xs ++ pre).length < 1000 := by rw [List.length_append]; simp at hM2; omega
        obtain ⟨fn, tm, u1, bo, hy, hRd⟩ := H.out.2.1 (xs ++ pre) ⟨.slice c n k', fr, en, rule, ls'⟩ V' hj hel hlen2 8
        have HR' := Lib.hid (And.intro hRd hev)
        clear hRd hj hev hel hb hqr hlen2
        unfold rdF
        dsimp only [bkE] at hy ⊢
        gi_wp2_with fail
        refine ⟨(fun e => by cases e), (RoundIn.inR HR'.out.1).mono ?_⟩
        rintro e V5 ⟨rfl, hj5, hk5⟩
        have H5 := Lib.hid (And.intro hj5 hk5)
        clear hj5 hk5
        gi_wp2
        refine ⟨H5.out.2.mono H2.out.2.2.2, ?_, HR'.out.2.kp H5.out.2⟩
        rw [← List.append_assoc]
        exact H5.out.1
      case done =>
        rintro D q o o' ys V' hD hq h1 h2 hS ⟨hj, hev⟩ hDd
        obtain ⟨hyp, ⟨v', hst', hls', hnl'⟩, hel⟩ := hS.put o' h1 h2
        rw [addT0] at hst'
        obtain ⟨V2, hV2⟩ : ∃ y, V'.putObj q o' = y := ⟨_, rfl⟩
        rw [hV2] at hj hev hDd hst' hls' hel ⊢
        clear hV2 h1 h2 hS
        have hVs : w2.heap.size ≤ V2.heap.size := by have := lt_of_some hDd; omega
        have hDne : D ≠ d := by
          rintro rfl
          have h3 : V2.heap[D]? = _ := hst'
          rw [h3] at hDd
          cases hDd
        have hDs : D ∉ Ds := fun hm => by have := (hev.mn D hm).2.1; omega
        have hIn : AsmI n0 d J L m (decide (op = 0)) (ls.take (k + 1)) (D :: Ds) V2 := by
          rw [HV.out.2.2.2.2.2.2.2.2.2.2.2.1]
          refine ⟨⟨xs ++ ys, v', ?_, hj, hst', ?_, ?_, (((hev.mono hVs).addM hDd ⟨by have := H2.out.2.2.2; omega, lt_of_some hDd, hDne⟩).addX hst' hel (Nat.le_refl _))⟩, by have := H2.out.2.2.2; omega⟩
          · rw [List.map_append, HV.out.1, hyp, asmF_snoc]
          · rw [asmF_snoc]; exact hls'
          · rw [asmF_snoc]; exact hnl'
        have HZ := Lib.hid (And.intro hIn (And.intro hDs HV.out.2.2.2.2.2.2.2.2.2.2.2.2))
        clear hIn hj hev hDd hst' hls' hnl' hel hyp hDs
        gi_wp2_with fail
        refine ⟨⟨k + 1, _, _, _, _, _, _, _, _, D :: Ds, by omega, rfl, HZ.out.1, List.nodup_cons.2 ⟨HZ.out.2.1, HZ.out.2.2⟩⟩, ?_⟩
        simp [intOf]
        omega
    · obtain rfl : k = ls.length := by omega
      rw [List.take_length] at hxp hls hnl hlen
      have i1 : decide ((ls.length : Int) < (ls.length : Int)) = false := by simp
      have y0 : V.cell? ⟨yb, 0, none⟩ = some (.func (.yield l) #[] #[]) := k1.cell 0
      have hM2 : xs.length + 1 ≤ 1000 := by omega
      have hfl := flush_seq d v 0 _ V hst hls hlen.1 (V.heap.size + 0) l (fun pre W => J (xs ++ pre) W ∧ EnvP n0 V.heap.size d L Ds xs W) V (Below.refl _ _) (by omega)
        (fun s A B h hab => ⟨H.out.1 _ A B h.1 (hab.mono (by omega) (fun k hk => .inr (by rw [hk]; exact hn0d))), h.2.it hab⟩) (((YOk.shift (M := 1) xs H.out.2.1 hM2).env (by omega) (fun A B h k => h.kp k))) ⟨by rw [List.append_nil]; exact hj, hev⟩
      have HV := Lib.hid (And.intro hfl (And.intro hxp (And.intro hnl (And.intro hnd hnV))))
      clear hfl hxp hj hst hls hnl hev hnV k1 k2 k3 k4 hlen hnd
      unfold asF
      gi_wp2_with (refine ⟨trivial, ?_⟩; gi_at_call 20; refine (CallsIn.any (HV.out.1)).mono ?_)
      rintro e w5 ⟨⟨u, rfl⟩, ys, hfs, hj5, hev5⟩
      obtain ⟨hyp, -, hel⟩ := hfs.out HV.out.2.2.1
      have H5 := Lib.hid (And.intro hyp (And.intro hel (And.intro hj5 hev5)))
      clear hfs hyp hel hj5 hev5
      gi_wp2
      refine leavesM (fun W => results_none rfl _ _ _) Ds w5 H5.out.2.2.2.m HV.out.2.2.2.1 ?_
      intro W' g1 g2 g3 g4 g5
      have hcell : ∀ (k : Nat) (cs : Array Value) (T : TypeId) (fz : Nat × Nat), w5.heap[k]? = some (.cells cs T fz) → W'.heap[k]? = some (.cells cs T fz) := fun k cs T fz hk => by
        rw [g1 k (fun hm => ?_)]
        · exact hk
        · have h2 := H5.out.2.2.2.m k hm
          rw [h2] at hk
          cases hk
      have hit : ItP n0 (fun _ => False) w5 W' := ⟨g2, g3, g4, Nat.le_of_eq g5.symm, fun k hk _ => g1 k (fun hm => by have := (H5.out.2.2.2.mn k hm).1; omega), fun k cs fz hk => hcell k cs _ fz hk⟩
      have hrow : ∀ b, ElB b w5 → ElB b W' := fun b hb => by
        refine ⟨hb.1, ?_⟩
        rcases hb.2 with q | ⟨g, cap, cur, q1, q2, q3, q4, q5, q6⟩
        · exact .inl q
        · exact .inr ⟨g, cap, cur, q1, q2, hcell g _ _ _ q3, q4, q5, q6⟩
      refine ⟨⟨_, rfl⟩, xs ++ ys, ⟨?_, fun b hb => ?_⟩, H.out.1 _ _ _ H5.out.2.2.1 hit⟩
      · rw [List.map_append, HV.out.2.1, H5.out.1]
        rfl
      · rcases List.mem_append.1 hb with hb | hb
        · exact hrow b (H5.out.2.2.2.e b hb).1
        · exact hrow b (H5.out.2.1 b hb)
end Go.Proofs.Ytfkgicakiapmaaa
