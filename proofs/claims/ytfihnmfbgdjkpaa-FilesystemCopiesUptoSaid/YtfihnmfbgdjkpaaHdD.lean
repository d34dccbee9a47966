/- The contract of Hold, for at most one inode. -/
import Derived.Test.YtfihnmfbgdjkpaaHdC
import Derived.Test.YtfihnmfbgdjkpaaFtC
namespace Go.Proofs.Ytfihnmfbgdjkpaa
open Go.RowKit

variable {names : List NameV} {files : List FileV} {opn : List Int} {nv fv ov : Value} {w w' : World}
def holdL (zs : List Int) (files : List FileV) : List Int := (files.filter fun x => zs.contains x.ino).map FileV.ino
theorem holdL_snoc (zs : List Int) (files : List FileV) (i : Nat) (h : i < files.length) : holdL zs (files.take (i + 1)) = if zs.contains files[i].ino then holdL zs (files.take i) ++ [files[i].ino] else holdL zs (files.take i) := by
  unfold holdL
  rw [List.take_succ_eq_append_getElem h, List.filter_append, List.map_append]
  by_cases e : zs.contains files[i].ino = true
  · have hs : [files[i]].filter (fun x => zs.contains x.ino) = [files[i]] := by rw [List.filter_cons, if_pos e]; rfl
    rw [if_pos e, hs]; rfl
  · have hs : [files[i]].filter (fun x => zs.contains x.ino) = [] := by rw [List.filter_cons, if_neg e]; rfl
    rw [if_neg e, hs]; simp
theorem pair_one {zs : List Int} (h : zs.length ≤ 1) : zs.Pairwise (· ≤ ·) := by
  match zs, h with
  | [], _ => exact List.Pairwise.nil
  | [x], _ => exact List.pairwise_singleton _ _
theorem holdL_len (zs : List Int) (files : List FileV) (i : Nat) : (holdL zs (files.take i)).length ≤ i := by
  unfold holdL
  rw [List.length_map]
  exact Nat.le_trans (List.length_filter_le _ _) (List.length_take_le _ _)
def HoOut (names : List NameV) (opn2 : List Int) (R2 : List FileV → World → Prop) (w : World) (e : Ending) (w' : World) : Prop :=
  ∃ files2 nv2 fv2 ov2, e = .returned (.agg #[nv2, fv2, ov2]) ∧ FsAt names files2 opn2 nv2 fv2 ov2 w' ∧ R2 files2 w' ∧ Below w.heap.size w w'
theorem ho_of {w0 : World} {nv5 fv6 ov2 : Value} {opn2 : List Int} {R2 : List FileV → World → Prop} {W : World} (h : DoOut names opn2 ov2 R2 w0 (.returned (.tuple #[.agg #[nv5, fv6, ov2], .int .i64 0])) W) : HoOut names opn2 R2 w0 (.returned (.agg #[nv5, fv6, ov2])) W := by
  obtain ⟨fs, nv2, fv2, he, h1, h2, h3⟩ := h
  simp only [Ending.returned.injEq, Value.tuple.injEq, Value.agg.injEq, Array.mk.injEq, List.cons.injEq, and_true] at he
  obtain ⟨rfl, rfl⟩ := he
  exact ⟨fs, _, _, _, rfl, h1, h2, h3⟩
/-- What Hold's loop keeps. -/
structure HoI (w0 : World) (zs : List Int) (files : List FileV) (i : Nat) (openv : Value) (wr : World) : Prop where
  o : wr.ownsRow w0.heap.size 3 1 openv (holdL zs (files.take i)).length ((holdL zs (files.take i)).map iEnc)
  b : Below w0.heap.size w0 wr
theorem HoI.no {w0 : World} {zs : List Int} {i : Nat} {openv : Value} {wr wd : World} (h : HoI w0 zs files i openv wr) (hi : i < files.length) (hc : zs.contains files[i].ino = false) (hb : Below wr.heap.size wr wd) : HoI w0 zs files (i + 1) openv wd := by
  refine ⟨?_, bl_trans' h.b hb⟩
  rw [holdL_snoc zs files i hi, if_neg (by rw [hc]; exact Bool.false_ne_true)]
  exact row_below h.o hb
theorem HoI.yes {w0 : World} {zs : List Int} {i : Nat} {openv v' : Value} {wr wd we : World} {x : Int} (h : HoI w0 zs files i openv wr) (hi : i < files.length) (hx : files[i].ino = x) (hc : zs.contains x = true) (hb : Below wr.heap.size wr wd)
    (hown : we.ownsRow w0.heap.size 3 1 v' ((holdL zs (files.take i)).length + 1) ((holdL zs (files.take i)).map iEnc ++ [.int .i64 x])) (hg : (wd.alloc (.cells #[.int .i64 x] 3)).grownBy we openv.ownBlock) : HoI w0 zs files (i + 1) v' we := by
  refine ⟨?_, below_own (bl_trans' (bl_trans' h.b hb) (below_new wd _)) hg (fun b e => (World.ownsRow.lt h.o b e).1)⟩
  rw [holdL_snoc zs files i hi, hx, if_pos hc, List.length_append, List.map_append]
  exact hown
set_option maxRecDepth 100000 in
set_option linter.unusedSimpArgs false in
set_option maxHeartbeats 16000000 in
theorem hold_any (zs : List Int) (hz : zs.length ≤ 1) (ia : Option Addr) (ic : Nat) (h : FsAt names files opn nv fv ov w) (hI : IntsB w.heap.size w (.slice ia zs.length ic) zs) (opn2 : List Int) (hsl : ∀ x ∈ files, ∃ a m c, x.dv = .slice a m c) (ho2 : holdL zs files = opn2) (hos : opn2.Pairwise (· ≤ ·))
    (R2 : List FileV → World → Prop) (hR : ∀ fs W W', R2 fs W → (∀ v l, DtR W v l → DtR W' v l) → R2 fs W')
    (hSw : ∀ d base W nv' fv' ov2, DirAt d base names files opn2 nv' fv' ov2 W → (∀ v l, DtR w v l → DtR W v l) → Calls Try.prog 41 #[.pointer (some ⟨d, 0, none⟩)] W (SwOut d base names opn2 ov2 R2 nv' fv' W)) :
    Calls Try.prog 17 #[.agg #[nv, fv, ov], .slice ia zs.length ic] w (HoOut names opn2 R2 w) := by
  obtain ⟨na, nm, nc, rfl⟩ := row_slice h.n
  obtain ⟨fa, fcap, rfl⟩ : ∃ a c, fv = .slice a files.length c := by
    rcases row_form h.f with ⟨h1, h2⟩ | ⟨g, c, h1, -⟩
    · exact ⟨none, 0, by rw [h1, h2]⟩
    · exact ⟨_, c, h1⟩
  obtain ⟨oa, om, oc, rfl⟩ := row_slice h.o
  obtain ⟨N, hN⟩ : ∃ N, files.length = N := ⟨_, rfl⟩
  have hfl := h.fl
  rw [hN] at hfl
  obtain ⟨i0, hi, hz0, hz1, hz2⟩ := info_parts infoI
  -- the first three blocks
  have hz1' : (w.alloc (.cells #[.slice na nm nc, .slice fa files.length fcap, .slice oa om oc] 31)).heap.size = w.heap.size + 1 := by simp
  have b1 := below_new w (.cells #[.slice na nm nc, .slice fa files.length fcap, .slice oa om oc] 31)
  have b2 := below_new (w.alloc (.cells #[.slice na nm nc, .slice fa files.length fcap, .slice oa om oc] 31)) (.cells #[.slice none 0 0, .slice none 0 0, .slice none 0 0] 31)
  have k1 := (BkAt.new 31 #[.slice na nm nc, .slice fa files.length fcap, .slice oa om oc] w).below b2
  have k2 : BkAt (w.heap.size + 1) 31 #[.slice none 0 0, .slice none 0 0, .slice none 0 0] ((w.alloc (.cells #[.slice na nm nc, .slice fa files.length fcap, .slice oa om oc] 31)).alloc (.cells #[.slice none 0 0, .slice none 0 0, .slice none 0 0] 31)) := hz1' ▸ BkAt.new _ _ _
  have b12 := bl_trans' b1 b2
  obtain ⟨w1, hw1⟩ : ∃ w1, ((w.alloc (.cells #[.slice na nm nc, .slice fa files.length fcap, .slice oa om oc] 31)).alloc (.cells #[.slice none 0 0, .slice none 0 0, .slice none 0 0] 31)) = w1 := ⟨_, rfl⟩
  rw [hw1] at k1 k2 b12
  rw [hN] at k1 hw1
  have H1 := Lib.hid (And.intro k1 (And.intro k2 (And.intro b12 hw1)))
  have H := Lib.hid (And.intro h (And.intro hI (And.intro ho2 (And.intro hos (And.intro hR hSw)))))
  have HN := Lib.hid hN
  have HSL := Lib.hid hsl
  clear hsl
  clear k1 k2 b12 b1 b2 hz1' hw1 h hI ho2 hos hR hSw
  rw [hN]
  clear hN
  go_enter Try.func17, Try.ntmps17
  go_upto_region 1 with (fail)
  rw [H1.out.2.2.2]
  go_wp2_with fail
  refine (values_any ia zs.length ic w1).mono ?_
  rintro e w2 ⟨rfl, hw2⟩
  have hb2 : Below w1.heap.size w1 w2 := by rw [hw2]; exact below_new _ _
  have hBs : w1.heap.size < w2.heap.size := by rw [hw2]; simp
  have hcB : w2.cell? ⟨w1.heap.size, 0, none⟩ = some (.slice ia zs.length ic) := by rw [hw2]; exact Lib.cell_of_heap (heap_alloc_new w1 _) 0
  have hw12 := bl_trans' H1.out.2.2.1 hb2
  have hI2 : IntsB w2.heap.size w2 (.slice ia zs.length ic) zs := by
    rcases H.out.2.1.below hw12 with q | ⟨b, off, cap, q1, q2, q3⟩
    · exact .inl q
    · exact .inr ⟨b, off, cap, q1, Nat.lt_of_lt_of_le q2 hw12.size, q3⟩
  have H2 := Lib.hid (And.intro hw12 (And.intro hb2 (sorted_any w1.heap.size _ zs hz w2 hBs hcB hI2)))
  clear hw2 hb2 hBs hcB hw12 hI2
  go_wp2_with fail
  refine H2.out.2.2.mono ?_
  rintro e w3 ⟨wv, rfl, hwr, hb3⟩
  have hwr2 : InR w2.heap.size w3 wv zs := hwr
  obtain ⟨wa, wm, wc, rfl⟩ := row_slice hwr2
  have hw3 := bl_trans' H2.out.1 hb3
  have k1 := H1.out.1.below (bl_trans' H2.out.2.1 hb3)
  have k2 := H1.out.2.1.below (bl_trans' H2.out.2.1 hb3)
  have hF := H.out.1.below hw3
  have c1 := k1.cell 1
  simp only [List.getElem?_toArray, List.getElem?_cons_zero, List.getElem?_cons_succ] at c1
  have H3 := Lib.hid (And.intro hwr2 (And.intro hw3 (And.intro k1 (And.intro k2 hF))))
  clear hwr hwr2 hb3 hw3 k1 k2 hF
  go_wp2_with fail
  have HI0 := Lib.hid (show HoI w3 zs files 0 (.slice none 0 0) w3 from ⟨World.ownsRow_nil _ _ _ _, Below.refl _ _⟩)
  clear c1
  go_loopw [6, 18] (fun ovv iv wr => ∃ i : Nat, i ≤ N ∧ iv = .int .i64 i ∧ HoI w3 zs files i ovv wr) (fun _ iv _ => N - (intOf iv).toNat)
  case atStart => exact ⟨0, Nat.zero_le _, rfl, HI0.out⟩
  case round =>
    obtain ⟨i, hiN, rfl, hJ⟩ := hrel
    obtain ⟨pa, pm, pc, rfl⟩ := row_slice hJ.o
    by_cases hlt : i < N
    · have d1 : decide ((i : Int) < (N : Int)) = true := by rw [decide_eq_true_iff]; omega
      have d2 : decide (i < N) = true := decide_eq_true hlt
      have hil : i < files.length := by have := HN.out; omega
      have hFr := H3.out.2.2.2.2.below hJ.b
      obtain ⟨fg, rfl, q0, q1, q2, q3, q4⟩ : ∃ g, fa = some ⟨g, 0, none⟩ ∧ wr.cell? ⟨g, i * 5, none⟩ = some (.int .i64 files[i].ino) ∧ wr.cell? ⟨g, i * 5 + 1, none⟩ = some files[i].dv ∧ wr.cell? ⟨g, i * 5 + 2, none⟩ = some (.bool files[i].cp) ∧ wr.cell? ⟨g, i * 5 + 3, none⟩ = some (.bool files[i].wh) ∧ wr.cell? ⟨g, i * 5 + 4, none⟩ = some (.int .i64 files[i].lf) := by
        have hf := hFr.f
        rcases row_form hf with ⟨h1, h2⟩ | ⟨g, c, h1, -⟩
        · omega
        · injection h1 with e1 e2 e3
          subst e1
          exact ⟨g, rfl, FlR.cells hf hil⟩
      obtain ⟨ya, ym, yc, hy1⟩ := HSL.out _ (List.getElem_mem hil)
      obtain ⟨x, hx⟩ : ∃ x, files[i].ino = x := ⟨_, rfl⟩
      obtain ⟨y2, hy2⟩ : ∃ y, files[i].cp = y := ⟨_, rfl⟩
      obtain ⟨y3, hy3⟩ : ∃ y, files[i].wh = y := ⟨_, rfl⟩
      obtain ⟨y4, hy4⟩ : ∃ y, files[i].lf = y := ⟨_, rfl⟩
      rw [hx] at q0
      rw [hy1] at q1
      rw [hy2] at q2
      rw [hy3] at q3
      rw [hy4] at q4
      have HJ := Lib.hid (And.intro hJ hx)
      clear hJ hFr hx hy1 hy2 hy3 hy4
      have hbn := below_new wr (.cells #[.int .i64 x, .slice ya ym yc, .bool y2, .bool y3, .int .i64 y4] 45)
      have hbs := bsI_any zs w2.heap.size (.slice wa wm wc) x _ (row_below (row_below H3.out.1 HJ.out.1.b) hbn) (by omega) (pair_one hz)
      obtain ⟨cb, hcb⟩ : ∃ c, zs.contains x = c := ⟨_, rfl⟩
      rw [hcb] at hbs
      have hkx := BkAt.new 45 #[.int .i64 x, .slice ya ym yc, .bool y2, .bool y3, .int .i64 y4] wr
      have HS := Lib.hid (And.intro hbs (And.intro hcb (And.intro hkx hbn)))
      clear hbs hcb hkx hbn
      go_wp2_with fail
      refine HS.out.1.mono ?_
      rintro e w4 ⟨⟨z4, rfl⟩, hb4⟩
      have hk4 := HS.out.2.2.1.below hb4
      have hbr4 := bl_trans' HS.out.2.2.2 hb4
      have c0 := hk4.cell 0
      simp only [List.getElem?_toArray, List.getElem?_cons_zero] at c0
      have H4 := Lib.hid (And.intro hbr4 hk4.lt)
      clear hk4 hbr4 hb4 q0 q1 q2 q3 q4
      have hneq : wr.heap.size ≠ w4.heap.size := by have := H4.out.2; omega
      cases cb with
      | false =>
        go_wp2_with fail
        go_roundw
        case rel => exact ⟨i + 1, by omega, by go_num, HJ.out.1.no hil (by rw [HJ.out.2]; exact HS.out.2.1) H4.out.1⟩
        case measure => simp [intOf]; omega
      | true =>
        have hlen := holdL_len zs files i
        go_wp2_with (at_builtin; refine wpList_append_own_at _ rfl (.tmp 30) (.tmp 33) 29 rfl w3.heap.size 3 i0 (.int .i64 0) 1 8 Try.underlying29 hi hz0 hz1 hz2 rfl (by decide) _ (holdL zs (files.take i)).length _ rfl (row_below (row_below HJ.out.1.o H4.out.1) (below_new w4 (.cells #[.int .i64 x] 3))) ⟨w4.heap.size, 0, none⟩ 1 1 [.int .i64 x] rfl rfl ?c1 ?c2 ?c3 ?c4 ?c5 ?_)
        case c1 =>
          intro j u hj
          rw [Addr.add_lit, Nat.zero_add, Lib.cell_of_heap (heap_alloc_new w4 _)]
          simpa using hj
        case c2 => exact fun u hu => by simp only [List.mem_singleton] at hu; subst hu; rfl
        case c3 => unfold maxLen; omega
        case c4 => omega
        case c5 => have h3 := HJ.out.1.b.size; have h4 := H4.out.1.size; have h5 := (below_new w4 (.cells #[.int .i64 x] 3)).size; omega
        intro v' w5 hown hgrow _ _
        have HM := Lib.hid (HJ.out.1.yes hil HJ.out.2 HS.out.2.1 H4.out.1 hown hgrow)
        clear hown hgrow
        go_wp2
        go_roundw
        case rel => exact ⟨i + 1, by omega, by go_num, HM.out⟩
        case measure => simp [intOf]; omega
    · obtain rfl : i = N := by omega
      have d1 : decide ((i : Int) < (i : Int)) = false := by simp
      have d2 : decide (i < i) = false := by simp
      have hFr := H3.out.2.2.2.2.below hJ.b
      have hopn : holdL zs (files.take i) = opn2 := by rw [List.take_of_length_le (by have := HN.out; omega)]; exact H.out.2.2.1
      have hro := hJ.o
      rw [hopn] at hro
      have hk1 := H3.out.2.2.1.below hJ.b
      have hk2 := H3.out.2.2.2.1.below hJ.b
      have hbw := bl_trans' H3.out.2.1 hJ.b
      have hed := edit_any hFr
      obtain ⟨f0, f1, f2⟩ : wr.cell? ⟨w.heap.size, 0, none⟩ = some (.slice na nm nc) ∧ wr.cell? ⟨w.heap.size, 1, none⟩ = some (.slice fa i fcap) ∧ wr.cell? ⟨w.heap.size, 2, none⟩ = some (.slice oa om oc) := ⟨hk1.cell 0, hk1.cell 1, hk1.cell 2⟩
      have hfa := HN.out
      rw [hfa] at hed
      have HE := Lib.hid (And.intro hed (And.intro hro (And.intro hk2 (And.intro hbw hk2.lt))))
      clear hFr hopn hro hk1 hk2 hbw hed hJ hfa
      go_wp2_with fail
      refine HE.out.1.mono ?_
      rintro e w6 ⟨d, nv6, fv6, rfl, hd6, hge6, hb6⟩
      obtain ⟨d0, d1', d2', e0, e1, e2⟩ := hd6.cs
      have hdir : ∀ u, u = Value.slice pa pm pc → DirAt d wr.heap.size names files opn2 nv6 fv6 u (w6.setCell ⟨d, 2, none⟩ u) := fun u hu => by
        subst hu
        have hch : ChP (fun i => i = d) w6 (w6.setCell ⟨d, 2, none⟩ (.slice pa pm pc)) := (ChP.refl _ _).set d 2 _ rfl
        have hro6 : InR 0 w6 (.slice pa pm pc) opn2 := row_base (row_below HE.out.2.1 hb6) (Nat.zero_le _)
        have hol : opn2.length ≤ 900 := by
          have := holdL_len zs files i
          rw [List.take_of_length_le (by have := HN.out; omega), H.out.2.2.1] at this
          omega
        exact ⟨hd6.row.set 2 _, row_ch hd6.n hch (fun g hg => row_ne hd6.n hd6.row (by decide) hg), row_ch hd6.f hch (fun g hg => row_ne hd6.f hd6.row (by decide) hg), row_ch hro6 hch (fun g hg => row_ne hro6 hd6.row (by decide) hg), hd6.nl, hd6.fl, hol, H.out.2.2.2.1, hd6.sl⟩
      have hbW : Below w.heap.size w (w6.setCell ⟨d, 2, none⟩ (.slice pa pm pc)) := (bl_trans' HE.out.2.2.2.1 hb6).setCell (p := ⟨d, 2, none⟩) (by show w.heap.size ≤ d; have := HE.out.2.2.2.1.size; omega) _
      have hk26 : BkAt (w.heap.size + 1) 31 #[.slice none 0 0, .slice none 0 0, .slice none 0 0] (w6.setCell ⟨d, 2, none⟩ (.slice pa pm pc)) := (HE.out.2.2.1.below hb6).other 2 _ (by have := HE.out.2.2.2.2; omega)
      have HD := Lib.hid (And.intro (hdir _ rfl) (And.intro hbW (And.intro hk26 hge6)))
      clear hdir hbW hk26 d0 d1' e0 e1 hb6 hd6
      go_wp2_with fail
      refine (H.out.2.2.2.2.2 d wr.heap.size _ nv6 fv6 _ HD.out.1 (fun v l hv => hv.below HD.out.2.1)).mono ?_
      rintro e w7 ⟨rfl, files2, fv7, ho7, hr7⟩
      have hk7 := HD.out.2.2.1.ch ho7.c (fun e => by have h1 := HD.out.1.ge HD.out.2.2.2 _ e; have h2 := HE.out.2.2.2.2; omega)
      obtain ⟨s0, s1, s2, -, -, -⟩ := ho7.a.cs
      obtain ⟨r0, r1, r2⟩ : w7.cell? ⟨w.heap.size + 1, 0, none⟩ = some (.slice none 0 0) ∧ w7.cell? ⟨w.heap.size + 1, 1, none⟩ = some (.slice none 0 0) ∧ w7.cell? ⟨w.heap.size + 1, 2, none⟩ = some (.slice none 0 0) := ⟨hk7.cell 0, hk7.cell 1, hk7.cell 2⟩
      obtain ⟨q0, q1, q2⟩ : w7.frozen? ⟨w.heap.size + 1, 0, none⟩ = false ∧ w7.frozen? ⟨w.heap.size + 1, 1, none⟩ = false ∧ w7.frozen? ⟨w.heap.size + 1, 2, none⟩ = false := ⟨hk7.free 0, hk7.free 1, hk7.free 2⟩
      have hne : d ≠ w.heap.size + 1 := by have h1 := HD.out.2.2.2; have h2 := HE.out.2.2.2.2; omega
      have HZ := Lib.hid (ho_of (do_end2 (w := w) HD.out.2.1 HD.out.1 HD.out.2.2.2 HE.out.2.2.2.1.size (DirOut.refl HD.out.1) ho7 hk7 (by omega) H.out.2.2.2.2.1 hr7))
      obtain ⟨na7, nm7, nc7, rfl⟩ := row_slice ho7.a.n
      obtain ⟨fa7, fm7, fc7, rfl⟩ := row_slice ho7.a.f
      clear ho7 hk7 hr7
      go_wp2
      exact bodyPost_ret (v := .agg #[.slice na7 nm7 nc7, .slice fa7 fm7 fc7, .slice pa pm pc]) (by simp [results, Try.results17, go_sem, r0, r1, r2, q0, q1, q2]) rfl HZ.out
end Go.Proofs.Ytfihnmfbgdjkpaa
