/- logtidelaw10's draw: some start pattern without kids and some lines. logtidelaw10's awake: true. -/
import Derived.Test.YtfkgicakiapmaaaMlQ
import Derived.Deep.Cut
import Derived.Deep.QuietTactic
import Derived.BigQuiet
namespace Go.Proofs.Ytfkgicakiapmaaa
open Go Go.RowKit

/-- The lines that draw makes. -/
def LnOk (x : FrV) : Prop := OkL x.ln ∧ x.ln.txt.size ≤ 200 ∧ (x.tl = true → x.ln.txt = ⟨#[]⟩)
def DrwP (C : Nat) (most : Nat) (w : World) (e : Ending) (w' : World) : Prop := ∃ op rs ra rc fv ls, e = .returned (.tuple #[.agg (ndA op ra rs.length rc), fv]) ∧ NdAt rs ra rc w' ∧ LfV op rs ∧ FrsAt fv ls w' ∧ ls.length ≤ most ∧ (∀ x ∈ ls, LnOk x) ∧ MkAt C w' ∧ GFr C w w'

theorem infoFr : (Try.prog.info? 38).map (fun i => (i.zero, i.size, i.bytes)) = some (some (.agg #[.int .i64 0, .int .i64 0, .string ⟨#[]⟩, .int .i64 0, .bool false]), 5, 48) := by kernel_rfl
/-- What the loop of draw keeps. -/
def DrI (C D most : Nat) (w5 : World) (lv av nv : Value) (wr : World) : Prop := ∃ (ls : List FrV) (z : Int) (k : Nat), av = .int .i64 z ∧ nv = .int .i64 (k : Int) ∧ wr.ownsRow D 38 5 lv ls.length (frvsC ls) ∧ 0 ≤ z ∧ z ≤ 20 + 30 * (ls.length : Int) ∧ ls.length + k ≤ most ∧ (∀ x ∈ ls, LnOk x) ∧ MkAt C wr ∧ GFr C w5 wr
theorem frvsC_snoc (ls : List FrV) (x : FrV) : frvsC (ls ++ [x]) = frvsC ls ++ frvC x := by simp [frvsC]
theorem row_mk {C : Nat} {W W' : World} {base : Nat} {e : TypeId} {size : Nat} {v : Value} {n : Nat} {xs : List Value} (h : W.ownsRow base e size v n xs) (hm : MkAt C W) (he : e ≠ 64) (hg : GFr C W W') : W'.ownsRow base e size v n xs := by
  refine h.kept hg ?_
  cases hv : v.ownBlock with
  | none => exact .inl rfl
  | some g =>
    refine .inr fun e' => ?_
    obtain ⟨cur, fz, q, -⟩ := row_type h hv
    obtain ⟨a, n, c, k, hb, -⟩ := hm
    rw [Option.some.inj e', hb] at q
    exact he (by injection (Option.some.inj q) with _ q2 _; exact q2.symm)
theorem lf_az : LfV 1 [(48, 57), (97, 122)] := lfv1 _ (by decide) (by decide)

set_option maxRecDepth 100000 in
set_option maxHeartbeats 4000000 in
theorem draw_any (C : Nat) (most : Nat) (hmost : most ≤ 100) (w : World) (h : MkAt C w) : Calls Try.prog 7 #[.pointer (some ⟨C, 0, none⟩), .int .i64 (most : Int)] w (DrwP C most w) := by
  obtain ⟨S, hS⟩ : ∃ S, w.heap.size = S := ⟨_, rfl⟩
  have hCS : C < S := by rw [← hS]; exact h.lt
  obtain ⟨W, hW⟩ : ∃ y, (w.alloc (.cells #[.int .i64 0, .slice none 0 0, .string ⟨#[]⟩, .slice none 0 0, .int .i64 0, .int .i64 0] 27)).alloc (.cells #[.int .u8 48, .int .u8 57, .int .u8 97, .int .u8 122] 59) = y := ⟨_, rfl⟩
  have hS0 : BkAt S 27 #[.int .i64 0, .slice none 0 0, .string ⟨#[]⟩, .slice none 0 0, .int .i64 0, .int .i64 0] W := by rw [← hW, ← hS]; exact (BkAt.new _ _ _).below (below_new _ _)
  have hnd : NdAt [(48, 57), (97, 122)] (some ⟨S + 1, 0, none⟩) 2 W := by
    have q := nd_new [(48, 57), (97, 122)] #[.int .u8 48, .int .u8 57, .int .u8 97, .int .u8 122] rfl (by simp) (w.alloc (.cells #[.int .i64 0, .slice none 0 0, .string ⟨#[]⟩, .slice none 0 0, .int .i64 0, .int .i64 0] 27))
    rw [World.size_alloc, hS] at q
    rw [← hW]
    exact q
  have hm : MkAt C W := by rw [← hW]; exact (h.alloc _).alloc _
  have hf : GFr C w W := by rw [← hW]; exact ((GFr.refl C w).alloc _).alloc _
  have hLf := leaf_any C W hm
  have H := Lib.hid (And.intro hLf (And.intro hS0 (And.intro hnd (And.intro hm hf))))
  have HW := Lib.hid (And.intro hW hS)
  clear h hS hW hS0 hnd hm hf hLf
  go_enter Try.func7, Try.ntmps7
  go_wp2_with fail
  rw [HW.out.1, HW.out.2]
  refine (H.out.1).mono ?_
  rintro e w1 ⟨op, rs, ra, rc, rfl, hn1, hl1, hm1, hf1⟩
  have hS1 : BkAt S 27 #[.int .i64 0, .slice none 0 0, .string ⟨#[]⟩, .slice none 0 0, .int .i64 0, .int .i64 0] w1 := (World.grownBy.block hf1 S H.out.2.1.lt (by simp; omega)).trans H.out.2.1
  have hc1 : NdAt [(48, 57), (97, 122)] (some ⟨S + 1, 0, none⟩) 2 w1 := row_mk H.out.2.2.1 H.out.2.2.2.1 (by decide) hf1
  have hw1 := hf1.size
  have hSw : S < w1.heap.size := hS1.lt
  obtain ⟨G, hG⟩ : ∃ G, w1.heap.size = G := ⟨_, rfl⟩
  obtain ⟨W2, hW2⟩ : ∃ y, w1.alloc (.cells #[.int .i64 0, .slice none 0 0, .string ⟨#[]⟩, .slice none 0 0, .int .i64 0, .int .i64 0, .int .i64 1, .slice (some ⟨S + 1, 0, none⟩) 2 2, .string ⟨#[]⟩, .slice none 0 0, .int .i64 0, .int .i64 0, .int .i64 op, .slice ra rs.length rc, .string ⟨#[]⟩, .slice none 0 0, .int .i64 0, .int .i64 0] 27) = y := ⟨_, rfl⟩
  have hb2 : Below w1.heap.size w1 W2 := by rw [← hW2]; exact below_new _ _
  have hG2 : BkAt G 27 #[.int .i64 0, .slice none 0 0, .string ⟨#[]⟩, .slice none 0 0, .int .i64 0, .int .i64 0, .int .i64 1, .slice (some ⟨S + 1, 0, none⟩) 2 2, .string ⟨#[]⟩, .slice none 0 0, .int .i64 0, .int .i64 0, .int .i64 op, .slice ra rs.length rc, .string ⟨#[]⟩, .slice none 0 0, .int .i64 0, .int .i64 0] W2 := by rw [← hW2, ← hG]; exact BkAt.new _ _ _
  have hnx := next_any C 3 W2 (hm1.below hb2) (by omega) (by omega)
  have K := Lib.hid (And.intro hnx (And.intro (hn1.below hb2) (And.intro hl1 (And.intro (hm1.below hb2) (And.intro (((H.out.2.2.2.2.trans hf1)).below hb2) (And.intro (hS1.below hb2) (And.intro (hc1.below hb2) hG2)))))))
  have HX := Lib.hid (And.intro hW2 hG)
  have hSG : S < G := by omega
  have hwG : w.heap.size ≤ S := by have := HW.out.2; omega
  clear hnx hn1 hl1 hm1 hf1 hS1 hc1 hb2 hG2 hW2 hG hw1 hSw
  unfold ndA
  go_wp2_with fail
  rw [HX.out.1, HX.out.2]
  clear HX
  refine K.out.1.mono ?_
  rintro e w3 ⟨⟨z, rfl, hz0, hz1⟩, hm3, hf3⟩
  obtain ⟨i, rfl⟩ : ∃ i : Nat, z = (i : Int) := ⟨z.toNat, by omega⟩
  have hi3 : i < 3 := by omega
  have hmW := K.out.2.2.2.1
  have hG3 : BkAt G 27 #[.int .i64 0, .slice none 0 0, .string ⟨#[]⟩, .slice none 0 0, .int .i64 0, .int .i64 0, .int .i64 1, .slice (some ⟨S + 1, 0, none⟩) 2 2, .string ⟨#[]⟩, .slice none 0 0, .int .i64 0, .int .i64 0, .int .i64 op, .slice ra rs.length rc, .string ⟨#[]⟩, .slice none 0 0, .int .i64 0, .int .i64 0] w3 := (World.grownBy.block hf3 G K.out.2.2.2.2.2.2.2.lt (by simp; omega)).trans K.out.2.2.2.2.2.2.2
  have hS3 : BkAt S 27 #[.int .i64 0, .slice none 0 0, .string ⟨#[]⟩, .slice none 0 0, .int .i64 0, .int .i64 0] w3 := (World.grownBy.block hf3 S K.out.2.2.2.2.2.1.lt (by simp; omega)).trans K.out.2.2.2.2.2.1
  have hn3 := row_mk K.out.2.1 hmW (by decide) hf3
  have hc3 := row_mk K.out.2.2.2.2.2.2.1 hmW (by decide) hf3
  have hx : ∃ op' rs' ra' rc', NdAt rs' ra' rc' w3 ∧ LfV op' rs' ∧ w3.cell? ⟨G, i * 6, none⟩ = some (.int .i64 op') ∧ w3.cell? ⟨G, i * 6 + 1, none⟩ = some (.slice ra' rs'.length rc') ∧ w3.cell? ⟨G, i * 6 + 2, none⟩ = some (.string ⟨#[]⟩) ∧ w3.cell? ⟨G, i * 6 + 3, none⟩ = some (.slice none 0 0) ∧ w3.cell? ⟨G, i * 6 + 4, none⟩ = some (.int .i64 0) ∧ w3.cell? ⟨G, i * 6 + 5, none⟩ = some (.int .i64 0) := by
    have h3 : i = 0 ∨ i = 1 ∨ i = 2 := by omega
    rcases h3 with rfl | rfl | rfl
    · exact ⟨0, [], none, 0, World.ownsRow_nil _ _ _ _, lfv0, hG3.cell 0, hG3.cell 1, hG3.cell 2, hG3.cell 3, hG3.cell 4, hG3.cell 5⟩
    · exact ⟨1, _, _, _, hc3, lf_az, hG3.cell 6, hG3.cell 7, hG3.cell 8, hG3.cell 9, hG3.cell 10, hG3.cell 11⟩
    · exact ⟨op, rs, ra, rc, hn3, K.out.2.2.1, hG3.cell 12, hG3.cell 13, hG3.cell 14, hG3.cell 15, hG3.cell 16, hG3.cell 17⟩
  obtain ⟨op', rs', ra', rc', hn', hl', k0, k1, k2, k3, k4, k5⟩ := hx
  have hGs := hG3.lt
  have hws := (GFr.trans K.out.2.2.2.2.1 hf3).size
  obtain ⟨B, hB⟩ : ∃ B, w3.heap.size = B := ⟨_, rfl⟩
  obtain ⟨W4, hW4⟩ : ∃ y, w3.alloc (.cells #[.int .i64 op', .slice ra' rs'.length rc', .string ⟨#[]⟩, .slice none 0 0, .int .i64 0, .int .i64 0] 27) = y := ⟨_, rfl⟩
  have hb4 : Below w3.heap.size w3 W4 := by rw [← hW4]; exact below_new _ _
  have hB4 : BkAt B 27 #[.int .i64 op', .slice ra' rs'.length rc', .string ⟨#[]⟩, .slice none 0 0, .int .i64 0, .int .i64 0] W4 := by rw [← hW4, ← hB]; exact BkAt.new _ _ _
  have hn4 := next_any C 3 W4 (hm3.below hb4) (by omega) (by omega)
  have hSB : S < B := by omega
  have M := Lib.hid (And.intro hn4 (And.intro hl' (And.intro (hn'.below hb4) (And.intro (hm3.below hb4) (And.intro ((K.out.2.2.2.2.1.trans hf3).below hb4) (And.intro (hS3.below hb4) hB4))))))
  have HX := Lib.hid (And.intro hW4 hB)
  clear hn' hl' hm3 hf3 hS3 hG3 hn3 hc3 hmW hb4 hB4 hn4 hW4 hB
  go_wp2_with fail
  rw [HX.out.1, HX.out.2]
  clear HX K H HW k0 k1 k2 k3 k4 k5
  refine M.out.1.mono ?_
  rintro e w4 ⟨⟨z, rfl, hz0, hz1⟩, hm4, hf4⟩
  have hn5 := next_any C ((most : Int) + 1) w4 hm4 (by omega) (by omega)
  have m1 : IntKind.i64.wrap (10 * z) = 10 * z := IntWalk.i64_in _ (by omega)
  have m2 : IntKind.i64.wrap ((most : Int) + 1) = (most : Int) + 1 := IntWalk.i64_in _ (by omega)
  have O := Lib.hid (And.intro hn5 (And.intro (M.out.2.2.2.2.1.trans hf4) (And.intro (row_mk M.out.2.2.1 M.out.2.2.2.1 (by decide) hf4) (And.intro ((World.grownBy.block hf4 S M.out.2.2.2.2.2.1.lt (by simp; omega)).trans M.out.2.2.2.2.2.1) (And.intro ((World.grownBy.block hf4 B M.out.2.2.2.2.2.2.lt (by simp; omega)).trans M.out.2.2.2.2.2.2) hm4)))))
  have hl' := M.out.2.1
  clear hn5 hm4 hf4 M
  go_wp2_with fail
  refine O.out.1.mono ?_
  rintro e w5 ⟨⟨n, rfl, hn0, hn1⟩, hm5, hf5⟩
  obtain ⟨n, rfl⟩ : ∃ i : Nat, n = (i : Int) := ⟨n.toNat, by omega⟩
  have hnm : n ≤ most := by omega
  obtain ⟨D, hD⟩ : ∃ D, w5.heap.size = D := ⟨_, rfl⟩
  have hS5 : BkAt S 27 #[.int .i64 0, .slice none 0 0, .string ⟨#[]⟩, .slice none 0 0, .int .i64 0, .int .i64 0] w5 := (World.grownBy.block hf5 S (lt_of_some O.out.2.2.2.1) (by simp; omega)).trans O.out.2.2.2.1
  have hB5 : BkAt B 27 #[.int .i64 op', .slice ra' rs'.length rc', .string ⟨#[]⟩, .slice none 0 0, .int .i64 0, .int .i64 0] w5 := (World.grownBy.block hf5 B (lt_of_some O.out.2.2.2.2.1) (by simp; omega)).trans O.out.2.2.2.2.1
  have hBD : B < D := by have h1 := hB5.lt; omega
  have hm4 : MkAt C w4 := O.out.2.2.2.2.2
  have P := Lib.hid (And.intro hm5 (And.intro (O.out.2.1.trans hf5) (And.intro (row_mk O.out.2.2.1 hm4 (by decide) hf5) (And.intro hS5 (And.intro hB5 hD)))))
  have z1 : (0 : Int) ≤ 10 * z := by omega
  have z2 : 10 * z ≤ 20 := by omega
  obtain ⟨at0, hat⟩ : ∃ y, 10 * z = y := ⟨_, rfl⟩
  rw [hat] at z1 z2 ⊢
  clear hm5 hf5 hm4 hS5 hB5 hD hat O m1 m2 hz0 hz1
  obtain ⟨i0, hi, hq0, hq1, hq2⟩ := info_parts infoFr
  go_wp2_with fail
  go_loopw [7, 8, 9] (DrI C D most w5) (fun _ _ nv _ => (intOf nv).toNat)
  case atStart => exact ⟨[], at0, n, rfl, rfl, World.ownsRow_nil _ _ _ _, z1, by simpa using z2, by simpa using hnm, fun x hx => absurd hx (by simp), P.out.1, GFr.refl _ _⟩
  case round =>
    obtain ⟨ls, y, k, rfl, rfl, hrow, hy0, hy1, hlk, hok, hm, hf⟩ := hrel
    obtain ⟨va, vn, vc, rfl⟩ := row_slice hrow
    by_cases hk : 0 < k
    · have d1 : decide ((0 : Int) < (k : Int)) = true := by rw [decide_eq_true_iff]; omega
      have hnr := next_any C 30 wr hm (by omega) (by omega)
      have HI := Lib.hid (And.intro hnr (And.intro hrow (And.intro hok (And.intro hf hm))))
      clear hnr hrow hok hf hm
      go_wp2_with fail
      refine HI.out.1.mono ?_
      rintro e w6 ⟨⟨q, rfl, q0, q1⟩, hm6, hf6⟩
      have g1 : IntKind.i64.wrap (1 + q) = 1 + q := IntWalk.i64_in _ (by omega)
      obtain ⟨L, hL⟩ : ∃ L, 1 + q = L := ⟨_, rfl⟩
      rw [hL] at g1
      have HJ := Lib.hid (And.intro (line_any C w6 hm6) hf6)
      clear hm6 hf6
      go_wp2_with fail
      refine HJ.out.1.mono ?_
      rintro e w7 ⟨⟨tx, rfl, htx⟩, hm7, hf7⟩
      obtain ⟨X, hX⟩ : ∃ X, w7.heap.size = X := ⟨_, rfl⟩
      obtain ⟨W8, hW8⟩ : ∃ x, w7.alloc (.cells #[.int .i64 y, .int .i64 L, .string tx, .int .i64 0, .bool false] 38) = x := ⟨_, rfl⟩
      have hb8 : Below w7.heap.size w7 W8 := by rw [← hW8]; exact below_new _ _
      have hX8 : BkAt X 38 #[.int .i64 y, .int .i64 L, .string tx, .int .i64 0, .bool false] W8 := by rw [← hW8, ← hX]; exact BkAt.new _ _ _
      have hfa := GFr.below ((HI.out.2.2.2.1.trans HJ.out.2).trans hf7) hb8
      have hDX : D ≤ X := by have h1 := ((HI.out.2.2.2.1.trans HJ.out.2).trans hf7).size; have h2 := P.out.2.2.2.2.2; omega
      have hne : ∀ g, (Value.slice va vn vc).ownBlock = some g → g ≠ X := fun g hg e => by have h1 := (World.ownsRow.lt HI.out.2.1 g hg).2; have h2 := (HJ.out.2.trans hf7).size; omega
      have hra := row_below (row_mk HI.out.2.1 HI.out.2.2.2.2 (by decide) (HJ.out.2.trans hf7)) hb8
      have HK := Lib.hid (And.intro (next_any C 9 W8 (hm7.below hb8) (by omega) (by omega)) (And.intro hX8 (And.intro hra (And.intro hfa (And.intro htx (hm7.below hb8))))))
      have HX := Lib.hid (And.intro hW8 hX)
      clear hm7 hf7 hb8 hX8 hra hfa htx hW8 hX
      go_wp2_with fail
      rw [HX.out.1, HX.out.2]
      clear HX HJ
      refine HK.out.1.mono ?_
      rintro e w9 ⟨⟨r, rfl, r0, r1⟩, hm9, hf9⟩
      have hX9 : BkAt X 38 #[.int .i64 y, .int .i64 L, .string tx, .int .i64 0, .bool false] w9 := (World.grownBy.block hf9 X (lt_of_some HK.out.2.1) (by simp; omega)).trans HK.out.2.1
      have hr9 := row_mk HK.out.2.2.1 HK.out.2.2.2.2.2 (by decide) hf9
      have HL := Lib.hid (And.intro hX9 (And.intro hr9 (And.intro hm9 (And.intro (HK.out.2.2.2.1.trans hf9) HK.out.2.2.2.2.1))))
      clear hX9 hr9 hm9 hf9 HK
      by_cases hr8 : r = 8
      case' pos =>
        subst hr8
        have x4 := HL.out.1.free 4
        have x2 := HL.out.1.free 2
        have x4c : w9.cell? ⟨X, 4, none⟩ = some (.bool false) := HL.out.1.cell 4
        have x2c : w9.cell? ⟨X, 2, none⟩ = some (.string tx) := HL.out.1.cell 2
        go_upto_region 10 with (fail)
        have k5 : BkAt X 38 #[.int .i64 y, .int .i64 L, .string ⟨#[]⟩, .int .i64 0, .bool true] ((w9.setCell ⟨X, 4, none⟩ (.bool true)).setCell ⟨X, 2, none⟩ (.string ⟨#[]⟩)) := (HL.out.1.set 4 _).set 2 _
        have k6 : ChP (fun k => k = X) w9 ((w9.setCell ⟨X, 4, none⟩ (.bool true)).setCell ⟨X, 2, none⟩ (.string ⟨#[]⟩)) := ((ChP.refl (fun k => k = X) w9).set X 4 _ rfl).set X 2 _ rfl
        obtain ⟨W5, hW5⟩ : ∃ x, (w9.setCell ⟨X, 4, none⟩ (.bool true)).setCell ⟨X, 2, none⟩ (.string ⟨#[]⟩) = x := ⟨_, rfl⟩
        rw [hW5] at k5 k6 ⊢
        obtain ⟨t, bb, k5, htt, htb⟩ : ∃ (t : ByteArray) (bb : Bool), BkAt X 38 #[.int .i64 y, .int .i64 L, .string t, .int .i64 0, .bool bb] W5 ∧ (bb = true → t = ⟨#[]⟩) ∧ t.size ≤ 200 := ⟨⟨#[]⟩, true, k5, fun _ => rfl, by decide⟩
      case' neg =>
        have e1 : (r == 8) = false := by rw [beq_eq_false_iff_ne]; exact hr8
        go_upto_region 10 with (fail)
        obtain ⟨W5, hW5⟩ : ∃ x, x = w9 := ⟨_, rfl⟩
        have k6 : ChP (fun k => k = X) w9 W5 := by rw [hW5]; exact ChP.refl _ _
        rw [← hW5]
        obtain ⟨t, bb, k5, htt, htb⟩ : ∃ (t : ByteArray) (bb : Bool), BkAt X 38 #[.int .i64 y, .int .i64 L, .string t, .int .i64 0, .bool bb] W5 ∧ (bb = true → t = ⟨#[]⟩) ∧ t.size ≤ 200 := ⟨tx, false, by rw [hW5]; exact HL.out.1, fun h => Bool.noConfusion h, HL.out.2.2.2.2⟩
      all_goals
        clear hW5
        have hr5 := row_ch HL.out.2.1 k6 (fun g hg e => hne g hg e)
        have hm5' : MkAt C W5 := HL.out.2.2.1.ch k6 (by omega)
        have hf5' : GFr C w5 W5 := HL.out.2.2.2.1.ch k6 (by have := P.out.2.2.2.2.2; omega)
        have j0 : W5.cell? ⟨X, 0, none⟩ = some (.int .i64 y) := k5.cell 0
        have j1 : W5.cell? ⟨X, 1, none⟩ = some (.int .i64 L) := k5.cell 1
        have j2 : W5.cell? ⟨X, 2, none⟩ = some (.string t) := k5.cell 2
        have j3 : W5.cell? ⟨X, 3, none⟩ = some (.int .i64 0) := k5.cell 3
        have j4 : W5.cell? ⟨X, 4, none⟩ = some (.bool bb) := k5.cell 4
        have HV := Lib.hid (And.intro hr5 (And.intro k5 (And.intro hm5' (And.intro hf5' hne))))
        clear hr5 k5 k6 hm5' hf5' hne
        go_wp2_with (at_builtin; refine wpList_append_own_at _ rfl (.tmp 46) (.tmp 48) 28 rfl D 38 i0 (.agg #[.int .i64 0, .int .i64 0, .string ⟨#[]⟩, .int .i64 0, .bool false]) 5 48 Try.underlying28 hi hq0 hq1 hq2 rfl (by decide) _ ls.length _ rfl (row_below HV.out.1 (below_new _ _)) ⟨W5.heap.size, 0, none⟩ 1 1 [.int .i64 y, .int .i64 L, .string t, .int .i64 0, .bool bb] rfl rfl ?c1 ?c2 ?c3 ?c4 ?c5 ?_)
        case c1 =>
          intro j u hj
          rw [Addr.add_lit, Nat.zero_add, Lib.cell_of_heap (heap_alloc_new W5 _)]
          simpa using hj
        case c2 =>
          intro u hu
          simp only [List.mem_cons, List.not_mem_nil, or_false] at hu
          rcases hu with rfl | rfl | rfl | rfl | rfl <;> rfl
        case c3 => unfold maxLen; omega
        case c4 => omega
        case c5 => have h2 := HV.out.2.2.2.1.size; have h3 := P.out.2.2.2.2.2; simp; omega
        intro v' w6' hown hgrow _ _
        have hD5 := P.out.2.2.2.2.2
        have hs5 := HV.out.2.2.2.1.size
        have hlt := World.ownsRow.lt HV.out.1
        have k8 : BkAt X 38 #[.int .i64 y, .int .i64 L, .string t, .int .i64 0, .bool bb] w6' := (hgrow.block X (by have := lt_of_some HV.out.2.1; simp; omega) (fun e => HV.out.2.2.2.2 X e.symm rfl)).trans ((Below.heap_alloc _ _ X (lt_of_some HV.out.2.1)).trans HV.out.2.1)
        have m1 : w6'.cell? ⟨X, 1, none⟩ = some (.int .i64 L) := k8.cell 1
        have hm6 : MkAt C w6' := (HV.out.2.2.1.alloc _).grown hgrow (fun b hb => by have := (hlt b hb).1; omega)
        have hf6 : GFr C w5 w6' := by
          have hfa := HV.out.2.2.2.1.alloc (.cells #[.int .i64 y, .int .i64 L, .string t, .int .i64 0, .bool bb] 38)
          exact ⟨(World.grownBy.os hgrow).trans hfa.os, (World.grownBy.tape hgrow).trans hfa.tape, (World.grownBy.output hgrow).trans hfa.output, Nat.le_trans hfa.size (World.grownBy.size hgrow), fun i hi hne => (World.grownBy.block hgrow i (Nat.lt_of_lt_of_le hi hfa.size) (fun e => by have := (hlt i e.symm).1; omega)).trans (hfa.block i hi hne)⟩
        have hok6 : ∀ x ∈ ls ++ [(⟨⟨y, L, t⟩, 0, bb⟩ : FrV)], LnOk x := fun x hx => by
          rcases List.mem_append.1 hx with hx | hx
          · exact HI.out.2.2.1 x hx
          · simp only [List.mem_singleton] at hx
            subst hx
            exact ⟨⟨hy0, by show y ≤ _; omega, by show 0 ≤ L; omega, by show L ≤ _; omega⟩, htb, htt⟩
        have hrow6 : w6'.ownsRow D 38 5 v' (ls ++ [(⟨⟨y, L, t⟩, 0, bb⟩ : FrV)]).length (frvsC (ls ++ [⟨⟨y, L, t⟩, 0, bb⟩])) := by
          rw [frvsC_snoc, List.length_append]
          exact hown
        have e1 : IntKind.i64.wrap (y + L) = y + L := IntWalk.i64_in _ (by omega)
        have e2 : IntKind.i64.wrap ((k : Int) - 1) = ((k - 1 : Nat) : Int) := by rw [IntWalk.i64_in _ (by omega)]; omega
        have HW := Lib.hid (And.intro hm6 (And.intro hf6 (And.intro hok6 hrow6)))
        clear hown hgrow hm6 hf6 hok6 hrow6 k8 hlt
        go_wp2_with fail
        go_roundw
        case rel => exact ⟨_, y + L, k - 1, rfl, rfl, HW.out.2.2.2, by omega, by rw [List.length_append]; simp; omega, by rw [List.length_append]; simp; omega, HW.out.2.2.1, HW.out.1, HW.out.2.1⟩
        case measure => simp [intOf]; omega
    · obtain rfl : k = 0 := by omega
      have hb : BkAt B 27 #[.int .i64 op', .slice ra' rs'.length rc', .string ⟨#[]⟩, .slice none 0 0, .int .i64 0, .int .i64 0] wr := (World.grownBy.block hf B (lt_of_some P.out.2.2.2.2.1) (by simp; omega)).trans P.out.2.2.2.2.1
      have hs : BkAt S 27 #[.int .i64 0, .slice none 0 0, .string ⟨#[]⟩, .slice none 0 0, .int .i64 0, .int .i64 0] wr := (World.grownBy.block hf S (lt_of_some P.out.2.2.2.1) (by simp; omega)).trans P.out.2.2.2.1
      obtain ⟨b0, b1, b2, b3, b4, b5⟩ : wr.cell? ⟨B, 0, none⟩ = some (.int .i64 op') ∧ wr.cell? ⟨B, 1, none⟩ = some (.slice ra' rs'.length rc') ∧ wr.cell? ⟨B, 2, none⟩ = some (.string ⟨#[]⟩) ∧ wr.cell? ⟨B, 3, none⟩ = some (.slice none 0 0) ∧ wr.cell? ⟨B, 4, none⟩ = some (.int .i64 0) ∧ wr.cell? ⟨B, 5, none⟩ = some (.int .i64 0) := ⟨hb.cell 0, hb.cell 1, hb.cell 2, hb.cell 3, hb.cell 4, hb.cell 5⟩
      obtain ⟨r0, r1, r2, r3, r4, r5⟩ : wr.cell? ⟨S, 0, none⟩ = some (.int .i64 0) ∧ wr.cell? ⟨S, 1, none⟩ = some (.slice none 0 0) ∧ wr.cell? ⟨S, 2, none⟩ = some (.string ⟨#[]⟩) ∧ wr.cell? ⟨S, 3, none⟩ = some (.slice none 0 0) ∧ wr.cell? ⟨S, 4, none⟩ = some (.int .i64 0) ∧ wr.cell? ⟨S, 5, none⟩ = some (.int .i64 0) := ⟨hs.cell 0, hs.cell 1, hs.cell 2, hs.cell 3, hs.cell 4, hs.cell 5⟩
      obtain ⟨q0, q1, q2, q3, q4, q5⟩ : wr.frozen? ⟨S, 0, none⟩ = false ∧ wr.frozen? ⟨S, 1, none⟩ = false ∧ wr.frozen? ⟨S, 2, none⟩ = false ∧ wr.frozen? ⟨S, 3, none⟩ = false ∧ wr.frozen? ⟨S, 4, none⟩ = false ∧ wr.frozen? ⟨S, 5, none⟩ = false := ⟨hs.free 0, hs.free 1, hs.free 2, hs.free 3, hs.free 4, hs.free 5⟩
      have s6 := set6_bk hs (.int .i64 op') (.slice ra' rs'.length rc') (.string ⟨#[]⟩) (.slice none 0 0) (.int .i64 0) (.int .i64 0)
      have c6 := set6_ch (W := wr) S (.int .i64 op') (.slice ra' rs'.length rc') (.string ⟨#[]⟩) (.slice none 0 0) (.int .i64 0) (.int .i64 0)
      have hfw := (P.out.2.1.trans hf).ch c6 hwG
      have hmz := hm.ch c6 hCS
      have hrw := row_ch hrow c6 (fun g hg e => by have h1 := (World.ownsRow.lt hrow g hg).1; omega)
      have hnw := row_mk P.out.2.2.1 P.out.1 (by decide) hf
      have hnz := row_ch hnw c6 (fun g hg e => row_ne hnw hs (by decide) hg e)
      have HZ := Lib.hid (And.intro s6 (And.intro hnz (And.intro hl' (And.intro (ownsRow_base hrw (Nat.zero_le _)) (And.intro (show ls.length ≤ most by omega) (And.intro hok (And.intro hmz hfw)))))))
      clear s6 c6 hfw hmz hrw hnw hnz hb hs hf hm hok hrow
      go_wp2_with fail
      refine bodyPost_ret (results_ct rfl _ _ S 27 (ndA op' ra' rs'.length rc') (0, 0) _ rfl HZ.out.1 Try.underlying27 rfl sizeNd) rfl ?_
      exact ⟨op', rs', ra', rc', _, ls, rfl, HZ.out.2.1, HZ.out.2.2.1, HZ.out.2.2.2.1, HZ.out.2.2.2.2.1, HZ.out.2.2.2.2.2.1, HZ.out.2.2.2.2.2.2.1, HZ.out.2.2.2.2.2.2.2⟩
end Go.Proofs.Ytfkgicakiapmaaa

namespace Go.Proofs.Ytfkgicakiapmaaa
open Go Go.RowKit

def awL : List FrV := [⟨⟨0, 2, ⟨#[49]⟩⟩, 0, false⟩, ⟨⟨2, 2, ⟨#[97]⟩⟩, 0, false⟩, ⟨⟨4, 2, ⟨#[50]⟩⟩, 0, false⟩]
theorem aw_asm : asmB (lfM 1 [(48, 57)]) (decide ((1 : Int) = 0)) awL = [⟨0, 4, ⟨#[]⟩, [⟨0, 2, ⟨#[49]⟩⟩, ⟨2, 2, ⟨#[97]⟩⟩]⟩, ⟨4, 6, ⟨#[]⟩, [⟨4, 2, ⟨#[50]⟩⟩]⟩] := by
  rfl

theorem bksC_get : ∀ (l : List BkV) (i : Nat) (h : i < l.length) (j : Nat), j < 4 → (bksC l)[i * 4 + j]? = (bkC l[i])[j]?
  | [], i, h, _, _ => by simp at h
  | x :: t, 0, h, j, hj => by
    have e : bksC (x :: t) = bkC x ++ bksC t := by simp [bksC]
    rw [e, Nat.zero_mul, Nat.zero_add, List.getElem?_append_left (by simp [bkC]; omega)]
    rfl
  | x :: t, i + 1, h, j, hj => by
    have e : bksC (x :: t) = bkC x ++ bksC t := by simp [bksC]
    have hl : (bkC x).length = 4 := rfl
    have ih := bksC_get t i (by simp at h; omega) j hj
    rw [e, List.getElem?_append_right (by omega), hl, show (i + 1) * 4 + j - 4 = i * 4 + j by omega]
    simpa using ih
theorem bks_form {base : Nat} {v : Value} {l : List BkV} {w : World} (h : w.ownsRow base 44 4 v l.length (bksC l)) : ∃ a c, v = .slice a l.length c ∧ l.length ≤ c ∧ ∀ i (hi : i < l.length), ∃ g, a = some ⟨g, 0, none⟩ ∧ g < w.heap.size ∧ ∀ j, j < 4 → w.cell? ⟨g, i * 4 + j, none⟩ = (bkC l[i])[j]? := by
  rcases row_form h with ⟨h1, h2⟩ | ⟨g, c, h1, -, hg, h3, -⟩
  · exact ⟨none, 0, by rw [h1, h2], by omega, fun i hi => by omega⟩
  · subst h1
    refine ⟨_, c, rfl, h3, fun i hi => ⟨g, rfl, hg, fun j hj => ?_⟩⟩
    exact (World.ownsRow.cellAt h (i * 4 + j) (by omega)).trans (bksC_get l i hi j hj)
/-- A row that has just been made. -/
theorem row_lit (base : Nat) (e : TypeId) (size n : Nat) (cs : Array Value) (hn : cs.size = n * size) (hm : n ≤ maxLen) (w : World) (hb : base ≤ w.heap.size) : (w.alloc (.cells cs e)).ownsRow base e size (.slice (some ⟨w.heap.size, 0, none⟩) n n) n cs.toList :=
  ⟨by simp [hn], .inr ⟨w.heap.size, n, cs, rfl, hb, heap_alloc_new _ _, Nat.le_refl _, hm, hn, by rw [← hn, ← Array.length_toList, List.take_length]⟩⟩

set_option maxRecDepth 100000 in
set_option maxHeartbeats 4000000 in
theorem awake_any (w : World) : Calls Try.prog 6 #[] w fun e w' => e = .returned (.bool true) ∧ Below w.heap.size w w' := by
  obtain ⟨W, hW⟩ : ∃ y, ((w.alloc (.cells #[.int .u8 48, .int .u8 57] 59)).alloc (.cells #[.int .i64 1, .slice (some ⟨w.heap.size, 0, none⟩) 1 1, .string ⟨#[]⟩, .slice none 0 0, .int .i64 0, .int .i64 0] 27)).alloc (.cells #[.int .i64 0, .int .i64 2, .string ⟨#[49]⟩, .int .i64 0, .bool false, .int .i64 2, .int .i64 2, .string ⟨#[97]⟩, .int .i64 0, .bool false, .int .i64 4, .int .i64 2, .string ⟨#[50]⟩, .int .i64 0, .bool false] 38) = y := ⟨_, rfl⟩
  have hb : Below w.heap.size w W := by rw [← hW]; exact bl_trans' (bl_trans' (below_new _ _) (below_new _ _)) (below_new _ _)
  have hnd : NdAt [(48, 57)] (some ⟨w.heap.size, 0, none⟩) 1 W := by
    rw [← hW]
    exact ((nd_new [(48, 57)] #[.int .u8 48, .int .u8 57] rfl (by simp) w).below (below_new _ _)).below (below_new _ _)
  have hfr : FrsAt (.slice (some ⟨w.heap.size + 1 + 1, 0, none⟩) 3 3) awL W := by
    have q := row_lit 0 38 5 3 #[.int .i64 0, .int .i64 2, .string ⟨#[49]⟩, .int .i64 0, .bool false, .int .i64 2, .int .i64 2, .string ⟨#[97]⟩, .int .i64 0, .bool false, .int .i64 4, .int .i64 2, .string ⟨#[50]⟩, .int .i64 0, .bool false] rfl (by unfold maxLen; omega) ((w.alloc (.cells #[.int .u8 48, .int .u8 57] 59)).alloc (.cells #[.int .i64 1, .slice (some ⟨w.heap.size, 0, none⟩) 1 1, .string ⟨#[]⟩, .slice none 0 0, .int .i64 0, .int .i64 0] 27)) (Nat.zero_le _)
    simp only [World.size_alloc] at q
    rw [← hW]
    exact q
  have hm : MtC 1 [(48, 57)] (some ⟨w.heap.size, 0, none⟩) 1 (lfM 1 [(48, 57)]) := match_leaf 1 (.inl rfl) _ (by simp) (chk_lf 1 _ (by decide) (.inl rfl)) _ _
  have ha := assemble_any 1 [(48, 57)] _ 1 _ (fun _ => hm) _ awL (by decide) (fun x hx => by simp only [awL, List.mem_cons, List.not_mem_nil, or_false] at hx; rcases hx with rfl | rfl | rfl <;> exact ⟨⟨by decide, by decide, by decide, by decide⟩, by decide⟩) W hfr hnd
  rw [aw_asm] at ha
  have H := Lib.hid (And.intro ha hb)
  have HW := Lib.hid hW
  clear hb hnd hfr hm ha hW
  go_enter Try.func6, Try.ntmps6
  go_wp2_with fail
  rw [HW.out]
  clear HW
  refine H.out.1.mono ?_
  rintro e w1 ⟨v, xs, rfl, hrow, hxs, hel, hb1⟩
  match xs, hxs, hrow, hel with
  | [⟨s1, p1⟩, ⟨s2, p2⟩], hxs, hrow, hel =>
    obtain ⟨rfl, rfl⟩ : p1 = ⟨0, 4, ⟨#[]⟩, [⟨0, 2, ⟨#[49]⟩⟩, ⟨2, 2, ⟨#[97]⟩⟩]⟩ ∧ p2 = ⟨4, 6, ⟨#[]⟩, [⟨4, 2, ⟨#[50]⟩⟩]⟩ := by
      injection hxs with e1 e2
      injection e2 with e2 e3
      exact ⟨e1, e2⟩
    obtain ⟨g1, c1, he, -, -⟩ := lns_form (hel _ (.head _)) (by simp)
    have he2 : s1 = .slice (some ⟨g1, 0, none⟩) 2 c1 := he
    clear he
    subst he2
    obtain ⟨ba, bc, rfl, -, hcell⟩ := bks_form hrow
    obtain ⟨g, rfl, hg, hc0⟩ := hcell 0 (by simp)
    obtain ⟨g', hge, -, hc1⟩ := hcell 1 (by simp)
    obtain rfl : g = g' := by cases hge; rfl
    have c0 : w1.cell? ⟨g, 1, none⟩ = some (.int .i64 4) := hc0 1 (by decide)
    have c1' : w1.cell? ⟨g, 2, none⟩ = some (.slice (some ⟨g1, 0, none⟩) 2 c1) := hc0 2 (by decide)
    have c2 : w1.cell? ⟨g, 4, none⟩ = some (.int .i64 4) := hc1 0 (by decide)
    have HB := Lib.hid (bl_trans' H.out.2 hb1)
    clear hrow hxs hel hb1 hcell hc0 hc1 hge
    go_wp2_with fail
    refine bodyPost_ret (v := .bool true) (by simp [results, Try.results6]) rfl ?_
    exact ⟨rfl, HB.out⟩
end Go.Proofs.Ytfkgicakiapmaaa
