/- The statement that Recover returns what the reference does. -/
import Derived.Test.YtpbfgafkoodeoaaDoorRvI
import Derived.Test.YtpbfgafkoodeoaaDoorRvK
import Derived.Test.YtpbfgafkoodeoaaDoorRvO
import Derived.Test.YtpbfgafkoodeoaaDoorRvP
namespace Go.Proofs.YtpbfgafkoodeoaaDoor
open Go.RowKit

/-- What the outer round finds. -/
structure CInv (w : World) (b3 : Nat) (X : Array Value) (wr : World) : Prop where
  bl : Below w.heap.size w wr
  b3 : RowAt b3 9 X wr
theorem CInv.below {w : World} {b3 : Nat} {X : Array Value} {wr wd : World} (h : CInv w b3 X wr) (hb : Below wr.heap.size wr wd) : CInv w b3 X wd := ⟨h.bl.trans (hb.mono h.bl.size), h.b3.below hb⟩
/-- What the inner round finds. -/
structure DInv (w : World) (b3 : Nat) (X : Array Value) (b4 : Nat) (Z : Array Value) (wr : World) : Prop where
  c : CInv w b3 X wr
  b4 : RowAt b4 28 Z wr
theorem DInv.below {w : World} {b3 : Nat} {X : Array Value} {b4 : Nat} {Z : Array Value} {wr wd : World} (h : DInv w b3 X b4 Z wr) (hb : Below wr.heap.size wr wd) : DInv w b3 X b4 Z wd := ⟨h.c.below hb, h.b4.below hb⟩

set_option maxRecDepth 100000 in
set_option linter.unusedSimpArgs false in
set_option maxHeartbeats 16000000 in
theorem lawRecovers (str : ByteArray) (sv : Value) (l : List UInt8) (ref year zone : Int) (first : Bool)
    (t0 : -9223372036854775808 ≤ ref) (t1 : ref ≤ 9223372036854775807) (u0 : -9223372036854775808 ≤ year) (u1 : year ≤ 9223372036854775807) (z0 : -9223372036854775808 ≤ zone) (z1 : zone ≤ 9223372036854775807)
    (w : World) (hA : ArgB w w.heap.size sv l) (hT : DaysT w) (hM : MonT w) :
    Calls Tryd.prog 3 #[.string str, sv, .int .i64 ref, .int .i64 year, .int .i64 zone, .bool first] w fun e w' => e = .returned (.bool true) ∧ Below w.heap.size w w' := by
  have haw := Lib.hid (fun W h1 h2 => awake6_any W h1 h2)
  have HT := Lib.hid hT
  have HM := Lib.hid hM
  have HA := Lib.hid hA
  have hnew : ∀ W, ArgB W W.heap.size sv l → Calls Tryd.prog 5 #[sv, .int .i64 60] W fun e w' => e = .returned (.pointer (some ⟨W.heap.size, 0, none⟩)) ∧ MkAt W.heap.size w' ∧ Below W.heap.size W w' := fun W h => new_any sv l 60 W h (by omega)
  have HNW := Lib.hid hnew
  have h1 := fun W => near6_any ref 0 253402300799999 t0 t1 (by decide) (by decide) (by decide) W
  have h2 := fun W => near6_any ref (-62135596800000) (-62035596800001) t0 t1 (by decide) (by decide) (by decide) W
  have h3 := fun W => near6_any zone (-1440) 1440 z0 z1 (by decide) (by decide) (by decide) W
  have h4 := fun W => near6_any ref 0 99999999 t0 t1 (by decide) (by decide) (by decide) W
  have h5 := fun W => near6_any year 0 10000 u0 u1 (by decide) (by decide) (by decide) W
  have hb4 := nearN_bd (x := ref) (lo := 0) (hi := 99999999) (by decide)
  obtain ⟨r1, hr1⟩ : ∃ r, nearN ref 0 253402300799999 = r := ⟨_, rfl⟩
  obtain ⟨r2, hr2⟩ : ∃ r, nearN ref (-62135596800000) (-62035596800001) = r := ⟨_, rfl⟩
  obtain ⟨r3, hr3⟩ : ∃ r, nearN zone (-1440) 1440 = r := ⟨_, rfl⟩
  obtain ⟨r4, hr4⟩ : ∃ r, nearN ref 0 99999999 = r := ⟨_, rfl⟩
  obtain ⟨r5, hr5⟩ : ∃ r, nearN year 0 10000 = r := ⟨_, rfl⟩
  rw [hr1] at h1
  rw [hr2] at h2
  rw [hr3] at h3
  rw [hr4] at h4 hb4
  rw [hr5] at h5
  obtain ⟨hb40, hb41⟩ := hb4
  have HN1 := Lib.hid h1
  have HN2 := Lib.hid h2
  have HN3 := Lib.hid h3
  have HN4 := Lib.hid h4
  have HN5 := Lib.hid h5
  clear hT hM hA hnew h1 h2 h3 h4 h5 hr1 hr2 hr3 hr4 hr5 t0 t1 u0 u1 z0 z1
  go_enter Tryd.func3, Tryd.ntmps3
  go_wp2_with fail
  refine (haw.out _ HT.out HM.out).mono ?_
  rintro e w1 ⟨rfl, hb1⟩
  have HA1 := Lib.hid (HA.out.below hb1)
  have B1 := Lib.hid hb1
  clear hb1 haw
  go_wp2_with fail
  refine (HNW.out _ HA1.out).mono ?_
  rintro e w2 ⟨rfl, hm2, hb2⟩
  have K2 := Lib.hid (And.intro hm2 hb2)
  obtain ⟨C, hC⟩ : ∃ C, w1.heap.size = C := ⟨_, rfl⟩
  rw [hC] at K2 ⊢
  have HC := Lib.hid hC
  clear hm2 hb2 hC HNW HA1 HA
  go_wp2_with fail
  refine (text_any C _ K2.out.1).mono ?_
  rintro e w3 ⟨⟨s1, rfl, q1⟩, hm3, hf3⟩
  have K3 := Lib.hid (And.intro hm3 (K2.out.2.trans (hf3.toBelow (Nat.le_trans (Nat.le_of_eq HC.out.symm) K2.out.2.size))))
  clear hm3 hf3
  go_wp2_with fail
  refine (text_any C _ K3.out.1).mono ?_
  rintro e w4 ⟨⟨s2, rfl, q2⟩, hm4, hf4⟩
  have B4 := Lib.hid (bl_trans B1.out (show Below w1.heap.size w1 w4 from HC.out ▸ K3.out.2.trans (hf4.toBelow (Nat.le_trans (Nat.le_of_eq HC.out.symm) K3.out.2.size))))
  clear hm4 hf4
  go_wp2_with fail
  have hX1 : CInv w w4.heap.size #[.string str, .string s1, .string s2] (w4.alloc (.cells #[.string str, .string s1, .string s2] 9)) := ⟨bl_trans B4.out (below_alloc _ _), RowAt.new _ _ w4⟩
  obtain ⟨X, hX⟩ : ∃ X, w4.alloc (.cells #[.string str, .string s1, .string s2] 9) = X := ⟨_, rfl⟩
  obtain ⟨b3, hb3⟩ : ∃ b, w4.heap.size = b := ⟨_, rfl⟩
  rw [hX, hb3] at hX1
  rw [hX, hb3]
  have HX1 := Lib.hid hX1
  clear hX hb3 hX1 B4 K3 K2 HC B1 q1 q2
  go_loopw [35] (fun u wr => ∃ k : Nat, k ≤ 3 ∧ u = .int .i64 k ∧ CInv w b3 #[.string str, .string s1, .string s2] wr) (fun u _ => 3 - (intOf u).toNat)
  case atStart => exact ⟨0, by omega, rfl, HX1.out⟩
  case round =>
    obtain ⟨k, hk, rfl, hinv⟩ := hrel
    obtain ⟨wo, rfl⟩ : ∃ wo : World, wo = wr := ⟨_, rfl⟩
    by_cases hlt : k < 3
    · have hdk : decide ((k : Int) < 3) = true := by rw [decide_eq_true_iff]; omega
      obtain ⟨x, hx⟩ : ∃ x : ByteArray, wo.cell? ⟨b3, k, none⟩ = some (.string x) := by
        have h := hinv.b3.cell k
        have hk012 : k = 0 ∨ k = 1 ∨ k = 2 := by omega
        rcases hk012 with rfl | rfl | rfl
        · exact ⟨_, h⟩
        · exact ⟨_, h⟩
        · exact ⟨_, h⟩
      have HI := Lib.hid hinv
      clear hinv HX1
      go_wp2_with fail
      refine (HN1.out _).mono ?_
      rintro e w' ⟨rfl, rfl⟩
      clear hx
      go_wp2_with fail
      refine (HN2.out _).mono ?_
      rintro e w' ⟨rfl, rfl⟩
      go_wp2_with fail
      refine (HN3.out _).mono ?_
      rintro e w' ⟨rfl, rfl⟩
      go_wp2_with fail
      refine (HN4.out _).mono ?_
      rintro e w' ⟨rfl, rfl⟩
      go_wp2_with fail
      refine (HN5.out _).mono ?_
      rintro e w' ⟨rfl, rfl⟩
      go_wp2_with fail
      have hY1 : DInv w b3 #[.string str, .string s1, .string s2] wo.heap.size #[.int .i64 ref, .int .i64 year, .int .i64 zone, .int .i64 r1, .int .i64 0, .int .i64 0, .int .i64 r2, .int .i64 0, .int .i64 r3, .int .i64 (253402300799999 - r4), .int .i64 r5, .int .i64 0] (wo.alloc (.cells #[.int .i64 ref, .int .i64 year, .int .i64 zone, .int .i64 r1, .int .i64 0, .int .i64 0, .int .i64 r2, .int .i64 0, .int .i64 r3, .int .i64 (253402300799999 - r4), .int .i64 r5, .int .i64 0] 28)) := ⟨HI.out.below (below_alloc _ _), RowAt.new _ _ wo⟩
      obtain ⟨Y, hY⟩ : ∃ X, wo.alloc (.cells #[.int .i64 ref, .int .i64 year, .int .i64 zone, .int .i64 r1, .int .i64 0, .int .i64 0, .int .i64 r2, .int .i64 0, .int .i64 r3, .int .i64 (253402300799999 - r4), .int .i64 r5, .int .i64 0] 28) = X := ⟨_, rfl⟩
      obtain ⟨b4, hb4⟩ : ∃ b, wo.heap.size = b := ⟨_, rfl⟩
      rw [hY, hb4] at hY1
      rw [hY, hb4]
      have HY1 := Lib.hid hY1
      clear hY hb4 hY1 HI
      go_loopw [59] (fun u wr => ∃ j : Nat, j ≤ 4 ∧ u = .int .i64 j ∧ DInv w b3 #[.string str, .string s1, .string s2] b4 #[.int .i64 ref, .int .i64 year, .int .i64 zone, .int .i64 r1, .int .i64 0, .int .i64 0, .int .i64 r2, .int .i64 0, .int .i64 r3, .int .i64 (253402300799999 - r4), .int .i64 r5, .int .i64 0] wr) (fun u _ => 4 - (intOf u).toNat)
      case atStart => exact ⟨0, by omega, rfl, HY1.out⟩
      case round =>
        obtain ⟨j, hj, rfl, hinv⟩ := hrel
        obtain ⟨wp, rfl⟩ : ∃ wp : World, wp = wr := ⟨_, rfl⟩
        by_cases hlt2 : j < 4
        · have hdj : decide ((j : Int) < 4) = true := by rw [decide_eq_true_iff]; omega
          obtain ⟨p0, p1, p2, e0, e1, e2⟩ : ∃ p0 p1 p2 : Int, wp.cell? ⟨b4, j * 3, none⟩ = some (.int .i64 p0) ∧ wp.cell? ⟨b4, j * 3 + 1, none⟩ = some (.int .i64 p1) ∧ wp.cell? ⟨b4, j * 3 + 2, none⟩ = some (.int .i64 p2) := by
            have hj4 : j = 0 ∨ j = 1 ∨ j = 2 ∨ j = 3 := by omega
            rcases hj4 with rfl | rfl | rfl | rfl
            · exact ⟨_, _, _, hinv.b4.cell 0, hinv.b4.cell 1, hinv.b4.cell 2⟩
            · exact ⟨_, _, _, hinv.b4.cell 3, hinv.b4.cell 4, hinv.b4.cell 5⟩
            · exact ⟨_, _, _, hinv.b4.cell 6, hinv.b4.cell 7, hinv.b4.cell 8⟩
            · exact ⟨_, _, _, hinv.b4.cell 9, hinv.b4.cell 10, hinv.b4.cell 11⟩
          have ha := fun W h1 h2 => recover_any x p0 p1 p2 first W h1 h2
          have hr := fun W => rrec_any x p0 p1 p2 first W
          obtain ⟨⟨v1, v2, v3⟩, hv⟩ : ∃ t, recT x p0 p1 p2 first = t := ⟨_, rfl⟩
          rw [hv] at ha hr
          simp only at ha hr
          have HR := Lib.hid (And.intro ha hr)
          have HI := Lib.hid hinv
          have RN := Lib.hid (RowAt.new 28 #[.int .i64 p0, .int .i64 p1, .int .i64 p2] wp)
          clear hinv ha hr hv HY1
          go_wp2_with fail
          refine (HR.out.1 _ (HT.out.below (bl_trans HI.out.c.bl (below_alloc _ _))) (HM.out.below (bl_trans HI.out.c.bl (below_alloc _ _)))).mono ?_
          rintro e w5 ⟨rfl, hb5⟩
          have RO := Lib.hid (RN.out.below hb5)
          have HJ := Lib.hid (HI.out.below (bl_trans (below_alloc _ _) hb5))
          have g0 := RO.out.cell 0
          have g1 := RO.out.cell 1
          have g2 := RO.out.cell 2
          simp only [List.getElem?_toArray, List.getElem?_cons_zero, List.getElem?_cons_succ] at g0 g1 g2
          clear hb5 e0 e1 e2 RN
          go_wp2_with fail
          refine (HR.out.2 _).mono ?_
          rintro e w6 ⟨rfl, hb6⟩
          have HK := Lib.hid (HJ.out.below hb6)
          clear hb6 g0 g1 g2
          go_wp2
          go_roundw
          case rel => exact ⟨j + 1, by omega, by go_num, HK.out⟩
          case measure => simp [intOf]; omega
        · obtain rfl : j = 4 := by omega
          have HI := Lib.hid hinv.c
          clear hinv HY1
          go_wp2
          go_roundw
          case rel => exact ⟨k + 1, by omega, by go_num, HI.out⟩
          case measure => simp [intOf]; omega
    · obtain rfl : k = 3 := by omega
      have HI := Lib.hid hinv.bl
      clear hinv HX1
      go_wp2
      go_ret
      exact ⟨rfl, HI.out⟩
end Go.Proofs.YtpbfgafkoodeoaaDoor
