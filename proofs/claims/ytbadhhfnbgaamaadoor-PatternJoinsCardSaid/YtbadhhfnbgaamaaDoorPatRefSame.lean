/- The contract of the reference's Same at two values that hold one node: it answers true. -/
import Derived.Test.YtbadhhfnbgaamaaDoorPatFormat
namespace Go.Proofs.YtbadhhfnbgaamaaDoor
open Go.RowKit

theorem NBox.below {w w' : World} {X : Nat} {v0 v1 v2 v3 v4 v5 : Value} (h : NBox w X v0 v1 v2 v3 v4 v5) (hb : Below w.heap.size w w') : NBox w' X v0 v1 v2 v3 v4 v5 :=
  (hb.block X (Array.getElem?_eq_some_iff.1 h).1).trans h
theorem NBox.drewN {w : World} {X : Nat} {v0 v1 v2 v3 v4 v5 : Value} (h : NBox w X v0 v1 v2 v3 v4 v5) (k : Nat) : NBox (w.drewN k) X v0 v1 v2 v3 v4 v5 := h
def SameOk (t : Nd) : Prop := ∀ (va vb : Value) (w0 w : World), NodeIn 0 w0 t va → NodeIn 0 w0 t vb → Below w0.heap.size w0 w →
  Calls Tryd.prog 10 #[va, vb] w fun e w' => e = .returned (.bool true) ∧ Below w.heap.size w w'
theorem rg_cells {lo : Nat} {w0 w : World} {a : Option Addr} {n c : Nat} {rs : List (Nat × Nat)} (h : RangesIn lo w0 (.slice a n c) rs) (hb : Below w0.heap.size w0 w) (i : Nat) (hi : i < rs.length) :
    ∃ b o, a = some ⟨b, o, none⟩ ∧ w.cell? ⟨b, o + i * 2, none⟩ = some (.int .u8 (rs[i].1 : Nat)) ∧ w.cell? ⟨b, o + i * 2 + 1, none⟩ = some (.int .u8 (rs[i].2 : Nat)) := by
  obtain ⟨a', c', he, -, -, hc⟩ := h
  cases he
  obtain ⟨b, o, ha, -, h1, h2⟩ := hc i hi
  exact ⟨b, o, ha, keeps_below hb (lo := 0) _ _ _ (Nat.zero_le _) h1, keeps_below hb (lo := 0) _ _ _ (Nat.zero_le _) h2⟩

set_option maxRecDepth 100000 in
set_option maxHeartbeats 8000000 in
theorem same_step (op : Int) (rs : List (Nat × Nat)) (nm : ByteArray) (kids : List Nd) (mn mx : Int) (ih : ∀ k ∈ kids, SameOk k) : SameOk (.mk op rs nm kids mn mx) := by
  intro va vb w0 w ha hb hw
  unfold NodeIn at ha hb
  obtain ⟨ra, ka, kc, rfl, -, -, -, -, hkl, hra, hka⟩ := ha
  obtain ⟨rb, kb, kd, rfl, -, -, -, -, -, hrb, hkb⟩ := hb
  obtain ⟨a1, c1, rfl, hrl, -, -⟩ := id hra
  obtain ⟨a2, c2, rfl, -, -, -⟩ := id hrb
  unfold ndVals
  unfold maxLen at hkl hrl
  have hbox1 := (NBox.new w (.int .i64 op) (.slice a1 rs.length c1) (.string nm) (.slice ka kids.length kc) (.int .i64 mn) (.int .i64 mx)).alloc (.cells #[.int .i64 op, .slice a2 rs.length c2, .string nm, .slice kb kids.length kd, .int .i64 mn, .int .i64 mx] 27)
  have hbox2 := NBox.new (w.alloc (.cells #[.int .i64 op, .slice a1 rs.length c1, .string nm, .slice ka kids.length kc, .int .i64 mn, .int .i64 mx] 27)) (.int .i64 op) (.slice a2 rs.length c2) (.string nm) (.slice kb kids.length kd) (.int .i64 mn) (.int .i64 mx)
  rw [Go.Deep.nblk_alloc] at hbox2
  have hbel := ((Below.refl w.heap.size w).alloc (Nat.le_refl _) (.cells #[.int .i64 op, .slice a1 rs.length c1, .string nm, .slice ka kids.length kc, .int .i64 mn, .int .i64 mx] 27)).alloc (by simp) (.cells #[.int .i64 op, .slice a2 rs.length c2, .string nm, .slice kb kids.length kd, .int .i64 mn, .int .i64 mx] 27)
  obtain ⟨p0, p1, p2, p3, p4, p5⟩ := hbox1.cells
  obtain ⟨q0, q1, q2, q3, q4, q5⟩ := hbox2.cells
  have H := Lib.hid (And.intro hbox1 (And.intro hbox2 hbel))
  have HR := Lib.hid (And.intro hra hrb)
  have HK := Lib.hid (And.intro hka hkb)
  have HI := Lib.hid ih
  have HW := Lib.hid hw
  clear hbox1 hbox2 hbel hra hrb hka hkb ih hw
  go_enter Tryd.func10, Tryd.ntmps10
  go_wp2
  go_loopw [5] (fun i wr => ∃ k : Nat, k ≤ rs.length ∧ i = .int .i64 k ∧ NBox wr w.heap.size (.int .i64 op) (.slice a1 rs.length c1) (.string nm) (.slice ka kids.length kc) (.int .i64 mn) (.int .i64 mx) ∧ NBox wr (w.heap.size + 1) (.int .i64 op) (.slice a2 rs.length c2) (.string nm) (.slice kb kids.length kd) (.int .i64 mn) (.int .i64 mx) ∧ Below w.heap.size w wr) (fun i _ => rs.length - (intOf i).toNat)
  case atStart => exact ⟨0, by omega, rfl, H.out.1, H.out.2.1, H.out.2.2⟩
  case round =>
    clear p0 p1 p2 p3 p4 p5 q0 q1 q2 q3 q4 q5
    obtain ⟨k, hk, rfl, hb1, hb2, hbe⟩ := hrel
    obtain ⟨W1, rfl⟩ : ∃ W1, W1 = wr := ⟨_, rfl⟩
    obtain ⟨p0, p1, p2, p3, p4, p5⟩ := hb1.cells
    obtain ⟨q0, q1, q2, q3, q4, q5⟩ := hb2.cells
    by_cases hlt : k < rs.length
    · have hWW := HW.out.trans (hbe.mono HW.out.size)
      obtain ⟨g, o, rfl, g1, g2⟩ := rg_cells HR.out.1 hWW k hlt
      obtain ⟨g', o', rfl, g3, g4⟩ := rg_cells HR.out.2 hWW k hlt
      obtain ⟨x, hx⟩ : ∃ x, rs[k].1 = x := ⟨_, rfl⟩
      obtain ⟨y, hy⟩ : ∃ y, rs[k].2 = y := ⟨_, rfl⟩
      rw [hx] at g1 g3
      rw [hy] at g2 g4
      have K := Lib.hid (And.intro hb1 (And.intro hb2 hbe))
      clear hb1 hb2 hbe hx hy hWW
      go_wp2
      go_quiet (fail)
      go_wp2
      go_roundw
      case rel => exact ⟨k + 1, by omega, by simp, K.out.1.drewN _, K.out.2.1.drewN _, below_drewN K.out.2.2 _⟩
      case measure => simp [intOf]; omega
    · obtain rfl : k = rs.length := by omega
      have K := Lib.hid (And.intro hb1 (And.intro hb2 hbe))
      clear hb1 hb2 hbe
      go_wp2
      go_loopw [6] (fun i wr => ∃ k : Nat, k ≤ kids.length ∧ i = .int .i64 k ∧ NBox wr w.heap.size (.int .i64 op) (.slice a1 rs.length c1) (.string nm) (.slice ka kids.length kc) (.int .i64 mn) (.int .i64 mx) ∧ NBox wr (w.heap.size + 1) (.int .i64 op) (.slice a2 rs.length c2) (.string nm) (.slice kb kids.length kd) (.int .i64 mn) (.int .i64 mx) ∧ Below w.heap.size w wr) (fun i _ => kids.length - (intOf i).toNat)
      case atStart => exact ⟨0, by omega, rfl, K.out.1, K.out.2.1, K.out.2.2⟩
      case round =>
        clear p0 p1 p2 p3 p4 p5 q0 q1 q2 q3 q4 q5
        obtain ⟨k, hk, rfl, hb1, hb2, hbe⟩ := hrel
        obtain ⟨W2, rfl⟩ : ∃ W1, W1 = wr := ⟨_, rfl⟩
        obtain ⟨p0, p1, p2, p3, p4, p5⟩ := hb1.cells
        obtain ⟨q0, q1, q2, q3, q4, q5⟩ := hb2.cells
        by_cases hlt : k < kids.length
        · have hWW := HW.out.trans (hbe.mono HW.out.size)
          rcases HK.out.1 with hnil | ⟨g, o, rfl, -, hk1⟩
          · rw [hnil] at hlt; simp at hlt
          rcases HK.out.2 with hnil | ⟨g', o', rfl, -, hk2⟩
          · rw [hnil] at hlt; simp at hlt
          obtain ⟨xo, xa, xn, xc, xm, ya, yn, yc, x4, x5, hin1, e0, e1, e2, e3, e4, e5⟩ := kid_cells hk1 hlt
          obtain ⟨zo, za, zn, zc, zm, ua, un, uc, z4, z5, hin2, f0, f1, f2, f3, f4, f5⟩ := kid_cells hk2 hlt
          have hcl := fun g o v hc => keeps_below hWW (lo := 0) g o v (Nat.zero_le _) hc
          have d0 := hcl _ _ _ e0
          have d1 := hcl _ _ _ e1
          have d2 := hcl _ _ _ e2
          have d3 := hcl _ _ _ e3
          have d4 := hcl _ _ _ e4
          have d5 := hcl _ _ _ e5
          have i0 := hcl _ _ _ f0
          have i1 := hcl _ _ _ f1
          have i2 := hcl _ _ _ f2
          have i3 := hcl _ _ _ f3
          have i4 := hcl _ _ _ f4
          have i5 := hcl _ _ _ f5
          have hcall := fun n => HI.out kids[k] (List.getElem_mem hlt) _ _ w0 (W2.drewN n) hin1 hin2 (below_drewN hWW n)
          have KK := Lib.hid (And.intro hcall (And.intro hb1 (And.intro hb2 hbe)))
          clear hcall hb1 hb2 hbe hin1 hin2 e0 e1 e2 e3 e4 e5 f0 f1 f2 f3 f4 f5 hcl hWW hk1 hk2
          go_wp2
          go_region_with (go_at_call 10; refine (KK.out.1 1).mono ?_; rintro e w3 ⟨rfl, hb3⟩)
          all_goals
            have hb3' : Below W2.heap.size W2 w3 := ⟨hb3.os, hb3.tape, hb3.output, hb3.size, hb3.block⟩
            have K3 := Lib.hid hb3'
            clear hb3 hb3'
            go_wp2
            go_roundw
            case rel => exact ⟨k + 1, by omega, by simp, KK.out.2.1.below K3.out, KK.out.2.2.1.below K3.out, KK.out.2.2.2.trans (K3.out.mono KK.out.2.2.2.size)⟩
            case measure => simp [intOf]; omega
        · obtain rfl : k = kids.length := by omega
          have K := Lib.hid hbe
          clear hb1 hb2 hbe
          go_wp2
          go_ret
          exact ⟨rfl, K.out⟩
theorem same_all : ∀ t, SameOk t := Nd.induct same_step
theorem same_any (t : Nd) (va vb : Value) (w : World) (ha : NodeIn 0 w t va) (hb : NodeIn 0 w t vb) :
    Calls Tryd.prog 10 #[va, vb] w fun e w' => e = .returned (.bool true) ∧ Below w.heap.size w w' := same_all t va vb w w ha hb (Below.refl _ _)
end Go.Proofs.YtbadhhfnbgaamaaDoor
