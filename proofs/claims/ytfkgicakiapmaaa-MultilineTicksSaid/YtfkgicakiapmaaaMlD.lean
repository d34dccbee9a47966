/- Package multiline: end, block. -/
import Derived.Test.YtfkgicakiapmaaaMlC
import Derived.Deep.RegionHeld3
import Derived.Deep.DeepCutAuto
import Derived.IntWalk
namespace Go.Proofs.Ytfkgicakiapmaaa
open Go Go.RowKit

def lnEnd (x : LnV) : Int := x.off + x.len
def lastEnd (l : List LnV) : Int := (l.getLast?.map lnEnd).getD 0
def headO (l : List LnV) : Int := (l.head?.map (·.off)).getD 0
def mkB (rule : ByteArray) (ls : List LnV) : PBk := ⟨headO ls, lastEnd ls, rule, ls⟩
def OkL (x : LnV) : Prop := 0 ≤ x.off ∧ x.off ≤ 1099511627776 ∧ 0 ≤ x.len ∧ x.len ≤ 1099511627776
def OkS (l : List LnV) : Prop := l.length ≤ 40 ∧ ∀ x ∈ l, OkL x

theorem lnsC_get : ∀ (l : List LnV) (i : Nat) (h : i < l.length), (lnsC l)[i * 3]? = some (.int .i64 l[i].off) ∧ (lnsC l)[i * 3 + 1]? = some (.int .i64 l[i].len) ∧ (lnsC l)[i * 3 + 2]? = some (.string l[i].txt)
  | [], i, h => by simp at h
  | x :: t, 0, h => by simp [lnsC, lnC]
  | x :: t, i + 1, h => by
    have ih := lnsC_get t i (by simp at h; omega)
    have e : lnsC (x :: t) = lnC x ++ lnsC t := by simp [lnsC]
    have e1 : (i + 1) * 3 = 3 + i * 3 := by omega
    have e2 : ∀ k, (lnC x ++ lnsC t)[3 + k]? = (lnsC t)[k]? := fun k => by rw [List.getElem?_append_right (by simp [lnC])]; simp [lnC]
    rw [e, e1, e2, show 3 + i * 3 + 1 = 3 + (i * 3 + 1) by omega, e2, show 3 + i * 3 + 2 = 3 + (i * 3 + 2) by omega, e2]
    simpa using ih
theorem lns_form {v : Value} {l : List LnV} {w : World} (h : LnsAt v l w) (hl : l ≠ []) : ∃ g cap, v = .slice (some ⟨g, 0, none⟩) l.length cap ∧ l.length ≤ cap ∧ ∀ i (hi : i < l.length), w.cell? ⟨g, i * 3, none⟩ = some (.int .i64 l[i].off) ∧ w.cell? ⟨g, i * 3 + 1, none⟩ = some (.int .i64 l[i].len) ∧ w.cell? ⟨g, i * 3 + 2, none⟩ = some (.string l[i].txt) := by
  rcases row_form h with ⟨-, h2⟩ | ⟨g, c, h1, -, -, h3, -⟩
  · exact absurd (List.length_eq_zero_iff.1 h2) hl
  · subst h1
    refine ⟨g, c, rfl, h3, fun i hi => ?_⟩
    obtain ⟨a1, a2, a3⟩ := lnsC_get l i hi
    exact ⟨(World.ownsRow.cellAt h (i * 3) (by omega)).trans a1, (World.ownsRow.cellAt h (i * 3 + 1) (by omega)).trans a2, (World.ownsRow.cellAt h (i * 3 + 2) (by omega)).trans a3⟩
theorem lns_nil {v : Value} {w : World} (h : LnsAt v [] w) : ∃ a c, v = .slice a 0 c := by
  rcases row_form h with ⟨h1, -⟩ | ⟨g, c, h1, -⟩
  · exact ⟨none, 0, h1⟩
  · exact ⟨_, c, h1⟩
theorem lns_empty (w : World) : LnsAt (.slice none 0 0) [] w := World.ownsRow_nil _ _ _ _

set_option maxRecDepth 100000 in
theorem end_any (off len : Int) (txt : ByteArray) (h : OkL ⟨off, len, txt⟩) (w : World) : Calls Try.prog 40 #[.agg #[.int .i64 off, .int .i64 len, .string txt]] w fun e w' => e = .returned (.int .i64 (off + len)) ∧ Below w.heap.size w w' := by
  obtain ⟨h1, h2, h3, h4⟩ := h
  simp only at h1 h2 h3 h4
  have e := IntWalk.i64_in (off + len) (by omega)
  go_enter Try.func40, Try.ntmps40
  go_wp2
  go_ret
  exact ⟨rfl, below_new _ _⟩

theorem sizeBk : (Try.prog.info? 44).map (·.size) = some 4 := by kernel_rfl
theorem blk_end {w w' : World} {T : TypeId} {c0 c1 c2 c3 : Value} (a b c d : Value) (h : BkAt w.heap.size T #[c0, c1, c2, c3] w') (hb : Below w.heap.size w w') :
    BkAt w.heap.size T #[a, b, c, d] ((((w'.setCell ⟨w.heap.size, 0, none⟩ a).setCell ⟨w.heap.size, 1, none⟩ b).setCell ⟨w.heap.size, 2, none⟩ c).setCell ⟨w.heap.size, 3, none⟩ d) ∧
      Below w.heap.size w ((((w'.setCell ⟨w.heap.size, 0, none⟩ a).setCell ⟨w.heap.size, 1, none⟩ b).setCell ⟨w.heap.size, 2, none⟩ c).setCell ⟨w.heap.size, 3, none⟩ d) :=
  ⟨(((h.set 0 a).set 1 b).set 2 c).set 3 d, (((hb.setCell (p := ⟨w.heap.size, 0, none⟩) (Nat.le_refl _) _).setCell (p := ⟨w.heap.size, 1, none⟩) (Nat.le_refl _) _).setCell (p := ⟨w.heap.size, 2, none⟩) (Nat.le_refl _) _).setCell (p := ⟨w.heap.size, 3, none⟩) (Nat.le_refl _) _⟩
set_option maxRecDepth 100000 in
set_option maxHeartbeats 2000000 in
theorem block_any (rule : ByteArray) (v : Value) (ls : List LnV) (hl : ls ≠ []) (hok : OkS ls) (w : World) (hv : LnsAt v ls w) :
    Calls Try.prog 31 #[.string rule, v] w fun e w' => e = .returned (.agg #[.int .i64 (mkB rule ls).fr, .int .i64 (mkB rule ls).en, v, .string rule]) ∧ Below w.heap.size w w' := by
  obtain ⟨g, cap, rfl, hc, hx⟩ := lns_form hv hl
  obtain ⟨n, hn⟩ : ∃ n, ls.length = n := ⟨_, rfl⟩
  have hn0 : 0 < n := by have := List.length_pos_iff.2 hl; omega
  have hn64 : n ≤ 40 := by have := hok.1; omega
  obtain ⟨a, ha⟩ : ∃ a, ls[0]'(by omega) = a := ⟨_, rfl⟩
  obtain ⟨z, hz⟩ : ∃ z, ls[n - 1]'(by omega) = z := ⟨_, rfl⟩
  have h0 := (hx 0 (by omega)).1
  have h1 := hx (n - 1) (by omega)
  have hzm : OkL z := hok.2 z (hz ▸ List.getElem_mem _)
  have e1 : (mkB rule ls).fr = a.off := by
    show headO ls = a.off
    unfold headO
    rw [List.head?_eq_getElem?, List.getElem?_eq_getElem (by omega), ha]
    rfl
  have e2 : (mkB rule ls).en = z.off + z.len := by
    show lastEnd ls = _
    unfold lastEnd
    rw [List.getLast?_eq_getElem?, hn, List.getElem?_eq_getElem (by omega), hz]
    rfl
  rw [e1, e2, hn]
  rw [ha] at h0
  rw [hz] at h1
  rw [Nat.zero_mul] at h0
  obtain ⟨zo, zl, zt⟩ := z
  obtain ⟨ao, al, at_⟩ := a
  simp only at h0 h1 e1 e2 ⊢
  obtain ⟨k, hk⟩ : ∃ k, (n - 1) * 3 = k := ⟨_, rfl⟩
  rw [hk] at h1
  have hgl : g < w.heap.size := block_lt_of_cell h0
  obtain ⟨p, hp⟩ : ∃ p, n - 1 = p := ⟨_, rfl⟩
  have hi1 : (n : Int) - 1 = (p : Int) := by omega
  have hi2 : (p : Int) < (n : Int) := by omega
  have hi3 : p < n := by omega
  have hi4 : (0 : Int) < (n : Int) := by omega
  have hi5 : (0 : Int) ≤ (p : Int) := by omega
  rw [hp] at hk
  have hw1 : IntKind.i64.wrap ((n : Int) - 1) = (p : Int) := by rw [hi1]; exact IntWalk.i64_in _ (by omega)
  clear hi1
  have HE := Lib.hid (end_any zo zl zt hzm)
  obtain ⟨B0, hB0⟩ : ∃ o, Obj.cells #[.int .i64 0, .int .i64 0, .slice none 0 0, .string ⟨#[]⟩] 44 = o := ⟨_, rfl⟩
  have hbn := BkAt.new 44 #[.int .i64 0, .int .i64 0, .slice none 0 0, .string ⟨#[]⟩] w
  rw [hB0] at hbn
  have HS := Lib.hid (show ∀ W, Below (w.alloc B0).heap.size (w.alloc B0) W → BkAt w.heap.size 44 #[.int .i64 0, .int .i64 0, .slice none 0 0, .string ⟨#[]⟩] W ∧ (W.cell? ⟨g, 0, none⟩ = some (.int .i64 ao) ∧ W.cell? ⟨g, k, none⟩ = some (.int .i64 zo) ∧ W.cell? ⟨g, k + 1, none⟩ = some (.int .i64 zl) ∧ W.cell? ⟨g, k + 2, none⟩ = some (.string zt)) ∧
      W.cell? ⟨w.heap.size, 0, none⟩ = some (.int .i64 0) ∧ W.cell? ⟨w.heap.size, 1, none⟩ = some (.int .i64 0) ∧ W.cell? ⟨w.heap.size, 2, none⟩ = some (.slice none 0 0) ∧ W.cell? ⟨w.heap.size, 3, none⟩ = some (.string ⟨#[]⟩) ∧ W.frozen? ⟨w.heap.size, 0, none⟩ = false ∧ W.frozen? ⟨w.heap.size, 1, none⟩ = false ∧ W.frozen? ⟨w.heap.size, 2, none⟩ = false ∧ W.frozen? ⟨w.heap.size, 3, none⟩ = false from
    fun W hW' => by
      have hW := bl_trans' (below_new w B0) hW'
      have hb := hbn.below hW'
      exact ⟨hb, ⟨(hW.cell (p := ⟨g, 0, none⟩) hgl).trans h0, (hW.cell (p := ⟨g, k, none⟩) hgl).trans h1.1, (hW.cell (p := ⟨g, k + 1, none⟩) hgl).trans h1.2.1, (hW.cell (p := ⟨g, k + 2, none⟩) hgl).trans h1.2.2⟩, hb.cell 0, hb.cell 1, hb.cell 2, hb.cell 3, hb.free 0, hb.free 1, hb.free 2, hb.free 3⟩)
  clear hx hv hok hzm e1 e2 ha hz h0 h1 hl hn hbn hp
  go_enter Try.func31, Try.ntmps31
  go_wp2_with fail
  clear hB0
  obtain ⟨-, ⟨p0, p1, p2, p3⟩, p4, p5, p6, p7, p8, p9, p10, p11⟩ := HS.out _ (Below.refl _ _).drew
  go_region_with (first
    | (go_at_call 40; refine (HE.out _).mono ?_; rintro e w' ⟨rfl, hb2⟩; have hb3 := bl_trans' (Below.refl _ _).drew hb2; obtain ⟨-, ⟨r0, r1, r2, r3⟩, r4, r5, r6, r7, r8, r9, r10, r11⟩ := HS.out _ hb3))
  all_goals
    have hbk := blk_end (.int .i64 ao) (.int .i64 (zo + zl)) (.slice (some ⟨g, 0, none⟩) n cap) (.string rule) (HS.out _ hb3).1 (bl_trans' (below_new w B0) hb3)
    clear HS HE
    go_wp2_with fail
    exact bodyPost_ret (results_cell_row rfl _ _ w.heap.size 44 _ (0, 0) _ rfl hbk.1 Try.underlying44 rfl sizeBk) rfl ⟨rfl, hbk.2⟩
end Go.Proofs.Ytfkgicakiapmaaa
