/- The contracts of isName and hasNames at names. -/
import Derived.Test.YtbpboghjgbgjfaaFsM
import Derived.Laws.BytesArg
import Derived.Lib.AppendStr
import Derived.Lib.UnsafeStr
namespace Go.Proofs.Ytbpboghjgbgjfaa
open Go.RowKit

theorem conv_in (W : World) (s : ByteArray) : ∃ cap W', (convert 9 22 (.string s)).run Try.prog W = .ok (.slice (some ⟨W.heap.size, 0, none⟩) s.size cap) W' ∧ Below W.heap.size W W' ∧ W.heap.size < W'.heap.size ∧ ∀ i (h : i < s.size), W'.cell? ⟨W.heap.size, i, none⟩ = some (.int .u8 (s[i].toNat : Int)) := by
  refine ⟨_, _, run_bytes_of_string W 9 22 5 s Try.underlying9 Try.underlying22 Try.underlying5, ((Below.refl _ W).drew).alloc (Nat.le_refl _) _, ?_, fun i h => ?_⟩
  · rw [World.size_alloc]; exact Nat.lt_succ_self _
  · have e := Lib.cell_of_heap (heap_alloc_new W.drew (.cells (bytesRow s (grownCap W s.size 0 5)) 5 ((bytesRow s (grownCap W s.size 0 5)).size, (bytesRow s (grownCap W s.size 0 5)).size + 1))) i
    refine Eq.trans e ?_
    simp [bytesRow, Array.getElem?_append, h]
    rfl
/-- A file name. -/
def IsNm (s : ByteArray) : Prop := 0 < s.size ∧ s.size ≤ 32 ∧ ∀ i (h : i < s.size), 33 ≤ s[i].toNat ∧ s[i].toNat ≤ 126
set_option maxRecDepth 100000 in
set_option maxHeartbeats 4000000 in
theorem isName_yes (s : ByteArray) (h : IsNm s) (w : World) : Calls Try.prog 33 #[.string s] w fun e w' => e = .returned (.bool true) ∧ Below w.heap.size w w' := by
  obtain ⟨h0, h1, h2⟩ := h
  have H := Lib.hid h2
  have e0 : (!s.toList.isEmpty) = true := by
    rw [Lib.toList_data]
    cases hs : s.data.toList with
    | nil =>
      have : s.size = 0 := by show s.data.size = 0; rw [← Array.length_toList, hs]; rfl
      omega
    | cons a r => rfl
  have e1 : s.toList.isEmpty = false := by simpa using e0
  have d1 : decide ((32 : Int) < (s.size : Int)) = false := by rw [decide_eq_false_iff_not]; omega
  clear h2
  go_enter Try.func33, Try.ntmps33
  obtain ⟨cap, W', hc, hb, hlt, hcl⟩ := conv_in w s
  have HC := Lib.hid (And.intro hb hcl)
  clear hb hcl
  go_wp2_with fail
  clear hc
  go_loopw [15] (fun v wr => ∃ i : Nat, i ≤ s.size ∧ v = .int .i64 i ∧ Below W'.heap.size W' wr) (fun v _ => s.size - (intOf v).toNat)
  case atStart => exact ⟨0, Nat.zero_le _, rfl, Below.refl _ _⟩
  case round =>
    obtain ⟨i, hi, rfl, hbr⟩ := hrel
    by_cases hl : i < s.size
    · have hcell := (hbr.cell (p := ⟨w.heap.size, i, none⟩) hlt).trans (HC.out.2 i hl)
      obtain ⟨ha, hz⟩ := H.out i hl
      obtain ⟨q, hq⟩ : ∃ q, s[i].toNat = q := ⟨_, rfl⟩
      rw [hq] at hcell ha hz
      have d2 : decide ((i : Int) < (s.size : Int)) = true := by rw [decide_eq_true_iff]; omega
      have d3 : decide ((q : Int) < 33) = false := by rw [decide_eq_false_iff_not]; omega
      have d4 : decide ((126 : Int) < (q : Int)) = false := by rw [decide_eq_false_iff_not]; omega
      have HB := Lib.hid hbr
      clear hbr hq
      go_wp2
      go_roundw
      case rel => exact ⟨i + 1, by omega, by go_num, HB.out⟩
      case measure => simp [intOf]; omega
    · have d2 : decide ((i : Int) < (s.size : Int)) = false := by rw [decide_eq_false_iff_not]; omega
      have HB := Lib.hid hbr
      clear hbr
      go_wp2
      go_ret
      exact ⟨rfl, bl_trans' HC.out.1 HB.out⟩
/-- A change's names are names. -/
def NamesOk (kind : Int) (t t2 : ByteArray) : Prop := IsNm t ∧ ((kind = 4 ∨ kind = 5) → IsNm t2)
set_option maxRecDepth 100000 in
set_option maxHeartbeats 4000000 in
theorem hasNames_yes (kind : Int) (t t2 : ByteArray) (dv : Value) (n : Int) (w : World) (h : NamesOk kind t t2) :
    Calls Try.prog 22 #[.agg #[.int .i64 kind, .string t, .string t2, dv, .int .i64 n]] w fun e w' => e = .returned (.bool true) ∧ Below w.heap.size w w' := by
  have h1 := fun W => isName_yes t h.1 W
  have H1 := Lib.hid h1
  have hbx := BkAt.new 39 #[.int .i64 kind, .string t, .string t2, dv, .int .i64 n] w
  have HX := Lib.hid hbx
  have hbn := Lib.hid (below_new w (.cells #[.int .i64 kind, .string t, .string t2, dv, .int .i64 n] 39))
  by_cases h4 : kind = 4 ∨ kind = 5
  · have h2 := fun W => isName_yes t2 (h.2 h4) W
    have H2 := Lib.hid h2
    clear h1 h2 hbx h
    rcases h4 with rfl | rfl
    all_goals
      go_enter Try.func22, Try.ntmps22
      go_wp2_with fail
      refine (H1.out _).mono ?_
      rintro e w1 ⟨rfl, hb1⟩
      have c2 := (HX.out.below hb1).cell 2
      simp only [List.getElem?_toArray, List.getElem?_cons_zero, List.getElem?_cons_succ] at c2
      have HB := Lib.hid hb1
      clear hb1
      go_wp2_with fail
      refine (H2.out _).mono ?_
      rintro e w2 ⟨rfl, hb2⟩
      go_wp2
      go_ret
      exact ⟨rfl, bl_trans' (bl_trans' hbn.out HB.out) hb2⟩
  · have e4 : (kind == 4) = false := by rw [beq_eq_false_iff_ne]; exact fun e => h4 (.inl e)
    have e5 : (kind == 5) = false := by rw [beq_eq_false_iff_ne]; exact fun e => h4 (.inr e)
    clear h1 hbx h h4
    go_enter Try.func22, Try.ntmps22
    go_wp2_with fail
    refine (H1.out _).mono ?_
    rintro e w1 ⟨rfl, hb1⟩
    go_wp2
    go_ret
    exact ⟨rfl, bl_trans' hbn.out hb1⟩
end Go.Proofs.Ytbpboghjgbgjfaa
