/- The contract of the reference's finish. The contract of the reference's Month. -/
import Derived.Test.YtpbfgafkoodeoaaDoorTsRiso
import Derived.Test.YtpbfgafkoodeoaaDoorRvI
import Derived.Test.YtpbfgafkoodeoaaDoorRvH
import Derived.Deep.RegionHeld3
import Derived.Deep.DeepCutAuto
namespace Go.Proofs.YtpbfgafkoodeoaaDoor
open Go.RowKit

set_option maxRecDepth 100000 in
set_option maxHeartbeats 8000000 in
theorem rfinish_ok (t n : Int) (w : World) :
    Calls Tryd.prog 19 #[.int .i64 t, .int .i64 n, .int .i64 0] w fun e w' => e = .returned (.tuple #[.int .i64 t, .int .i64 n, .int .i64 0]) ∧ w = w' := by
  go_enter Tryd.func19, Tryd.ntmps19
  go_wp2
  exact bodyPost_ret (v := .tuple #[.int .i64 t, .int .i64 n, .int .i64 0]) (by simp [results, Tryd.results19, go_sem]) rfl ⟨rfl, rfl⟩
set_option maxRecDepth 100000 in
set_option maxHeartbeats 8000000 in
theorem rfinish_bad (t n x : Int) (hx : x ≠ 0) (w : World) :
    Calls Tryd.prog 19 #[.int .i64 t, .int .i64 n, .int .i64 x] w fun e w' => e = .returned (.tuple #[.int .i64 0, .int .i64 0, .int .i64 x]) ∧ w = w' := by
  have h1 : (x != 0) = true := by rw [bne_iff_ne]; exact hx
  go_enter Tryd.func19, Tryd.ntmps19
  go_wp2
  exact bodyPost_ret (v := .tuple #[.int .i64 0, .int .i64 0, .int .i64 x]) (by simp [results, Tryd.results19, go_sem]) rfl ⟨rfl, rfl⟩
theorem rfinish_any (t x : Int) (n : Nat) (w : World) :
    Calls Tryd.prog 19 #[.int .i64 t, .int .i64 (n : Int), .int .i64 x] w fun e w' => e = .returned (.tuple #[.int .i64 (recV t x), .int .i64 (recP x n), .int .i64 x]) ∧ w = w' := by
  unfold recV recP
  by_cases hx : x = 0
  · rw [if_pos hx, if_pos hx, hx]; exact rfinish_ok t n w
  · rw [if_neg hx, if_neg hx]; exact rfinish_bad t n x hx w
end Go.Proofs.YtpbfgafkoodeoaaDoor

namespace Go.Proofs.YtpbfgafkoodeoaaDoor
open Go.RowKit

set_option maxRecDepth 100000 in
set_option linter.unusedSimpArgs false in
set_option maxHeartbeats 8000000 in
theorem rmonth_any (s : ByteArray) (hs : s.size ≤ 140737488351232) (w : World) :
    Calls Tryd.prog 42 #[.string s] w fun e w' => e = .returned (.int .i64 (monthN s.data.toList : Nat)) ∧ Below w.heap.size w w' := by
  have hl := fun W => rlower_any s hs W
  have hat := fun k (hk : k < 12) h e => monthN_at (l := s.data.toList) hk h e
  have hno := monthN_no (l := s.data.toList)
  obtain ⟨L, hL⟩ : ∃ L, lowL s.data.toList = L := ⟨_, rfl⟩
  obtain ⟨m, hm⟩ : ∃ m, monthN s.data.toList = m := ⟨_, rfl⟩
  rw [hL] at hl hat hno
  rw [hm] at hat hno ⊢
  have HL := Lib.hid hl
  have HA := Lib.hid (And.intro hat hno)
  clear hl hat hno hL hm hs
  go_enter Tryd.func42, Tryd.ntmps42
  go_wp2_with fail
  have hr0 : RowAt w.heap.size 9 monRow (w.alloc (.cells monRow 9)) := RowAt.new _ _ w
  have hb0 := below_alloc w (.cells monRow 9)
  have hmr : monRow = #[.string ⟨#[106, 97, 110]⟩, .string ⟨#[102, 101, 98]⟩, .string ⟨#[109, 97, 114]⟩, .string ⟨#[97, 112, 114]⟩, .string ⟨#[109, 97, 121]⟩, .string ⟨#[106, 117, 110]⟩, .string ⟨#[106, 117, 108]⟩, .string ⟨#[97, 117, 103]⟩, .string ⟨#[115, 101, 112]⟩, .string ⟨#[111, 99, 116]⟩, .string ⟨#[110, 111, 118]⟩, .string ⟨#[100, 101, 99]⟩] := by kernel_rfl
  rw [← hmr]
  obtain ⟨X, hX⟩ : ∃ X, w.alloc (.cells monRow 9) = X := ⟨_, rfl⟩
  rw [hX] at hr0 hb0 ⊢
  have H0 := Lib.hid (And.intro hr0 hb0)
  clear hr0 hb0 hmr hX
  go_loopw [4] (fun i wr => ∃ k : Nat, k ≤ 12 ∧ i = .int .i64 k ∧ (∀ j, j < k → L ≠ monL.getD j []) ∧ RowAt w.heap.size 9 monRow wr ∧ Below w.heap.size w wr) (fun i _ => 12 - (intOf i).toNat)
  case atStart => exact ⟨0, by omega, rfl, fun j hj => by omega, H0.out⟩
  case round =>
    obtain ⟨k, hk, rfl, hn, hrow, hbl⟩ := hrel
    have HN := Lib.hid hn
    have HR := Lib.hid hrow
    have HB := Lib.hid hbl
    clear hn hrow hbl
    by_cases hlt : k < 12
    · have hd : decide ((k : Int) < 12) = true := by rw [decide_eq_true_iff]; omega
      obtain ⟨X, hX⟩ : ∃ X, monB k = X := ⟨_, rfl⟩
      by_cases he : L = monL.getD k []
      · have hv := HA.out.1 k hlt HN.out he
        have hq : (L == X.toList) = true := by rw [beq_iff_eq, ← hX, monB_toList k hlt]; exact he
        have HV := Lib.hid hv
        clear hv he
        go_wp2_with fail
        refine wp_region_held_drew (S := RowAt w.heap.size 9 monRow) (by kernel_rfl) (show _ from HR.out) (fun hHeld => ?_)
        refine wpAnyH_take (i := 0) (v := ?v0a) rfl (by kernel_rfl) (by kernel_rfl) (by kernel_rfl) (fun _ _ _ h => h) (Or.inl ⟨by rfl, fun w' hSw => ?y0a⟩) (by assumption) ?r0a
        case y0a =>
          go_simp
          try with_reducible rfl
        try simp only [Act.put, List.getElem_toArray, List.getElem_cons_zero, List.getElem_cons_succ, List.setIfInBounds_toArray, List.set_cons_zero, List.set_cons_succ]
        refine wpAnyH_take (i := 2) (v := ?v2a) rfl (by kernel_rfl) (by kernel_rfl) (by kernel_rfl) (fun _ _ _ h => h) (Or.inl ⟨by rfl, fun w' hSw => ?y2a⟩) (by assumption) ?r2a
        case y2a =>
          go_simp
          try with_reducible rfl
        try simp only [Act.put, List.getElem_toArray, List.getElem_cons_zero, List.getElem_cons_succ, List.setIfInBounds_toArray, List.set_cons_zero, List.set_cons_succ]
        refine wpAnyH_take (i := 3) (v := ?v3a) rfl (by kernel_rfl) (by kernel_rfl) (by kernel_rfl) (fun _ _ _ h => h) (Or.inl ⟨by rfl, fun w' hSw => ?y3a⟩) (by assumption) ?r3a
        case y3a =>
          go_simp
          try with_reducible rfl
        try simp only [Act.put, List.getElem_toArray, List.getElem_cons_zero, List.getElem_cons_succ, List.setIfInBounds_toArray, List.set_cons_zero, List.set_cons_succ]
        refine wpAnyH_take (i := 4) (v := ?v4a) rfl (by kernel_rfl) (by kernel_rfl) (by kernel_rfl) (fun _ _ _ h => h) (Or.inl ⟨by rfl, fun w' hSw => ?y4a⟩) (by assumption) ?r4a
        case y4a =>
          have hI : (k : Int) < 12 := by omega
          go_simp
          try with_reducible rfl
        try simp only [Act.put, List.getElem_toArray, List.getElem_cons_zero, List.getElem_cons_succ, List.setIfInBounds_toArray, List.set_cons_zero, List.set_cons_succ]
        refine wpAnyH_take (i := 5) (v := ?v5a) rfl (by kernel_rfl) (by kernel_rfl) (by kernel_rfl) (fun _ _ _ h => h) (Or.inl ⟨by rfl, fun w' hSw => ?y5a⟩) (by assumption) ?r5a
        case y5a =>
          have q := RowAt.cell hSw k
          rw [monRow_get k hlt, hX] at q
          go_simp
          try with_reducible rfl
        try simp only [Act.put, List.getElem_toArray, List.getElem_cons_zero, List.getElem_cons_succ, List.setIfInBounds_toArray, List.set_cons_zero, List.set_cons_succ]
        refine wpAnyH_ready (rs := [1]) (by kernel_rfl) (by simp) (AllReadyH.cons rfl (fun K hK => ?_) AllReadyH.nil)
        go_simp
        go_wp2_with (go_at_call 66; refine (HL.out _).mono ?_; rintro e wd ⟨rfl, hbd⟩)
        have HD := Lib.hid (show RowAt w.heap.size 9 monRow wd ∧ Below w.heap.size w wd from ⟨RowAt.below (w := wr.drew) HR.out hbd, HB.out.trans ((show Below wr.heap.size wr wr.drew from (Below.refl _ _).drew).trans hbd |>.mono HB.out.size)⟩)
        clear hbd
        refine hK.out _ _ (show RowAt _ _ _ _ from HD.out.1) (fun hHeld2 => ?_)
        clear hK K
        try simp only [Act.put, List.getElem_toArray, List.getElem_cons_zero, List.getElem_cons_succ, List.setIfInBounds_toArray, List.set_cons_zero, List.set_cons_succ]
        refine wpAnyH_take (i := 6) (v := ?v6a) rfl (by kernel_rfl) (by kernel_rfl) (by kernel_rfl) (fun _ _ _ h => h) (Or.inl ⟨by rfl, fun w' hSw => ?y6a⟩) (by assumption) ?r6a
        case y6a =>
          go_simp
          try with_reducible rfl
        try simp only [Act.put, List.getElem_toArray, List.getElem_cons_zero, List.getElem_cons_succ, List.setIfInBounds_toArray, List.set_cons_zero, List.set_cons_succ]
        refine wpAnyH_done (by kernel_rfl) ?_ _
        clear hHeld hHeld2
        clear hX
        go_wp2
        go_ret
        exact ⟨by rw [HV.out]; simp, HD.out.2⟩
      · have hq : (L == X.toList) = false := by rw [beq_eq_false_iff_ne, ← hX, monB_toList k hlt]; exact he
        have HE := Lib.hid he
        clear he
        go_wp2_with fail
        refine wp_region_held_drew (S := RowAt w.heap.size 9 monRow) (by kernel_rfl) (show _ from HR.out) (fun hHeld => ?_)
        refine wpAnyH_take (i := 0) (v := ?v0b) rfl (by kernel_rfl) (by kernel_rfl) (by kernel_rfl) (fun _ _ _ h => h) (Or.inl ⟨by rfl, fun w' hSw => ?y0b⟩) (by assumption) ?r0b
        case y0b =>
          go_simp
          try with_reducible rfl
        try simp only [Act.put, List.getElem_toArray, List.getElem_cons_zero, List.getElem_cons_succ, List.setIfInBounds_toArray, List.set_cons_zero, List.set_cons_succ]
        refine wpAnyH_take (i := 2) (v := ?v2b) rfl (by kernel_rfl) (by kernel_rfl) (by kernel_rfl) (fun _ _ _ h => h) (Or.inl ⟨by rfl, fun w' hSw => ?y2b⟩) (by assumption) ?r2b
        case y2b =>
          go_simp
          try with_reducible rfl
        try simp only [Act.put, List.getElem_toArray, List.getElem_cons_zero, List.getElem_cons_succ, List.setIfInBounds_toArray, List.set_cons_zero, List.set_cons_succ]
        refine wpAnyH_take (i := 3) (v := ?v3b) rfl (by kernel_rfl) (by kernel_rfl) (by kernel_rfl) (fun _ _ _ h => h) (Or.inl ⟨by rfl, fun w' hSw => ?y3b⟩) (by assumption) ?r3b
        case y3b =>
          go_simp
          try with_reducible rfl
        try simp only [Act.put, List.getElem_toArray, List.getElem_cons_zero, List.getElem_cons_succ, List.setIfInBounds_toArray, List.set_cons_zero, List.set_cons_succ]
        refine wpAnyH_take (i := 4) (v := ?v4b) rfl (by kernel_rfl) (by kernel_rfl) (by kernel_rfl) (fun _ _ _ h => h) (Or.inl ⟨by rfl, fun w' hSw => ?y4b⟩) (by assumption) ?r4b
        case y4b =>
          have hI : (k : Int) < 12 := by omega
          go_simp
          try with_reducible rfl
        try simp only [Act.put, List.getElem_toArray, List.getElem_cons_zero, List.getElem_cons_succ, List.setIfInBounds_toArray, List.set_cons_zero, List.set_cons_succ]
        refine wpAnyH_take (i := 5) (v := ?v5b) rfl (by kernel_rfl) (by kernel_rfl) (by kernel_rfl) (fun _ _ _ h => h) (Or.inl ⟨by rfl, fun w' hSw => ?y5b⟩) (by assumption) ?r5b
        case y5b =>
          have q := RowAt.cell hSw k
          rw [monRow_get k hlt, hX] at q
          go_simp
          try with_reducible rfl
        try simp only [Act.put, List.getElem_toArray, List.getElem_cons_zero, List.getElem_cons_succ, List.setIfInBounds_toArray, List.set_cons_zero, List.set_cons_succ]
        refine wpAnyH_ready (rs := [1]) (by kernel_rfl) (by simp) (AllReadyH.cons rfl (fun K hK => ?_) AllReadyH.nil)
        go_simp
        go_wp2_with (go_at_call 66; refine (HL.out _).mono ?_; rintro e wd ⟨rfl, hbd⟩)
        have HD := Lib.hid (show RowAt w.heap.size 9 monRow wd ∧ Below w.heap.size w wd from ⟨RowAt.below (w := wr.drew) HR.out hbd, HB.out.trans ((show Below wr.heap.size wr wr.drew from (Below.refl _ _).drew).trans hbd |>.mono HB.out.size)⟩)
        clear hbd
        refine hK.out _ _ (show RowAt _ _ _ _ from HD.out.1) (fun hHeld2 => ?_)
        clear hK K
        try simp only [Act.put, List.getElem_toArray, List.getElem_cons_zero, List.getElem_cons_succ, List.setIfInBounds_toArray, List.set_cons_zero, List.set_cons_succ]
        refine wpAnyH_take (i := 6) (v := ?v6b) rfl (by kernel_rfl) (by kernel_rfl) (by kernel_rfl) (fun _ _ _ h => h) (Or.inl ⟨by rfl, fun w' hSw => ?y6b⟩) (by assumption) ?r6b
        case y6b =>
          go_simp
          try with_reducible rfl
        try simp only [Act.put, List.getElem_toArray, List.getElem_cons_zero, List.getElem_cons_succ, List.setIfInBounds_toArray, List.set_cons_zero, List.set_cons_succ]
        refine wpAnyH_done (by kernel_rfl) ?_ _
        clear hHeld hHeld2
        clear hX
        go_wp2
        go_roundw
        case rel => exact ⟨k + 1, by omega, by simp, lt_snoc HN.out HE.out, HD.out⟩
        case measure => simp [intOf]; omega
    · obtain rfl : k = 12 := by omega
      have hv := HA.out.2 HN.out
      have HV := Lib.hid hv
      clear hv hlt hk
      go_wp2
      go_ret
      exact ⟨by rw [HV.out]; rfl, HB.out⟩
end Go.Proofs.YtpbfgafkoodeoaaDoor
