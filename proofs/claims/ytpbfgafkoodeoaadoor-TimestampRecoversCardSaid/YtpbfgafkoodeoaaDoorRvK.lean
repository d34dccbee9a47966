/- The contracts of the reference's number and byteIs. The reference's forms against the program's: plain mathematics. The contract of package timestamp's Recover at every string. -/
import Derived.Test.YtpbfgafkoodeoaaDoorRvH
import Derived.LoopTactic
import Derived.Test.YtpbfgafkoodeoaaDoorRvJ
import Derived.Test.YtpbfgafkoodeoaaDoorRvI
namespace Go.Proofs.YtpbfgafkoodeoaaDoor
open Go.RowKit

/-- The reference's cursor as a value. -/
def rcA (s : ByteArray) (k : Nat) (ok : Bool) : Array Value := #[.string s, .int .i64 (k : Int), .bool ok]
theorem valD_step {s : ByteArray} {k j : Nat} (h : k + j < s.size) : valD (subL s k (j + 1)) = 10 * valD (subL s k j) + (s[k + j].toNat - 48) := by
  rw [subL_snoc h, valD_snoc]
theorem sub_bd {s : ByteArray} {k j m r : Nat} (hk : k ≤ s.size) (hr : dRun s m k = r) (hj : j ≤ r) (hj17 : j ≤ 17) : valD (subL s k j) < 100000000000000000 := by
  have hin := dRun_in s m k hk
  have ha : allD (subL s k j) = true := subL_all s k j (by omega) (fun i hi => dRun_dig s m k i (by omega))
  exact valD_bd _ 17 ha (by rw [subL_len (by omega)]; exact hj17)
theorem rt_rc {s : ByteArray} {a b v x : Int} {o o' : Bool} (h1 : a = b) (h2 : o = o') (h3 : v = x) : Ending.returned (.tuple #[.agg #[.string s, .int .i64 a, .bool o], .int .i64 v]) = .returned (.tuple #[.agg #[.string s, .int .i64 b, .bool o'], .int .i64 x]) := by rw [h1, h2, h3]

set_option maxRecDepth 100000 in
set_option linter.unusedSimpArgs false in
set_option maxHeartbeats 8000000 in
theorem rnum_any (s : ByteArray) (k : Nat) (ok : Bool) (a m : Nat) (hk : k ≤ s.size) (hs : s.size ≤ 20000) (ha : a ≤ 18) (hm : m ≤ 18) (w : World) :
    Calls Tryd.prog 37 #[.agg #[.string s, .int .i64 (k : Int), .bool ok], .int .i64 (a : Int), .int .i64 (m : Int)] w fun e w' => e = .returned (.tuple #[.agg #[.string s, .int .i64 ((k + dRun s m k : Nat) : Int), .bool (ok && decide (a ≤ dRun s m k))], .int .i64 (numC s k m : Nat)]) ∧ Below w.heap.size w w' := by
  have hin := dRun_in s m k hk
  have hle := dRun_le s m k
  have hnum : numC s k m = valD (subL s k (dRun s m k)) := rfl
  have hbd := fun j (hj : j ≤ dRun s m k) (h17 : j ≤ 17) => sub_bd (s := s) (k := k) (j := j) (m := m) hk rfl hj h17
  have hr0 : dRun s m k = 0 + dRun s (m - 0) (k + 0) := by simp
  obtain ⟨r, hr⟩ : ∃ r, dRun s m k = r := ⟨_, rfl⟩
  rw [hr] at hin hle hnum hbd hr0 ⊢
  obtain ⟨N, hN⟩ : ∃ N, numC s k m = N := ⟨_, rfl⟩
  rw [hN] at hnum ⊢
  have HN := Lib.hid hnum
  have HB := Lib.hid hbd
  have HR := Lib.hid hr0
  have hv0 : valD (subL s k 0) = 0 := by unfold subL; rw [extract_list]; simp [valD]
  have HV0 := Lib.hid hv0
  clear hnum hbd hr hN hr0 hv0
  have hb2 : Below w.heap.size w ((w.alloc (.cells #[.string s, .int .i64 (k : Int), .bool ok] 67)).alloc (.cells #[.string ⟨#[]⟩, .int .i64 0, .bool false] 67)) := bl_trans (below_alloc _ _) (below_alloc _ _)
  have HB2 := Lib.hid hb2
  clear hb2
  go_enter Tryd.func37, Tryd.ntmps37
  go_wp2
  go_loop [8, 9] (fun n v => ∃ j : Nat, j ≤ r ∧ n = .int .i64 j ∧ v = .int .i64 (valD (subL s k j) : Nat) ∧ r = j + dRun s (m - j) (k + j)) (fun n _ => 20 - (intOf n).toNat)
  case atStart => exact ⟨0, by omega, rfl, by rw [HV0.out]; rfl, HR.out⟩
  case round =>
    obtain ⟨j, hj, rfl, rfl, hrj⟩ := hrel
    have HRJ := Lib.hid hrj
    clear hrj
    by_cases h1 : k + j < s.size
    · have d1 : decide ((k : Int) + (j : Int) < (s.size : Int)) = true := by rw [decide_eq_true_iff]; omega
      by_cases h2 : j < m
      · have d2 : decide ((j : Int) < (m : Int)) = true := by rw [decide_eq_true_iff]; omega
        have hi := byN_in s (k + j) h1
        have hc := UInt8.toNat_lt s[k + j]
        have hrd := fun W => rdigit_any s[k + j].toNat W
        cases hdg : digB (byN s (k + j)) with
        | true =>
          have hst := dRun_step HRJ.out h2 hdg
          rw [hi] at hdg
          rw [hdg] at hrd
          have hdd : 48 ≤ s[k + j].toNat ∧ s[k + j].toNat ≤ 57 := by simpa [digB] using hdg
          have hvs := valD_step h1
          have hvb := HB.out j hj (by omega)
          have hjr : j + 1 ≤ r := by omega
          obtain ⟨v, hv⟩ : ∃ v, valD (subL s k j) = v := ⟨_, rfl⟩
          rw [hv] at hvs hvb ⊢
          have HK := Lib.hid (And.intro hrd (And.intro hvs hst))
          obtain ⟨h48, h57⟩ := hdd
          clear hrd hvs hst hv hdg hi
          go_wp2_with fail
          refine (HK.out.1 _).mono ?_
          rintro e w' ⟨rfl, rfl⟩
          go_wp2
          go_round
          case rel => exact ⟨j + 1, hjr, by simp, by rw [HK.out.2.1]; congr 1; push_cast; omega, HK.out.2.2⟩
          case measure => simp [intOf]; omega
        | false =>
          obtain rfl : r = j := dRun_end HRJ.out (.inr hdg)
          rw [hi] at hdg
          rw [hdg] at hrd
          have HK := Lib.hid hrd
          clear hrd hdg hi
          cases ok with
          | true =>
            by_cases h3 : a ≤ r
            · have d3 : decide ((a : Int) ≤ (r : Int)) = true := by rw [decide_eq_true_iff]; omega
              go_wp2_with fail
              refine (HK.out _).mono ?_
              rintro e w' ⟨rfl, rfl⟩
              go_wp2
              exact bodyPost_ret (v := .tuple #[.agg #[.string s, .int .i64 ((k : Int) + (r : Int)), .bool true], .int .i64 (valD (subL s k r) : Nat)]) (by simp [results, Tryd.results37, go_sem]) rfl ⟨rt_rc (by push_cast; rfl) (by simp [h3]) (by rw [HN.out]), bl_trans (below_alloc _ _) (below_alloc _ _)⟩
            · have d3 : decide ((a : Int) ≤ (r : Int)) = false := by rw [decide_eq_false_iff_not]; omega
              go_wp2_with fail
              refine (HK.out _).mono ?_
              rintro e w' ⟨rfl, rfl⟩
              go_wp2
              exact bodyPost_ret (v := .tuple #[.agg #[.string s, .int .i64 ((k : Int) + (r : Int)), .bool false], .int .i64 (valD (subL s k r) : Nat)]) (by simp [results, Tryd.results37, go_sem]) rfl ⟨rt_rc (by push_cast; rfl) (by simp [h3]) (by rw [HN.out]), bl_trans (below_alloc _ _) (below_alloc _ _)⟩
          | false =>
            go_wp2_with fail
            refine (HK.out _).mono ?_
            rintro e w' ⟨rfl, rfl⟩
            go_wp2
            exact bodyPost_ret (v := .tuple #[.agg #[.string s, .int .i64 ((k : Int) + (r : Int)), .bool false], .int .i64 (valD (subL s k r) : Nat)]) (by simp [results, Tryd.results37, go_sem]) rfl ⟨rt_rc (by push_cast; rfl) (by simp) (by rw [HN.out]), bl_trans (below_alloc _ _) (below_alloc _ _)⟩
      · obtain rfl : j = m := by omega
        obtain rfl : r = j := dRun_end HRJ.out (.inl rfl)
        have d2 : decide ((r : Int) < (r : Int)) = false := by simp
        clear h2 hj hle
        cases ok with
        | true =>
          by_cases h3 : a ≤ r
          · have d3 : decide ((a : Int) ≤ (r : Int)) = true := by rw [decide_eq_true_iff]; omega

            go_wp2
            exact bodyPost_ret (v := .tuple #[.agg #[.string s, .int .i64 ((k : Int) + (r : Int)), .bool true], .int .i64 (valD (subL s k r) : Nat)]) (by simp [results, Tryd.results37, go_sem]) rfl ⟨rt_rc (by push_cast; rfl) (by simp [h3]) (by rw [HN.out]), bl_trans (below_alloc _ _) (below_alloc _ _)⟩
          · have d3 : decide ((a : Int) ≤ (r : Int)) = false := by rw [decide_eq_false_iff_not]; omega

            go_wp2
            exact bodyPost_ret (v := .tuple #[.agg #[.string s, .int .i64 ((k : Int) + (r : Int)), .bool false], .int .i64 (valD (subL s k r) : Nat)]) (by simp [results, Tryd.results37, go_sem]) rfl ⟨rt_rc (by push_cast; rfl) (by simp [h3]) (by rw [HN.out]), bl_trans (below_alloc _ _) (below_alloc _ _)⟩
        | false =>

          go_wp2
          exact bodyPost_ret (v := .tuple #[.agg #[.string s, .int .i64 ((k : Int) + (r : Int)), .bool false], .int .i64 (valD (subL s k r) : Nat)]) (by simp [results, Tryd.results37, go_sem]) rfl ⟨rt_rc (by push_cast; rfl) (by simp) (by rw [HN.out]), bl_trans (below_alloc _ _) (below_alloc _ _)⟩
    · have hz : digB (byN s (k + j)) = false := by rw [byN_out s _ h1]; rfl
      obtain rfl : r = j := dRun_end HRJ.out (.inr hz)
      have d1 : decide ((k : Int) + (r : Int) < (s.size : Int)) = false := by rw [decide_eq_false_iff_not]; omega
      clear hz
      cases ok with
      | true =>
        by_cases h3 : a ≤ r
        · have d3 : decide ((a : Int) ≤ (r : Int)) = true := by rw [decide_eq_true_iff]; omega

          go_wp2
          exact bodyPost_ret (v := .tuple #[.agg #[.string s, .int .i64 ((k : Int) + (r : Int)), .bool true], .int .i64 (valD (subL s k r) : Nat)]) (by simp [results, Tryd.results37, go_sem]) rfl ⟨rt_rc (by push_cast; rfl) (by simp [h3]) (by rw [HN.out]), bl_trans (below_alloc _ _) (below_alloc _ _)⟩
        · have d3 : decide ((a : Int) ≤ (r : Int)) = false := by rw [decide_eq_false_iff_not]; omega

          go_wp2
          exact bodyPost_ret (v := .tuple #[.agg #[.string s, .int .i64 ((k : Int) + (r : Int)), .bool false], .int .i64 (valD (subL s k r) : Nat)]) (by simp [results, Tryd.results37, go_sem]) rfl ⟨rt_rc (by push_cast; rfl) (by simp [h3]) (by rw [HN.out]), bl_trans (below_alloc _ _) (below_alloc _ _)⟩
      | false =>

        go_wp2
        exact bodyPost_ret (v := .tuple #[.agg #[.string s, .int .i64 ((k : Int) + (r : Int)), .bool false], .int .i64 (valD (subL s k r) : Nat)]) (by simp [results, Tryd.results37, go_sem]) rfl ⟨rt_rc (by push_cast; rfl) (by simp) (by rw [HN.out]), bl_trans (below_alloc _ _) (below_alloc _ _)⟩

theorem rt_ra {s : ByteArray} {a b : Int} {o o' : Bool} (h1 : a = b) (h2 : o = o') : Ending.returned (.agg #[.string s, .int .i64 a, .bool o]) = .returned (.agg #[.string s, .int .i64 b, .bool o']) := by rw [h1, h2]
set_option maxRecDepth 100000 in
set_option maxHeartbeats 8000000 in
theorem rbyte_yes (s : ByteArray) (k : Nat) (ok : Bool) (b : Nat) (hs : s.size ≤ 20000) (hb : byN s k = b) (hb0 : b ≠ 0) (w : World) :
    Calls Tryd.prog 38 #[.agg #[.string s, .int .i64 (k : Int), .bool ok], .int .u8 (b : Int)] w fun e w' => e = .returned (.agg #[.string s, .int .i64 ((k + 1 : Nat) : Int), .bool ok]) ∧ Below w.heap.size w w' := by
  have h1 : k < s.size := byN_pos (by omega)
  have hi := byN_in s k h1
  have d1 : decide ((k : Int) < (s.size : Int)) = true := by rw [decide_eq_true_iff]; omega
  rw [hb] at hi
  subst hi
  clear hb hb0
  go_enter Tryd.func38, Tryd.ntmps38
  go_wp2
  exact bodyPost_ret (v := .agg #[.string s, .int .i64 ((k : Int) + 1), .bool ok]) (by simp [results, Tryd.results38, go_sem]) rfl ⟨rt_ra (by push_cast; rfl) rfl, bl_trans (below_alloc _ _) (below_alloc _ _)⟩
set_option maxRecDepth 100000 in
set_option maxHeartbeats 8000000 in
theorem rbyte_no (s : ByteArray) (k : Nat) (ok : Bool) (b : Nat) (_hs : s.size ≤ 20000) (hk : k ≤ s.size) (hb : byN s k ≠ b) (w : World) :
    Calls Tryd.prog 38 #[.agg #[.string s, .int .i64 (k : Int), .bool ok], .int .u8 (b : Int)] w fun e w' => e = .returned (.agg #[.string s, .int .i64 (k : Int), .bool false]) ∧ Below w.heap.size w w' := by
  by_cases h1 : k < s.size
  · have hi := byN_in s k h1
    rw [hi] at hb
    have d1 : decide ((k : Int) < (s.size : Int)) = true := by rw [decide_eq_true_iff]; omega
    have d2 : ((s[k].toNat : Int) == (b : Int)) = false := by rw [beq_eq_false_iff_ne]; omega
    clear hb hi
    go_enter Tryd.func38, Tryd.ntmps38
    go_wp2
    exact bodyPost_ret (v := .agg #[.string s, .int .i64 (k : Int), .bool false]) (by simp [results, Tryd.results38, go_sem]) rfl ⟨rfl, bl_trans (below_alloc _ _) (below_alloc _ _)⟩
  · have d1 : decide ((k : Int) < (s.size : Int)) = false := by rw [decide_eq_false_iff_not]; omega
    clear hb
    go_enter Tryd.func38, Tryd.ntmps38
    go_wp2
    exact bodyPost_ret (v := .agg #[.string s, .int .i64 (k : Int), .bool false]) (by simp [results, Tryd.results38, go_sem]) rfl ⟨rfl, bl_trans (below_alloc _ _) (below_alloc _ _)⟩
/-- The reference's cursor in the state of the program's. -/
def rcV (s : ByteArray) (p : CS) : Value := .agg #[.string s, .int .i64 (p.pos : Int), .bool (!p.bad)]
theorem rcV_number (s : ByteArray) (p : CS) (a m : Nat) (hk : p.pos ≤ s.size) (hs : s.size ≤ 20000) (ha : a ≤ 18) (hm : m ≤ 18) (w : World) :
    Calls Tryd.prog 37 #[rcV s p, .int .i64 (a : Int), .int .i64 (m : Int)] w fun e w' => e = .returned (.tuple #[rcV s (digitsC s p a m), .int .i64 (numC s p.pos m : Nat)]) ∧ Below w.heap.size w w' := by
  have h := rnum_any s p.pos (!p.bad) a m hk hs ha hm w
  have e : (!p.bad && decide (a ≤ dRun s m p.pos)) = !(p.bad || decide (dRun s m p.pos < a)) := by
    by_cases h3 : a ≤ dRun s m p.pos
    · rw [decide_eq_true h3, decide_eq_false (by omega)]; simp
    · rw [decide_eq_false h3, decide_eq_true (by omega)]; simp
  rw [e] at h
  exact h
theorem rcV_byte (s : ByteArray) (p : CS) (b : Nat) (hk : p.pos ≤ s.size) (hs : s.size ≤ 20000) (hb0 : b ≠ 0) (w : World) :
    Calls Tryd.prog 38 #[rcV s p, .int .u8 (b : Int)] w fun e w' => e = .returned (rcV s (expectC s p b)) ∧ Below w.heap.size w w' := by
  unfold expectC
  by_cases hb : byN s p.pos = b
  · rw [if_pos hb]; exact rbyte_yes s p.pos (!p.bad) b hs hb hb0 w
  · rw [if_neg hb]; exact rbyte_no s p.pos (!p.bad) b hs hk hb w
theorem digitsC_in {s : ByteArray} {p : CS} {a b : Nat} (h : p.pos ≤ s.size) : (digitsC s p a b).pos ≤ s.size := dRun_in s b p.pos h
theorem expectC_in {s : ByteArray} {p : CS} {c : Nat} (h : p.pos ≤ s.size) (hc : c ≠ 0) : (expectC s p c).pos ≤ s.size := by
  unfold expectC; split
  · rename_i e; exact byN_pos (s := s) (k := p.pos) (by omega)
  · exact h
theorem clkC_in {s : ByteArray} {p : CS} (h : p.pos ≤ s.size) : (clkC s p).pos ≤ s.size := digitsC_in (expectC_in (digitsC_in (expectC_in (digitsC_in h) (by omega))) (by omega))
end Go.Proofs.YtpbfgafkoodeoaaDoor

namespace Go.Proofs.YtpbfgafkoodeoaaDoor
open Go.RowKit

theorem fracC_badR {s : ByteArray} {p : CS} : (fracC s p).bad = p.bad := by unfold fracC; split <;> rfl
theorem clockC_badEq {s : ByteArray} {p : CS} : (clockC s p).bad = (clkC s p).bad := fracC_badR
theorem clkC_bad {s : ByteArray} {p : CS} (h : p.bad = true) : (clkC s p).bad = true := digitsC_bad (expectC_bad (digitsC_bad (expectC_bad (digitsC_bad h))))
theorem clockC_badR {s : ByteArray} {p : CS} (h : p.bad = true) : (clockC s p).bad = true := clockC_badEq.trans (clkC_bad h)
theorem zone_bad {s : ByteArray} {p : CS} : (zoneC s p).bad = p.bad := by
  unfold zoneC
  split
  · rfl
  · split
    · rename_i h
      unfold zonB at h
      simp only [Bool.and_eq_true, Bool.not_eq_true'] at h
      have h3 := h.2
      have : p.bad = false := by
        cases hp : p.bad with
        | false => rfl
        | true =>
          have e1 : (zon1 s p).bad = true := digitsC_bad (p := p.next) hp
          have e2 : (zon2 s p).bad = true := takeC_bad.trans e1
          have e3 : (zon3 s p).bad = true := digitsC_bad e2
          rw [h3] at e3; cases e3
      rw [h3, this]
    · rfl
theorem fu_bad (s : ByteArray) : (fu8 s).bad = (fu7 s).bad := zone_bad
/-- Form 2, as the reference reads it. -/
def ty3 (s : ByteArray) : CS := if (sy2 s).bad = true then sy2 s else sy3 s
def ty4 (s : ByteArray) : CS := digitsC s (ty3 s) 1 2
def ty5 (s : ByteArray) : CS := expectC s (ty4 s) 32
def ty6 (s : ByteArray) : CS := clockC s (ty5 s)
def tyD (s : ByteArray) : D7 := ⟨0, (cmonN s ⟨0, false⟩ : Nat), (numC s (ty3 s).pos 2 : Nat), (clkH s (ty5 s) : Nat), (clkI s (ty5 s) : Nat), (clkS s (ty5 s) : Nat), (clkM s (ty5 s) : Nat)⟩
theorem ty_same {s : ByteArray} (h : (sy2 s).bad = false) : ty6 s = sy6 s ∧ tyD s = syD s 0 := by
  have e3 : ty3 s = sy3 s := by unfold ty3; rw [h]; rfl
  have e4 : ty4 s = sy4 s := by unfold ty4 sy4; rw [e3]
  have e5 : ty5 s = sy5 s := by unfold ty5 sy5; rw [e4]
  exact ⟨by unfold ty6 sy6; rw [e5], by unfold tyD syD; rw [e3, e5]⟩
theorem sy_bad {s : ByteArray} (h : (sy2 s).bad = true) : (sy6 s).bad = true := clockC_badR (expectC_bad (digitsC_bad (takeC_bad.trans h)))
theorem ty_badT {s : ByteArray} (h : (sy2 s).bad = true) : (ty6 s).bad = true := by
  have e3 : (ty3 s).bad = true := by unfold ty3; rw [if_pos h]; exact h
  exact clockC_badR (expectC_bad (digitsC_bad e3))
theorem ty_badEq (s : ByteArray) : (ty6 s).bad = (sy6 s).bad := by
  cases h : (sy2 s).bad with
  | true => rw [ty_badT h, sy_bad h]
  | false => rw [(ty_same h).1]
theorem ty_good {s : ByteArray} (h : (sy6 s).bad = false) : ty6 s = sy6 s ∧ tyD s = syD s 0 := by
  refine ty_same ?_
  cases h2 : (sy2 s).bad with
  | false => rfl
  | true => rw [sy_bad h2] at h; cases h
/-- A string of less than four bytes does not have form 2. -/
theorem sy_short {s : ByteArray} (h : s.size < 4) : (sy6 s).bad = true := by
  refine sy_bad ?_
  have hq : 3 ≤ s.size ∨ s.size ≤ 2 := by omega
  have hp : (sy1 s).pos = min 3 s.size := by unfold sy1 monthC monQ; simp
  unfold sy2 expectC
  rw [if_neg]
  rw [hp, byN_out s _ (by omega)]; omega
/-- Form 3, as the reference reads it. -/
def rlY (s : ByteArray) : Int := if dRun s 4 (sl4 s).pos = 2 then (if numC s (sl4 s).pos 4 < 70 then 2000 + (numC s (sl4 s).pos 4 : Int) else 1900 + (numC s (sl4 s).pos 4 : Int)) else (numC s (sl4 s).pos 4 : Int)
def rlM (s : ByteArray) (first : Bool) : Nat × Nat := if slB s ≤ 12 ∧ (12 < slA s ∨ first = true) then (slB s, slA s) else (slA s, slB s)
def rlD (s : ByteArray) (first : Bool) : D7 := ⟨rlY s, ((rlM s first).1 : Nat), ((rlM s first).2 : Nat), (clkH s (sl6 s) : Nat), (clkI s (sl6 s) : Nat), (clkS s (sl6 s) : Nat), (clkM s (sl6 s) : Nat)⟩
theorem sl_5 {s : ByteArray} (h : (sl7 s).bad = false) : (sl5 s).bad = false := by
  cases h5 : (sl5 s).bad with
  | false => rfl
  | true =>
    have : (sl7 s).bad = true := clockC_badR (expectC_bad h5)
    rw [h] at this; cases this
theorem rlY_eq {s : ByteArray} (h : (sl7 s).bad = false) : rlY s = yearV s (sl4 s) := by
  have h5 := sl_5 h
  have hle := dRun_le s 4 (sl4 s).pos
  unfold sl5 yearC at h5
  simp only [Bool.or_eq_false_iff, decide_eq_false_iff_not] at h5
  unfold rlY yearV
  have h24 : dRun s 4 (sl4 s).pos = 2 ∨ dRun s 4 (sl4 s).pos = 4 := by omega
  rcases h24 with e | e
  · rw [e]; simp
  · rw [e]; simp
theorem rlM_eq {s : ByteArray} {first : Bool} (h : slA s ≤ 12 ∨ slB s ≤ 12) : rlM s first = slM s first := by
  unfold rlM slM
  cases first with
  | true =>
    simp only [or_true, and_true, if_true]
    by_cases hb : slB s ≤ 12
    · rw [if_pos hb, if_neg (by omega)]
    · rw [if_neg hb, if_pos (by omega)]
  | false =>
    simp only [Bool.false_eq_true, or_false, if_false]
    by_cases ha : 12 < slA s
    · rw [if_pos ⟨by omega, ha⟩, if_pos ha]
    · rw [if_neg (fun x => ha x.2), if_neg ha]
theorem rlD_eq {s : ByteArray} {first : Bool} (hb : (sl7 s).bad = false) (h : slA s ≤ 12 ∨ slB s ≤ 12) : rlD s first = slD s (slM s first) := by
  unfold rlD slD
  rw [rlY_eq hb, rlM_eq h]
theorem mE_bad {x : D7} {z : Int} (h : 12 < x.m) : x.mE z = 10 := by
  unfold D7.mE milE
  rw [if_neg]
  rintro ⟨hv, -⟩
  have := hv.2.2.2.1
  omega
theorem slE_nofine {s : ByteArray} {z : Int} {first : Bool} (hb : (sl7 s).bad = false) (h : ¬ (slA s ≤ 12 ∨ slB s ≤ 12)) : slE s z first = 10 := by
  unfold slE
  rw [hb]
  simp only [Bool.false_eq_true, if_false]
  refine mE_bad ?_
  have hm : (slM s first).1 = slA s ∨ (slM s first).1 = slB s := by
    unfold slM
    generalize slA s = a
    generalize slB s = b
    cases first <;> simp only [Bool.false_eq_true, if_false, if_true] <;> split <;> simp
  have hA : 12 < slA s := Nat.lt_of_not_le fun x => h (.inl x)
  have hB : 12 < slB s := Nat.lt_of_not_le fun x => h (.inr x)
  have key : 12 < (slM s first).1 := by
    rcases hm with e | e
    · rw [e]; exact hA
    · rw [e]; exact hB
  have e : (slD s (slM s first)).m = ((slM s first).1 : Int) := rfl
  rw [e]
  exact Int.ofNat_lt.2 key
/-- Form 4. -/
theorem dRun_min (s : ByteArray) : ∀ (m M k : Nat), m ≤ M → dRun s m k = min m (dRun s M k)
  | 0, M, k, _ => by unfold dRun; simp
  | m + 1, 0, k, h => by omega
  | m + 1, M + 1, k, h => by
    unfold dRun
    split
    · rw [dRun_min s m M (k + 1) (by omega)]; omega
    · simp
/-- The error of a date is never ErrNoMatch. -/
theorem mE_20 (x : D7) (z : Int) : x.mE z ≠ 20 := by
  unfold D7.mE milE
  split
  · split <;> omega
  · omega
theorem nfold_20 (ref z : Int) (xs : Nat → D7) (k : Nat) : (nfold ref z xs k).2 ≠ 20 := by
  rcases nfold_ok ref z xs k with h | h
  · rw [h.1]; omega
  · rw [h]; simp
theorem neB_20 (x : D7) (ref z : Int) : (neB x ref z).2 ≠ 20 := by
  unfold neB
  split
  · exact nfold_20 _ _ _ _
  · simp
theorem dyB_20 (x : D7) (ref z : Int) : (dyB x ref z).2 ≠ 20 := by
  unfold dyB
  split
  · exact nfold_20 _ _ _ _
  · simp
theorem fu_20 (s : ByteArray) (z : Int) : (fuE s z = 20 ↔ (fu7 s).bad = true) ∧ (fuE s z = 20 → fuV s z = 0) := by
  unfold fuE fuV
  rw [fu_bad]
  cases hb : (fu7 s).bad with
  | true => simp
  | false => simp [mE_20]
theorem sy_20 (s : ByteArray) (ref year z : Int) : (syE s ref year z = 20 ↔ (sy6 s).bad = true) ∧ (syE s ref year z = 20 → syV s ref year z = 0) := by
  unfold syE syV
  cases hb : (sy6 s).bad with
  | true => simp
  | false =>
    by_cases hy : year = 0
    · simp [hy, neB_20]
    · simp [hy, mE_20]
theorem sl_20 (s : ByteArray) (z : Int) (first : Bool) : (slE s z first = 20 ↔ (sl7 s).bad = true) ∧ (slE s z first = 20 → slV s z first = 0) := by
  unfold slE slV
  cases hb : (sl7 s).bad with
  | true => simp
  | false => simp [mE_20]
theorem ep_20 (s : ByteArray) : (epE s = 20 ↔ (epN s ≠ 10 ∧ epN s ≠ 13)) ∧ (epE s = 20 → epV s = 0) := by
  unfold epE epV
  by_cases h1 : epN s = 10
  · simp [h1]
  · by_cases h2 : epN s = 13
    · simp [h2]
    · simp [h1, h2]
theorem ck_20 (s : ByteArray) (ref z : Int) : (ckE s ref z = 20 ↔ (ckC s).bad = true) ∧ (ckE s ref z = 20 → ckV s ref z = 0) := by
  unfold ckE ckV
  cases hb : (ckC s).bad with
  | true => simp
  | false => simp [dyB_20]
/-- What Recover returns. -/
noncomputable def recT (s : ByteArray) (ref year z : Int) (first : Bool) : Int × Int × Int :=
  if 20000 < s.size then (0, 0, 20)
  else if fuE s z ≠ 20 then (recV (fuV s z) (fuE s z), recP (fuE s z) (fu8 s).pos, fuE s z)
  else if syE s ref year z ≠ 20 then (recV (syV s ref year z) (syE s ref year z), recP (syE s ref year z) (sy6 s).pos, syE s ref year z)
  else if slE s z first ≠ 20 then (recV (slV s z first) (slE s z first), recP (slE s z first) (sl7 s).pos, slE s z first)
  else if epE s ≠ 20 then (recV (epV s) (epE s), recP (epE s) (epN s), epE s)
  else if ckE s ref z ≠ 20 then (recV (ckV s ref z) (ckE s ref z), recP (ckE s ref z) (ckC s).pos, ckE s ref z)
  else (0, 0, 20)
end Go.Proofs.YtpbfgafkoodeoaaDoor

namespace Go.Proofs.YtpbfgafkoodeoaaDoor
open Go.RowKit

set_option maxRecDepth 100000 in
set_option linter.unusedSimpArgs false in
set_option maxHeartbeats 16000000 in
theorem recover_none (s : ByteArray) (hs : s.size ≤ 20000) (ref year zone : Int) (first : Bool)
    (hno : ∀ k, k < 5 → ∃ p, FormC (formF k) s ref year zone first 0 20 p) (w : World) (hT : DaysT w) (hM : MonT w) :
    Calls Tryd.prog 8 #[.string s, .int .i64 ref, .int .i64 year, .int .i64 zone, .bool first] w fun e w' => e = .returned (.tuple #[.int .i64 0, .int .i64 0, .int .i64 20]) ∧ Below w.heap.size w w' := by
  have HG := Lib.hid (And.intro hT (And.intro hM (And.intro hT.lt hM.lt)))
  have HF := Lib.hid hno
  have hs2 : ¬ (20000 : Int) < (s.size : Int) := by omega
  have hs3 := Lib.hid hs
  clear hT hM hno hs
  go_enter Tryd.func8, Tryd.ntmps8
  go_wp2_with fail
  refine (forms_any _).mono ?_
  rintro e w1 ⟨rfl, hfm, hb1⟩
  have hb := bl_trans (below_alloc w (.cells #[.int .i64 ref, .int .i64 year, .int .i64 zone, .bool first] 48)) hb1
  have hh := (RowAt.new 48 #[.int .i64 ref, .int .i64 year, .int .i64 zone, .bool first] w).below hb1
  have hFB : (w.alloc (.cells #[.int .i64 ref, .int .i64 year, .int .i64 zone, .bool first] 48)).heap.size = w.heap.size + 1 := by simp
  rw [hFB] at hfm ⊢
  have HI := Lib.hid (show RcInv w.heap.size (w.heap.size + 1) #[.int .i64 ref, .int .i64 year, .int .i64 zone, .bool first] w w1 from ⟨hh, hfm, hb⟩)
  clear hfm hb1 hb hh hFB
  go_wp2_with fail
  go_loopw [29] (fun i wr => ∃ k : Nat, k ≤ 5 ∧ i = .int .i64 k ∧ RcInv w.heap.size (w.heap.size + 1) #[.int .i64 ref, .int .i64 year, .int .i64 zone, .bool first] w wr) (fun i _ => 5 - (intOf i).toNat)
  case atStart => exact ⟨0, by omega, rfl, HI.out⟩
  case round =>
    obtain ⟨k, hk, rfl, hinv⟩ := hrel
    by_cases hk5 : k < 5
    · have hd5 : decide ((k : Int) < 5) = true := by rw [decide_eq_true_iff]; omega
      have hcell := formsA_cell hinv.fm k hk5
      have hlt := hinv.hd.lt
      have g0 := hinv.hd.cell 0
      have g1 := hinv.hd.cell 1
      have g2 := hinv.hd.cell 2
      have g3 := hinv.hd.cell 3
      simp only [List.getElem?_toArray, List.getElem?_cons_zero, List.getElem?_cons_succ] at g0 g1 g2 g3
      have hnew := CAt.new hs3.out wr
      have hgl := glob_new (o := .cells #[.string s, .int .i64 0, .bool false] 54) HG.out.1 HG.out.2.1 HG.out.2.2.1 HG.out.2.2.2 hinv.bl
      have HI2 := Lib.hid (And.intro hinv (And.intro hnew hgl))
      clear hinv hnew hgl
      · obtain ⟨p, hfc⟩ := HF.out k hk5
        have HC := Lib.hid (fun B W h1 h2 => hfc B W h1 h2)
        have HK := Lib.hid (show k + 1 ≤ 5 by omega)
        have H5 := Lib.hid hk5
        clear hfc hk hk5 hd5
        have h5 : k = 0 ∨ k = 1 ∨ k = 2 ∨ k = 3 ∨ k = 4 := by have := H5.out; omega
        rcases h5 with rfl | rfl | rfl | rfl | rfl
        all_goals
          simp only [fnV, formF, ic0, ic1, ic2, ic3, ic4] at hcell ⊢
          go_wp2_with fail
          refine (HC.out _ _ HI2.out.2.1 HI2.out.2.2).mono ?_
          rintro e w2 ⟨rfl, ⟨b, hc2⟩, hf2⟩
          have HB := Lib.hid (HI2.out.1.below (fresh_fr hf2))
          clear hc2 hf2
          go_wp2
          go_roundw
          case rel => exact ⟨_, HK.out, rfl, HB.out⟩
          case measure => simp [intOf]
    · obtain rfl : k = 5 := by omega
      have hd5 : decide (((5 : Nat) : Int) < 5) = false := by rw [decide_eq_false_iff_not]; omega
      have HB := Lib.hid hinv.bl
      clear hinv hk hk5
      go_wp2
      exact bodyPost_ret (v := .tuple #[.int .i64 0, .int .i64 0, .int .i64 20]) (by simp [results, Tryd.results8, go_sem]) rfl ⟨rfl, HB.out⟩
set_option maxRecDepth 100000 in
set_option maxHeartbeats 4000000 in
theorem recover_big (s : ByteArray) (hs : 20000 < s.size) (ref year zone : Int) (first : Bool) (w : World) :
    Calls Tryd.prog 8 #[.string s, .int .i64 ref, .int .i64 year, .int .i64 zone, .bool first] w fun e w' => e = .returned (.tuple #[.int .i64 0, .int .i64 0, .int .i64 20]) ∧ Below w.heap.size w w' := by
  have hsz : (20000 : Int) < (s.size : Int) := by omega
  clear hs
  go_enter Tryd.func8, Tryd.ntmps8
  go_wp2
  exact bodyPost_ret (v := .tuple #[.int .i64 0, .int .i64 0, .int .i64 20]) (by simp [results, Tryd.results8, go_sem]) rfl ⟨rfl, Below.refl _ _⟩
theorem recover_any (s : ByteArray) (ref year z : Int) (first : Bool) (w : World) (hT : DaysT w) (hM : MonT w) :
    Calls Tryd.prog 8 #[.string s, .int .i64 ref, .int .i64 year, .int .i64 z, .bool first] w fun e w' => e = .returned (.tuple #[.int .i64 (recT s ref year z first).1, .int .i64 (recT s ref year z first).2.1, .int .i64 (recT s ref year z first).2.2]) ∧ Below w.heap.size w w' := by
  have F0 : FormC (formF 0) s ref year z first (fuV s z) (fuE s z) (fu8 s).pos := fun B W g1 g2 => full_any s B ref year z first W g1 g2
  have F1 : FormC (formF 1) s ref year z first (syV s ref year z) (syE s ref year z) (sy6 s).pos := fun B W g1 g2 => syslog_any s B ref year z first W g1 g2
  have F2 : FormC (formF 2) s ref year z first (slV s z first) (slE s z first) (sl7 s).pos := fun B W g1 g2 => slashes_any s B ref year z first W g1 g2
  have F3 : FormC (formF 3) s ref year z first (epV s) (epE s) (epN s) := fun B W g1 g2 => epoch_any s B ref year z first W g1
  have F4 : FormC (formF 4) s ref year z first (ckV s ref z) (ckE s ref z) (ckC s).pos := fun B W g1 g2 => rclock_any s B ref year z first W g1 g2
  unfold recT
  by_cases hs : 20000 < s.size
  · rw [if_pos hs]; exact recover_big s hs ref year z first w
  rw [if_neg hs]
  have hs' : s.size ≤ 20000 := by omega
  by_cases e0 : fuE s z = 20
  · have G0 : FormC (formF 0) s ref year z first 0 20 (fu8 s).pos := by rw [(fu_20 s z).2 e0, e0] at F0; exact F0
    rw [if_neg (by simpa using e0)]
    by_cases e1 : syE s ref year z = 20
    · have G1 : FormC (formF 1) s ref year z first 0 20 (sy6 s).pos := by rw [(sy_20 s ref year z).2 e1, e1] at F1; exact F1
      rw [if_neg (by simpa using e1)]
      by_cases e2 : slE s z first = 20
      · have G2 : FormC (formF 2) s ref year z first 0 20 (sl7 s).pos := by rw [(sl_20 s z first).2 e2, e2] at F2; exact F2
        rw [if_neg (by simpa using e2)]
        by_cases e3 : epE s = 20
        · have G3 : FormC (formF 3) s ref year z first 0 20 (epN s) := by rw [(ep_20 s).2 e3, e3] at F3; exact F3
          rw [if_neg (by simpa using e3)]
          by_cases e4 : ckE s ref z = 20
          · have G4 : FormC (formF 4) s ref year z first 0 20 (ckC s).pos := by rw [(ck_20 s ref z).2 e4, e4] at F4; exact F4
            rw [if_neg (by simpa using e4)]
            refine recover_none s hs' ref year z first (fun k hk => ?_) w hT hM
            have h5 : k = 0 ∨ k = 1 ∨ k = 2 ∨ k = 3 ∨ k = 4 := by omega
            rcases h5 with rfl | rfl | rfl | rfl | rfl
            · exact ⟨_, G0⟩
            · exact ⟨_, G1⟩
            · exact ⟨_, G2⟩
            · exact ⟨_, G3⟩
            · exact ⟨_, G4⟩
          · rw [if_pos e4]
            refine recover_at s hs' ref year z first 4 (by omega) _ _ _ (fun k hk => ?_) F4 e4 w hT hM
            have h5 : k = 0 ∨ k = 1 ∨ k = 2 ∨ k = 3 := by omega
            rcases h5 with rfl | rfl | rfl | rfl
            · exact ⟨_, G0⟩
            · exact ⟨_, G1⟩
            · exact ⟨_, G2⟩
            · exact ⟨_, G3⟩
        · rw [if_pos e3]
          refine recover_at s hs' ref year z first 3 (by omega) _ _ _ (fun k hk => ?_) F3 e3 w hT hM
          have h5 : k = 0 ∨ k = 1 ∨ k = 2 := by omega
          rcases h5 with rfl | rfl | rfl
          · exact ⟨_, G0⟩
          · exact ⟨_, G1⟩
          · exact ⟨_, G2⟩
      · rw [if_pos e2]
        refine recover_at s hs' ref year z first 2 (by omega) _ _ _ (fun k hk => ?_) F2 e2 w hT hM
        have h5 : k = 0 ∨ k = 1 := by omega
        rcases h5 with rfl | rfl
        · exact ⟨_, G0⟩
        · exact ⟨_, G1⟩
    · rw [if_pos e1]
      refine recover_at s hs' ref year z first 1 (by omega) _ _ _ (fun k hk => ?_) F1 e1 w hT hM
      obtain rfl : k = 0 := by omega
      exact ⟨_, G0⟩
  · rw [if_pos e0]
    exact recover_at s hs' ref year z first 0 (by omega) _ _ _ (fun k hk => by omega) F0 e0 w hT hM
end Go.Proofs.YtpbfgafkoodeoaaDoor
