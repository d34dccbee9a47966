/- The contract of Sort. -/
import Derived.Test.YtdjkemodlbbmaaaDoorKvP
import Derived.Deep.QuietTactic
import Derived.BigQuiet
import Derived.IntWalk
import Derived.WalkSmall
namespace Go.Proofs.YtdjkemodlbbmaaaDoor
open Go.RowKit

def okN (f : FldV) : Bool := nameL f.1.data.toList
def dupN (S : List FldV) : Bool := !decide (S.map (·.1)).Nodup
/-- The error of Sort. -/
def sortE (L : List FldV) : Nat := if 32 < L.length then 4 else if L.all okN then (if dupN L then 7 else 0) else 6
theorem dup_perm {S L : List FldV} (h : S.Perm L) : dupN S = dupN L := by
  unfold dupN
  rw [decide_eq_decide.2 (h.map _).nodup_iff]
theorem nodup_of_asc {S : List FldV} (h : Asc S) : dupN S = false := by
  unfold dupN
  rw [decide_eq_true]
  · rfl
  · rw [List.Nodup, List.pairwise_map]
    exact h.imp fun {a b} hab e => by rw [e] at hab; exact nlt_irrefl _ hab
theorem dup_of_adj {S : List FldV} (i : Nat) (h : i + 1 < S.length) (e : S[i + 1].1 = S[i].1) : dupN S = true := by
  unfold dupN
  rw [decide_eq_false]
  · rfl
  · intro hn
    rw [List.Nodup, List.pairwise_map, List.pairwise_iff_getElem] at hn
    exact hn i (i + 1) (by omega) h (by omega) e.symm
theorem asc_of_adj {S : List FldV} (hs : S.Pairwise (fun x y => ltF y x = false)) (h : ∀ i (h : i + 1 < S.length), S[i + 1].1 ≠ S[i].1) : Asc S := by
  rw [List.pairwise_iff_getElem] at hs
  unfold Asc
  rw [List.pairwise_iff_getElem]
  intro i j hi hj hij
  have hstep : ∀ k (hk : k + 1 < S.length), nltB S[k].1 S[k + 1].1 := fun k hk => by
    have h1 := hs k (k + 1) (by omega) hk (by omega)
    rw [ltF_not] at h1
    by_cases h2 : nltB S[k].1 S[k + 1].1
    · exact h2
    · exact absurd (nlt_tri h1 h2) (h k hk)
  obtain ⟨d, rfl⟩ : ∃ d, j = i + 1 + d := ⟨j - (i + 1), by omega⟩
  clear hij
  have : ∀ d (hj : i + 1 + d < S.length), nltB S[i].1 S[i + 1 + d].1 := fun d => by
    induction d with
    | zero => exact fun hj => hstep i hj
    | succ d ih => exact fun hj => nlt_trans (ih (by omega)) (hstep (i + 1 + d) hj)
  exact this d hj

set_option maxRecDepth 100000 in
set_option maxHeartbeats 4000000 in
theorem sort_long (L : List FldV) (v : Value) (w : World) (h : FsI w v L) (hl : 32 < L.length) :
    Calls Tryd.prog 12 #[v] w fun e w' => e = .returned (.tuple #[.slice none 0 0, .int .i64 4]) ∧ Below w.heap.size w w' := by
  rcases h with ⟨rfl, -⟩ | ⟨g, o, c, rfl, -, -, -, -⟩
  · simp at hl
  · go_enter Tryd.func12, Tryd.ntmps12
    go_wp2
    go_ret2
    exact ⟨rfl, Below.refl _ _⟩
set_option maxRecDepth 100000 in
set_option maxHeartbeats 4000000 in
theorem sort_bad (L : List FldV) (v : Value) (w : World) (h : FsI w v L) (hl : L.length ≤ 32) (hb : L.all okN = false) :
    Calls Tryd.prog 12 #[v] w fun e w' => e = .returned (.tuple #[.slice none 0 0, .int .i64 6]) ∧ Below w.heap.size w w' := by
  rcases h with ⟨rfl, -⟩ | ⟨g, o, c, rfl, hg, -, -, hc⟩
  · cases hb
  · obtain ⟨n, hn⟩ : ∃ n, L.length = n := ⟨_, rfl⟩
    have HN := Lib.hid hn
    have HC := Lib.hid (And.intro hb (And.intro hc hg))
    have hnl : ¬ 32 < n := by omega
    have hn32 : n ≤ 32 := by omega
    rw [hn]
    clear hn hb hc hl hg
    go_enter Tryd.func12, Tryd.ntmps12
    go_wp2
    go_loopw [13] (fun x wr => ∃ k : Nat, x = .int .i64 k ∧ k ≤ n ∧ (∀ j (h : j < L.length), j < k → okN L[j] = true) ∧ Below w.heap.size w wr) (fun x _ => n - (intOf x).toNat)
    case atStart => exact ⟨0, rfl, Nat.zero_le _, fun j _ h => absurd h (Nat.not_lt_zero _), Below.refl _ _⟩
    case round =>
      obtain ⟨k, rfl, hk, hall, hbl⟩ := hrel
      have hkn : k < n := by
        rcases Nat.lt_or_ge k n with h | h
        · exact h
        · have : L.all okN = true := by
            rw [List.all_eq_true]
            intro x hx
            obtain ⟨j, hj, rfl⟩ := List.getElem_of_mem hx
            exact hall j hj (by have := HN.out; omega)
          rw [HC.out.1] at this
          cases this
      have hkL : k < L.length := by rw [HN.out]; exact hkn
      have hcell := HC.out.2.1 k hkL
      have hcw0 : wr.cell? ⟨g, o + k * 2, none⟩ = some (.string L[k].1) := (hbl.cell (p := ⟨g, o + k * 2, none⟩) HC.out.2.2).trans hcell.1
      have hcw1 : wr.cell? ⟨g, o + k * 2 + 1, none⟩ = some (.string L[k].2) := (hbl.cell (p := ⟨g, o + k * 2 + 1, none⟩) HC.out.2.2).trans hcell.2
      have HA := Lib.hid (And.intro hall hbl)
      clear hcell hall hbl
      obtain ⟨s1, hs1⟩ : ∃ x, L[k].1 = x := ⟨_, rfl⟩
      obtain ⟨s2, hs2⟩ : ∃ x, L[k].2 = x := ⟨_, rfl⟩
      rw [hs1] at hcw0
      rw [hs2] at hcw1
      have HIN := Lib.hid (fun W => isName_any s1 W)
      cases hok : nameL s1.data.toList with
      | false =>
        rw [hok] at HIN
        clear hok hs1 hs2
        go_wp2_with fail
        refine (HIN.out _).mono ?_
        rintro e w2 ⟨rfl, hb2⟩
        go_wp2
        go_ret2
        exact ⟨rfl, bel_trans HA.out.2 (bel_trans (bel_new _ _) hb2)⟩
      | true =>
        rw [hok] at HIN
        have HOK := Lib.hid (show okN L[k] = true by unfold okN; rw [hs1]; exact hok)
        clear hok hs1 hs2
        go_wp2_with fail
        refine (HIN.out _).mono ?_
        rintro e w2 ⟨rfl, hb2⟩
        go_wp2
        go_roundw
        case rel =>
          refine ⟨k + 1, by go_num, by omega, fun j hj hjk => ?_, ?_⟩
          · by_cases q : j = k
            · subst q; exact HOK.out
            · exact HA.out.1 j hj (by omega)
          · exact bel_trans HA.out.2 (bel_trans (bel_new _ _) hb2)
        case measure => simp [intOf]; omega
/-- What Sort hands back of valid names. -/
def SortO (L : List FldV) (e : Ending) (w' : World) : Prop :=
  (dupN L = true ∧ e = .returned (.tuple #[.slice none 0 0, .int .i64 7])) ∨ (dupN L = false ∧ ∃ (S : List FldV) (v' : Value), S.Perm L ∧ Asc S ∧ FsI w' v' S ∧ e = .returned (.tuple #[v', .int .i64 0]))
set_option maxRecDepth 100000 in
set_option maxHeartbeats 4000000 in
theorem sort_good (L : List FldV) (v : Value) (w : World) (h : FsI w v L) (hl : L.length ≤ 32) (hb : L.all okN = true) :
    Calls Tryd.prog 12 #[v] w fun e w' => SortO L e w' ∧ Below w.heap.size w w' := by
  obtain ⟨n, hn⟩ : ∃ n, L.length = n := ⟨_, rfl⟩
  obtain ⟨av, cv, rfl⟩ : ∃ a c, v = .slice a n c := by
    rcases h with ⟨rfl, a, c, rfl⟩ | ⟨g, o, c, rfl, -⟩
    · exact ⟨a, c, by rw [← hn]; rfl⟩
    · exact ⟨_, c, by rw [hn]⟩
  have HN := Lib.hid hn
  have HC := Lib.hid (And.intro hb h)
  have hnl : ¬ 32 < n := by omega
  have hn32 : n ≤ 32 := by omega
  clear hn hb hl h
  go_enter Tryd.func12, Tryd.ntmps12
  go_wp2
  go_loopw [13] (fun x wr => ∃ k : Nat, x = .int .i64 k ∧ k ≤ n ∧ Below w.heap.size w wr) (fun x _ => n - (intOf x).toNat)
  case atStart => exact ⟨0, rfl, Nat.zero_le _, Below.refl _ _⟩
  case round =>
    obtain ⟨k, rfl, hk, hbl⟩ := hrel
    by_cases hkn : k < n
    · have hkL : k < L.length := by rw [HN.out]; exact hkn
      obtain ⟨g, o, rfl, hcell, hg⟩ : ∃ g o, av = some ⟨g, o, none⟩ ∧ (w.cell? ⟨g, o + k * 2, none⟩ = some (.string L[k].1) ∧ w.cell? ⟨g, o + k * 2 + 1, none⟩ = some (.string L[k].2)) ∧ g < w.heap.size := by
        rcases HC.out.2 with ⟨hL, -⟩ | ⟨g, o, c, he, hg, -, -, hc⟩
        · rw [hL] at hkL; simp at hkL
        · cases he; exact ⟨g, o, rfl, hc k hkL, hg⟩
      have hcw0 : wr.cell? ⟨g, o + k * 2, none⟩ = some (.string L[k].1) := (hbl.cell (p := ⟨g, o + k * 2, none⟩) hg).trans hcell.1
      have hcw1 : wr.cell? ⟨g, o + k * 2 + 1, none⟩ = some (.string L[k].2) := (hbl.cell (p := ⟨g, o + k * 2 + 1, none⟩) hg).trans hcell.2
      have HA := Lib.hid hbl
      have hok : okN L[k] = true := List.all_eq_true.1 HC.out.1 _ (List.getElem_mem _)
      clear hcell hbl
      obtain ⟨s1, hs1⟩ : ∃ x, L[k].1 = x := ⟨_, rfl⟩
      obtain ⟨s2, hs2⟩ : ∃ x, L[k].2 = x := ⟨_, rfl⟩
      rw [hs1] at hcw0
      rw [hs2] at hcw1
      have HIN := Lib.hid (fun W => isName_any s1 W)
      unfold okN at hok
      rw [hs1] at hok
      rw [hok] at HIN
      clear hok hs1 hs2
      go_wp2_with fail
      refine (HIN.out _).mono ?_
      rintro e w2 ⟨rfl, hb2⟩
      go_wp2
      go_roundw
      case rel => exact ⟨k + 1, by go_num, by omega, bel_trans HA.out (bel_trans (bel_new _ _) hb2)⟩
      case measure => simp [intOf]; omega
    · have hke : k = n := by omega
      subst hke
      have hcl := clone_any L _ wr (HC.out.2.below hbl) (by have := HN.out; omega)
      have HCL := Lib.hid hcl
      have HA := Lib.hid hbl
      clear hcl hbl
      go_wp2_with fail
      refine (HCL.out).mono ?_
      rintro e w3 ⟨⟨v3, rfl, hr3⟩, hb3⟩
      have hso := sortF_any L v3 wr.heap.size w3 hr3 hb3.size (by have := HN.out; omega)
      obtain ⟨a3, c3, rfl⟩ := rowf_slice hr3
      rw [HN.out] at hso ⊢
      have HSO := Lib.hid hso
      have HB3 := Lib.hid (bel_trans HA.out hb3)
      clear hso hr3 hb3
      go_wp2_with fail
      refine (HSO.out).mono ?_
      rintro e w4 ⟨rfl, ⟨S, hpm, hsrt, hin⟩, hb4⟩
      have hSn : S.length = k := by rw [hpm.length_eq]; exact HN.out
      have HS := Lib.hid (And.intro hpm (And.intro hsrt (And.intro hin (And.intro hSn (HB3.out.trans (hb4.mono HA.out.size))))))
      clear hpm hsrt hin hSn hb4
      go_wp2
      go_loopw [7] (fun x wv => ∃ i : Nat, x = .int .i64 i ∧ 1 ≤ i ∧ (i ≤ k ∨ i = 1) ∧ (∀ j (h : j + 1 < S.length), j + 1 < i → S[j + 1].1 ≠ S[j].1) ∧ ∃ q, wv = w4.drewN q) (fun x _ => k - (intOf x).toNat)
      case atStart => exact ⟨1, rfl, Nat.le_refl _, .inr rfl, fun j _ h => absurd h (by omega), 0, rfl⟩
      case round =>
        obtain ⟨i, rfl, hi1, hik, hadj, q, rfl⟩ := hrel
        have HJ := Lib.hid hadj
        clear hadj
        by_cases hlt : i < k
        · obtain ⟨m, hm⟩ : ∃ m, i = m + 1 := ⟨i - 1, by omega⟩
          obtain ⟨g, o, rfl, hci, hcm⟩ : ∃ g o, a3 = some ⟨g, o, none⟩ ∧ (∀ h : i < S.length, w4.cell? ⟨g, o + i * 2, none⟩ = some (.string S[i].1)) ∧ (∀ h : m < S.length, w4.cell? ⟨g, o + m * 2, none⟩ = some (.string S[m].1)) := by
            rcases HS.out.2.2.1 with ⟨hL, -⟩ | ⟨g, o, c, he, hg, -, -, hc⟩
            · exact absurd (congrArg List.length hL) (by rw [HS.out.2.2.2.1]; simp; omega)
            · cases he; exact ⟨g, o, rfl, fun h => (hc i h).1, fun h => (hc m h).1⟩
          have hiS : i < S.length := by rw [HS.out.2.2.2.1]; exact hlt
          have hmS : m < S.length := by rw [HS.out.2.2.2.1]; omega
          specialize hci hiS
          specialize hcm hmS
          have e1 : IntKind.i64.wrap ((i : Int) - 1) = (i : Int) - 1 := IntWalk.i64_in _ (by omega)
          have e2 : (0 : Int) ≤ (i : Int) - 1 := by omega
          have e3 : ((i : Int) - 1).toNat = m := by omega
          have e4 : m < k := by omega
          have HM := Lib.hid hm
          obtain ⟨s1, hs1⟩ : ∃ x, S[i].1 = x := ⟨_, rfl⟩
          obtain ⟨s2, hs2⟩ : ∃ x, S[m].1 = x := ⟨_, rfl⟩
          rw [hs1] at hci
          rw [hs2] at hcm
          have HQ := Lib.hid (And.intro hs1 hs2)
          clear hm hs1 hs2
          by_cases hqq : s1 = s2
          · have HD : Hid (dupN L = true) := Lib.hid (by
              rw [← dup_perm HS.out.1]
              refine dup_of_adj m (by have := HM.out; omega) ?_
              have e5 : S[m + 1] = S[i] := by congr 1; exact HM.out.symm
              rw [e5, HQ.out.1, HQ.out.2, hqq])
            subst hqq
            go_wp2_with fail
            go_quiet (fail)
            go_wp2
            go_ret2
            exact ⟨.inl ⟨HD.out, rfl⟩, below_drewN (below_drewN HS.out.2.2.2.2 _) _⟩
          · have hne : (s1.toList == s2.toList) = false := beq_eq_false_iff_ne.2 (fun e => hqq (by
              rw [toList_b, toList_b] at e
              exact ext_b e))
            have HD := Lib.hid hqq
            clear hqq
            go_wp2_with fail
            go_quiet (fail)
            go_wp2
            go_roundw
            case rel =>
              refine ⟨i + 1, by go_num, by omega, .inl (by omega), fun j hj hji => ?_, _, rfl⟩
              by_cases q : j = m
              · subst q
                have e5 : S[j + 1] = S[i] := by congr 1; exact HM.out.symm
                rw [e5, HQ.out.1, HQ.out.2]
                exact HD.out
              · exact HJ.out j hj (by have := HM.out; omega)
            case measure => simp [intOf]; omega
        · go_wp2
          go_ret2
          have hasc : Asc S := asc_of_adj HS.out.2.1 (fun j hj => HJ.out j hj (by have := HS.out.2.2.2.1; omega))
          refine ⟨.inr ⟨by rw [← dup_perm HS.out.1]; exact nodup_of_asc hasc, S, _, HS.out.1, hasc, ?_, rfl⟩, below_drewN HS.out.2.2.2.2 _⟩
          exact HS.out.2.2.1.below ⟨rfl, rfl, rfl, Nat.le_refl _, fun _ _ => rfl⟩
end Go.Proofs.YtdjkemodlbbmaaaDoor
