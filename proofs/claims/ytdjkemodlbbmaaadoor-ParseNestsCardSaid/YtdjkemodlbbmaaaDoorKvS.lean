/- The reference's Sort at every list, and its comparison of lists. -/
import Derived.Test.YtdjkemodlbbmaaaDoorKvR
namespace Go.Proofs.YtdjkemodlbbmaaaDoor
open Go.RowKit

set_option maxRecDepth 100000 in
set_option maxHeartbeats 4000000 in
theorem rsort_long (L : List FldV) (v : Value) (w : World) (h : FsI w v L) (hl : 32 < L.length) :
    Calls Tryd.prog 13 #[v] w fun e w' => e = .returned (.tuple #[.slice none 0 0, .int .i64 4]) ∧ Below w.heap.size w w' := by
  rcases h with ⟨rfl, -⟩ | ⟨g, o, c, rfl, -, -, -, -⟩
  · simp at hl
  · go_enter Tryd.func13, Tryd.ntmps13
    go_wp2
    go_ret2
    exact ⟨rfl, Below.refl _ _⟩
set_option maxRecDepth 100000 in
set_option maxHeartbeats 4000000 in
theorem rsort_bad (L : List FldV) (v : Value) (w : World) (h : FsI w v L) (hl : L.length ≤ 32) (hsz : ∀ x ∈ L, x.1.size ≤ maxLen) (hb : L.all okN = false) :
    Calls Tryd.prog 13 #[v] w fun e w' => e = .returned (.tuple #[.slice none 0 0, .int .i64 6]) ∧ Below w.heap.size w w' := by
  rcases h with ⟨rfl, -⟩ | ⟨g, o, c, rfl, hg, -, -, hc⟩
  · cases hb
  · obtain ⟨n, hn⟩ : ∃ n, L.length = n := ⟨_, rfl⟩
    have HN := Lib.hid hn
    have HC := Lib.hid (And.intro hb (And.intro hc hsz))
    have hnl : ¬ 32 < n := by omega
    have hn32 : n ≤ 32 := by omega
    rw [hn]
    clear hn hb hc hl hg hsz
    go_enter Tryd.func13, Tryd.ntmps13
    go_wp2
    go_loop [4] (fun x => ∃ k : Nat, x = .int .i64 k ∧ k ≤ n ∧ (∀ j (h : j < L.length), j < k → okN L[j] = true)) (fun x => n - (intOf x).toNat)
    case atStart => exact ⟨0, rfl, Nat.zero_le _, fun j _ h => absurd h (Nat.not_lt_zero _)⟩
    case round =>
      obtain ⟨k, rfl, hk, hall⟩ := hrel
      have hkn : k < n := by
        rcases Nat.lt_or_ge k n with h | h
        · exact h
        · have : L.all okN = true := by
            rw [List.all_eq_true]
            intro x hx
            obtain ⟨j, hj, rfl⟩ := List.getElem_of_mem hx
            exact hall j hj (by have := HN.out; omega)
          rw [HC.out.1] at this
          cases this
      have hkL : k < L.length := by rw [HN.out]; exact hkn
      have hc0 := (HC.out.2.1 k hkL).1
      have hsk : L[k].1.size ≤ maxLen := HC.out.2.2 _ (List.getElem_mem _)
      have HA := Lib.hid hall
      clear hall
      obtain ⟨s1, hs1⟩ : ∃ x, L[k].1 = x := ⟨_, rfl⟩
      rw [hs1] at hc0 hsk
      have HIN := Lib.hid (fun W => rname_any s1 W hsk)
      cases hok : nameL s1.data.toList with
      | false =>
        rw [hok] at HIN
        clear hok hs1 hsk
        go_wp2_with fail
        refine (HIN.out _).mono ?_
        rintro e w2 ⟨rfl, rfl⟩
        go_wp2
        go_ret2
        exact ⟨rfl, Below.refl _ _⟩
      | true =>
        rw [hok] at HIN
        have HOK := Lib.hid (show okN L[k] = true by unfold okN; rw [hs1]; exact hok)
        clear hok hs1 hsk
        go_wp2_with fail
        refine (HIN.out _).mono ?_
        rintro e w2 ⟨rfl, rfl⟩
        go_wp2
        go_round
        case rel =>
          refine ⟨k + 1, by go_num, by omega, fun j hj hjk => ?_⟩
          by_cases q : j = k
          · subst q; exact HOK.out
          · exact HA.out j hj (by omega)
        case measure => simp [intOf]; omega
theorem rsort_any (L : List FldV) (v : Value) (w : World) (h : FsI w v L) (hsz : ∀ x ∈ L, x.1.size ≤ maxLen) :
    Calls Tryd.prog 13 #[v] w fun e w' => SortA L e w' ∧ Below w.heap.size w w' := by
  by_cases hl : 32 < L.length
  · refine (rsort_long L v w h hl).mono fun e w' ⟨he, hb⟩ => ⟨.inr ?_, hb⟩
    have e4 : sortE L = 4 := by unfold sortE; rw [if_pos hl]
    rw [e4]
    exact ⟨by decide, he⟩
  · cases ha : L.all okN with
    | false =>
      refine (rsort_bad L v w h (by omega) hsz ha).mono fun e w' ⟨he, hb⟩ => ⟨.inr ?_, hb⟩
      have e4 : sortE L = 6 := by unfold sortE; rw [if_neg hl, if_neg (by rw [ha]; simp)]
      rw [e4]
      exact ⟨by decide, he⟩
    | true =>
      refine (rsort_good L v w h (by omega) hsz ha).mono fun e w' ⟨he, hb⟩ => ⟨?_, hb⟩
      have e4 : sortE L = if dupN L then 7 else 0 := by unfold sortE; rw [if_neg hl, if_pos ha]
      rcases he with ⟨hd, he⟩ | ⟨hd, S, v', h1, h2, h3, he⟩
      · rw [hd, if_pos rfl] at e4
        right
        rw [e4]
        exact ⟨by decide, he⟩
      · rw [hd, if_neg (by simp)] at e4
        exact .inl ⟨e4, S, v', h1, h2, h3, he⟩
theorem FsI.slice {w : World} {v : Value} {L : List FldV} (h : FsI w v L) : ∃ a c, v = .slice a L.length c := by
  rcases h with ⟨rfl, a, c, rfl⟩ | ⟨g, o, c, rfl, -⟩
  · exact ⟨a, c, rfl⟩
  · exact ⟨_, c, rfl⟩
theorem FsI.cell {w : World} {a : Option Addr} {n c i : Nat} {L : List FldV} (h : FsI w (.slice a n c) L) (hi : i < L.length) : ∃ g o, a = some ⟨g, o, none⟩ ∧ w.cell? ⟨g, o + i * 2, none⟩ = some (.string L[i].1) ∧ w.cell? ⟨g, o + i * 2 + 1, none⟩ = some (.string L[i].2) ∧ g < w.heap.size := by
  rcases h with ⟨rfl, -⟩ | ⟨g, o, c, he, hg, -, -, h⟩
  · simp at hi
  · cases he; exact ⟨g, o, rfl, (h i hi).1, (h i hi).2, hg⟩
set_option maxRecDepth 100000 in
set_option maxHeartbeats 2000000 in
theorem sameF_any (v1 v2 : Value) (L : List FldV) (hL : L.length ≤ 2097153) (w : World) (h1 : FsI w v1 L) (h2 : FsI w v2 L) :
    Calls Tryd.prog 14 #[v1, v2] w fun e w' => e = .returned (.bool true) ∧ Below w.heap.size w w' := by
  obtain ⟨a1, c1, rfl⟩ := h1.slice
  obtain ⟨a2, c2, rfl⟩ := h2.slice
  have H1 := Lib.hid h1
  have H2 := Lib.hid h2
  obtain ⟨n, hn⟩ : ∃ n, L.length = n := ⟨_, rfl⟩
  have HN := Lib.hid hn
  rw [hn] at hL ⊢
  clear h1 h2 hn
  go_enter Tryd.func14, Tryd.ntmps14
  go_wp2
  go_loopw [5] (fun i wr => ∃ k : Nat, k ≤ n ∧ i = .int .i64 k ∧ Below w.heap.size w wr) (fun i _ => n - (intOf i).toNat)
  case atStart => exact ⟨0, by omega, rfl, Below.refl _ _⟩
  case round =>
    obtain ⟨k, hk, rfl, hbr⟩ := hrel
    by_cases hlt : k < n
    · have hkL : k < L.length := by rw [HN.out]; exact hlt
      obtain ⟨g1, o1, rfl, e1, e1', hg1⟩ := H1.out.cell hkL
      obtain ⟨g2, o2, rfl, e2, e2', hg2⟩ := H2.out.cell hkL
      have e1 := (hbr.cell (p := ⟨g1, o1 + k * 2, none⟩) hg1).trans e1
      have e2 := (hbr.cell (p := ⟨g2, o2 + k * 2, none⟩) hg2).trans e2
      have e1' := (hbr.cell (p := ⟨g1, o1 + k * 2 + 1, none⟩) hg1).trans e1'
      have e2' := (hbr.cell (p := ⟨g2, o2 + k * 2 + 1, none⟩) hg2).trans e2'
      obtain ⟨x, hx⟩ : ∃ x : ByteArray, L[k].1 = x := ⟨_, rfl⟩
      obtain ⟨y, hy⟩ : ∃ x : ByteArray, L[k].2 = x := ⟨_, rfl⟩
      rw [hx] at e1 e2
      rw [hy] at e1' e2'
      have HB := Lib.hid hbr
      clear hx hbr hy
      go_wp2_with fail
      go_quiet (fail)
      go_wp2
      go_roundw
      case rel => exact ⟨k + 1, by omega, by go_num, below_drewN HB.out _⟩
      case measure => simp [intOf]; omega
    · obtain rfl : k = n := by omega
      go_wp2
      go_ret
      exact ⟨rfl, hbr⟩
end Go.Proofs.YtdjkemodlbbmaaaDoor
