/- Recover at a time without a year, and at a time without a date. -/
import Derived.Test.YtofomlbhbbhdjaaDoorTsNearM
namespace Go.Proofs.YtofomlbhbbhdjaaDoor
open Go.RowKit

/-- The law's names of the months. -/
def namL : List (List UInt8) := [[74, 97, 110], [70, 101, 98], [77, 97, 114], [65, 112, 114], [77, 97, 121], [74, 117, 110], [74, 117, 108], [65, 117, 103], [83, 101, 112], [79, 99, 116], [78, 111, 118], [68, 101, 99]]
def namG (k : Nat) : List UInt8 := namL.getD k []
def namRow : Array Value := ((List.range 12).map fun i => Value.string ⟨(namG i).toArray⟩).toArray
theorem namRow_get (i : Nat) (h : i < 12) : namRow[i]? = some (.string ⟨(namG i).toArray⟩) := by simp [namRow, h]
theorem nam_len (k : Nat) (h : k < 12) : (namG k).length = 3 := (by decide : ∀ i : Fin 12, (namG i.1).length = 3) ⟨k, h⟩
theorem nam_month (k : Nat) (h : k < 12) : monthN (namG k) = k + 1 := (by decide +kernel : ∀ i : Fin 12, monthN (namG i.1) = i.1 + 1) ⟨k, h⟩
theorem nam_head (k : Nat) (h : k < 12) : ∃ x r, namG k = x :: r ∧ digB x.toNat = false := by
  have hl := nam_len k h
  cases hn : namG k with
  | nil => rw [hn] at hl; simp at hl
  | cons x r =>
    have : ∀ i : Fin 12, ∀ y, (namG i.1).head? = some y → digB y.toNat = false := by decide
    exact ⟨x, r, rfl, this ⟨k, h⟩ x (by rw [hn]; rfl)⟩

theorem recover_sys (j : Nat) (hj : j < 12) (d h i c : Nat) (y r k : Int) (h0 : 0 ≤ r) (h1 : r ≤ 4000000000000) (hk0 : -180 ≤ k) (hk1 : k ≤ 180) (hv : Cal.valid y ((j : Int) + 1) d) (hc : clockOk h i c 0)
    (ht : msOf y ((j : Int) + 1) d h i c 0 0 = r + 86400000 * k) (ht0 : 0 ≤ r + 86400000 * k) (w : World) (hT : DaysT w) (hM : MonT w) :
    Calls Tryd.prog 11 #[.string ⟨(sysL (namG j) d h i c).toArray⟩, .int .i64 r, .int .i64 0, .int .i64 0, .bool false] w fun e w' => (∃ P : Int, e = .returned (.tuple #[.int .i64 (r + 86400000 * k), .int .i64 P, .int .i64 0])) ∧ Below w.heap.size w w' := by
  have hnb := neB_pick h0 h1 hk0 hk1 hv hc ht ht0
  obtain ⟨-, -, -, -, d1, d2⟩ := hv
  have hd31 := (Cal.len_pos (y := y) (m := (j : Int) + 1) (by omega) (by omega)).2
  obtain ⟨c1, c2, c3, -⟩ := hc
  obtain ⟨S, hS⟩ : ∃ S, sysL (namG j) d h i c = S := ⟨_, rfl⟩
  have hs : (⟨S.toArray⟩ : ByteArray).data.toList = sysL (namG j) d h i c := by rw [hS]
  obtain ⟨e1, e2⟩ := sys_read hs (nam_len j hj) (nam_month j hj) (by omega) (by omega) (by omega) (by omega) (by omega)
  obtain ⟨x, rr, hx, hxd⟩ := nam_head j hj
  have e3 := sys_notfull hs hx hxd
  have hl2 := digits_len 1 d (by omega)
  have p1 := (pad_all (v := h) (n := 2) (by omega) (by omega)).2.2
  have p2 := (pad_all (v := i) (n := 2) (by omega) (by omega)).2.2
  have p3 := (pad_all (v := c) (n := 2) (by omega) (by omega)).2.2
  have hsz : (⟨S.toArray⟩ : ByteArray).size ≤ 20000 := by
    rw [size_of, ← hS]
    simp [sysL, clkL, nam_len j hj, p1, p2, p3]
    omega
  rw [hS]
  have hnb2 : neB (syD ⟨S.toArray⟩ 0) r 0 = (r + 86400000 * k, 0) := by rw [e2]; exact hnb
  have hV : syV ⟨S.toArray⟩ r 0 0 = r + 86400000 * k := by unfold syV; rw [e1, if_neg Bool.false_ne_true, if_pos rfl, hnb2]
  have hE : syE ⟨S.toArray⟩ r 0 0 = 0 := by unfold syE; rw [e1, if_neg Bool.false_ne_true, if_pos rfl, hnb2]
  refine (recover_at ⟨S.toArray⟩ hsz r 0 0 false 1 (by omega) (r + 86400000 * k) 0 (sy6 ⟨S.toArray⟩).pos
    (fun q hq => ⟨_, fun B W g1 g2 => by
      obtain rfl : q = 0 := by omega
      have hv : fuV ⟨S.toArray⟩ 0 = 0 ∧ fuE ⟨S.toArray⟩ 0 = 20 := ⟨if_pos e3, if_pos e3⟩
      have := full_any ⟨S.toArray⟩ B r 0 0 false W g1 g2
      rw [hv.1, hv.2] at this
      exact this⟩)
    (fun B W g1 g2 => by
      have := syslog_any ⟨S.toArray⟩ B r 0 0 false W g1 g2
      rw [hV, hE] at this
      exact this) (by omega) w hT hM).mono fun e w' ⟨he, hb⟩ => ⟨⟨_, he⟩, hb⟩

theorem recover_clk (h i c : Nat) (r u n : Int) (h0 : 0 ≤ r) (h1 : r ≤ 4000000000000) (hu0 : -39600000 ≤ u - r) (hu1 : u - r ≤ 39600000) (hc : clockOk h i c 0) (hn : u = n * 86400000 + clkMs h i c) (w : World) (hT : DaysT w) (hM : MonT w) :
    Calls Tryd.prog 11 #[.string ⟨(clkL h i c []).toArray⟩, .int .i64 r, .int .i64 0, .int .i64 0, .bool false] w fun e w' => e = .returned (.tuple #[.int .i64 u, .int .i64 8, .int .i64 0]) ∧ Below w.heap.size w w' := by
  have hdb := dyB_pick h0 h1 hu0 hu1 hc hn
  obtain ⟨c1, c2, c3, -⟩ := hc
  have p1 := (pad_all (v := h) (n := 2) (by omega) (by omega)).2.2
  have p2 := (pad_all (v := i) (n := 2) (by omega) (by omega)).2.2
  have p3 := (pad_all (v := c) (n := 2) (by omega) (by omega)).2.2
  have hlen : (clkL h i c []).length = 8 := by simp [clkL, p1, p2, p3]
  obtain ⟨S, hS⟩ : ∃ S, clkL h i c [] = S := ⟨_, rfl⟩
  have hs : (⟨S.toArray⟩ : ByteArray).data.toList = clkL h i c [] := by rw [hS]
  obtain ⟨e1, e2, e3, e4, e5, e6, e7⟩ := clk_read hs (by omega) (by omega) (by omega)
  have hsz : (⟨S.toArray⟩ : ByteArray).size = 8 := by rw [size_of, ← hS, hlen]
  rw [hS]
  have hdb2 : dyB (ckD ⟨S.toArray⟩) r 0 = (u, 0) := by rw [e7]; exact hdb
  have hV : ckV ⟨S.toArray⟩ r 0 = u := by unfold ckV; rw [e5, if_neg Bool.false_ne_true, hdb2]
  have hE : ckE ⟨S.toArray⟩ r 0 = 0 := by unfold ckE; rw [e5, if_neg Bool.false_ne_true, hdb2]
  have hp0 : epV ⟨S.toArray⟩ = 0 := by
    unfold epE at e4
    unfold epV
    split
    · rename_i hh; rw [if_pos hh] at e4; omega
    · rename_i hh
      rw [if_neg hh] at e4
      split
      · rename_i hh2; rw [if_pos hh2] at e4; omega
      · rfl
  have hg := recover_at ⟨S.toArray⟩ (by omega) r 0 0 false 4 (by omega) u 0 8
    (fun q hq => by
      have h4 : q = 0 ∨ q = 1 ∨ q = 2 ∨ q = 3 := by omega
      rcases h4 with rfl | rfl | rfl | rfl
      · refine ⟨(fu8 ⟨S.toArray⟩).pos, fun B W g1 g2 => ?_⟩
        have hv : fuV ⟨S.toArray⟩ 0 = 0 ∧ fuE ⟨S.toArray⟩ 0 = 20 := ⟨if_pos e1, if_pos e1⟩
        have := full_any ⟨S.toArray⟩ B r 0 0 false W g1 g2
        rw [hv.1, hv.2] at this
        exact this
      · refine ⟨(sy6 ⟨S.toArray⟩).pos, fun B W g1 g2 => ?_⟩
        have hv : syV ⟨S.toArray⟩ r 0 0 = 0 ∧ syE ⟨S.toArray⟩ r 0 0 = 20 := ⟨if_pos e2, if_pos e2⟩
        have := syslog_any ⟨S.toArray⟩ B r 0 0 false W g1 g2
        rw [hv.1, hv.2] at this
        exact this
      · refine ⟨(sl7 ⟨S.toArray⟩).pos, fun B W g1 g2 => ?_⟩
        have hv : slV ⟨S.toArray⟩ 0 false = 0 ∧ slE ⟨S.toArray⟩ 0 false = 20 := ⟨if_pos e3, if_pos e3⟩
        have := slashes_bad ⟨S.toArray⟩ B r 0 0 false W g1 g2 e3
        rw [hv.1, hv.2] at this
        exact this
      · refine ⟨epN ⟨S.toArray⟩, fun B W g1 g2 => ?_⟩
        have := epoch_any ⟨S.toArray⟩ B r 0 0 false W g1
        rw [hp0, e4] at this
        exact this)
    (fun B W g1 g2 => by
      have := rclock_any ⟨S.toArray⟩ B r 0 0 false W g1 g2
      rw [hV, hE, e6, hsz] at this
      exact this) (by omega) w hT hM
  exact hg
end Go.Proofs.YtofomlbhbbhdjaaDoor
