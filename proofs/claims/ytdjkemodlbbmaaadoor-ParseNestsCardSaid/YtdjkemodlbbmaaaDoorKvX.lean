/- The contracts of Get and its reference, of a text of one part at most, and a slice up to a place. -/
import Derived.Test.YtdjkemodlbbmaaaDoorKvS
import Derived.Test.YtdjkemodlbbmaaaDoorKvU
import Derived.Test.YtdjkemodlbbmaaaDoorFsU
namespace Go.Proofs.YtdjkemodlbbmaaaDoor
open Go.RowKit

/-- What Get answers. -/
def getL : List FldV → ByteArray → ByteArray × Bool
  | [], _ => (⟨#[]⟩, false)
  | f :: r, n => if f.1.toList == n.toList then (f.2, true) else getL r n
theorem getL_at {L : List FldV} {k : Nat} (h : k < L.length) (n : ByteArray) : getL (L.drop k) n = if L[k].1.toList == n.toList then (L[k].2, true) else getL (L.drop (k + 1)) n := by
  rw [List.drop_eq_getElem_cons h, getL]
def getV (p : ByteArray × Bool) : Value := .tuple #[.string p.1, .bool p.2]
set_option maxRecDepth 100000 in
set_option maxHeartbeats 2000000 in
theorem get_any (L : List FldV) (v : Value) (n : ByteArray) (w : World) (h : FsI w v L) (hlen : L.length ≤ 1000) :
    Calls Tryd.prog 15 #[v, .string n] w fun e w' => e = .returned (getV (getL L n)) ∧ Below w.heap.size w w' := by
  obtain ⟨a, c, rfl⟩ := h.slice
  obtain ⟨R, hR⟩ : ∃ R, getL L n = R := ⟨_, rfl⟩
  rw [hR]
  obtain ⟨m, hm⟩ : ∃ m, L.length = m := ⟨_, rfl⟩
  rw [hm] at hlen ⊢
  have HR := Lib.hid hR
  have HM := Lib.hid hm
  have HI := Lib.hid h
  clear h hR hm
  go_enter Tryd.func15, Tryd.ntmps15
  go_wp2
  go_loopw [10] (fun x wr => ∃ k : Nat, x = .int .i64 k ∧ k ≤ m ∧ getL (L.drop k) n = R ∧ Below w.heap.size w wr) (fun x _ => m - (intOf x).toNat)
  case atStart => exact ⟨0, rfl, Nat.zero_le _, HR.out, Below.refl _ _⟩
  case round =>
    obtain ⟨k, rfl, hk, hg, hbl⟩ := hrel
    by_cases hkm : k < m
    · have hkL : k < L.length := by rw [HM.out]; exact hkm
      obtain ⟨g, o, rfl, c0, c1, hgs⟩ := HI.out.cell hkL
      have c0 := (hbl.cell (p := ⟨g, o + k * 2, none⟩) hgs).trans c0
      have c1 := (hbl.cell (p := ⟨g, o + k * 2 + 1, none⟩) hgs).trans c1
      rw [getL_at hkL] at hg
      obtain ⟨s1, hs1⟩ : ∃ x, L[k].1 = x := ⟨_, rfl⟩
      obtain ⟨s2, hs2⟩ : ∃ x, L[k].2 = x := ⟨_, rfl⟩
      rw [hs1] at c0
      rw [hs2] at c1
      rw [hs1, hs2] at hg
      have HB := Lib.hid hbl
      clear hs1 hs2 hbl
      cases he : (s1.toList == n.toList) with
      | true =>
        rw [he, if_pos rfl] at hg
        have HG := Lib.hid hg
        have he2 : s1.toList = n.toList := eq_of_beq he
        have hsn : s1 = n := by rw [toList_b, toList_b] at he2; exact ext_b he2
        subst hsn
        clear hg he he2
        go_wp2
        go_ret2
        exact ⟨by rw [← HG.out]; rfl, bel_trans HB.out (bel_new _ _)⟩
      | false =>
        rw [he, if_neg (by simp)] at hg
        have HG := Lib.hid hg
        clear hg
        go_wp2
        go_roundw
        case rel => exact ⟨k + 1, by go_num, by omega, HG.out, bel_trans HB.out (bel_new _ _)⟩
        case measure => simp [intOf]; omega
    · have hke : k = m := by omega
      subst hke
      rw [List.drop_eq_nil_of_le (by rw [HM.out]; exact Nat.le_refl _)] at hg
      have HG := Lib.hid hg
      clear hg
      go_wp2
      go_ret2
      exact ⟨by rw [← HG.out]; rfl, hbl⟩
set_option maxRecDepth 100000 in
set_option maxHeartbeats 2000000 in
theorem rget_any (L : List FldV) (v : Value) (n : ByteArray) (w : World) (h : FsI w v L) (hlen : L.length ≤ 1000) :
    Calls Tryd.prog 16 #[v, .string n] w fun e w' => e = .returned (getV (getL L n)) ∧ w = w' := by
  obtain ⟨a, c, rfl⟩ := h.slice
  obtain ⟨R, hR⟩ : ∃ R, getL L n = R := ⟨_, rfl⟩
  rw [hR]
  obtain ⟨m, hm⟩ : ∃ m, L.length = m := ⟨_, rfl⟩
  rw [hm] at hlen ⊢
  have HR := Lib.hid hR
  have HM := Lib.hid hm
  have HI := Lib.hid h
  clear h hR hm
  go_enter Tryd.func16, Tryd.ntmps16
  go_wp2
  go_loop [6] (fun x => ∃ k : Nat, x = .int .i64 k ∧ k ≤ m ∧ getL (L.drop k) n = R) (fun x => m - (intOf x).toNat)
  case atStart => exact ⟨0, rfl, Nat.zero_le _, HR.out⟩
  case round =>
    obtain ⟨k, rfl, hk, hg⟩ := hrel
    by_cases hkm : k < m
    · have hkL : k < L.length := by rw [HM.out]; exact hkm
      obtain ⟨g, o, rfl, c0, c1, hgs⟩ := HI.out.cell hkL
      rw [getL_at hkL] at hg
      obtain ⟨s1, hs1⟩ : ∃ x, L[k].1 = x := ⟨_, rfl⟩
      obtain ⟨s2, hs2⟩ : ∃ x, L[k].2 = x := ⟨_, rfl⟩
      rw [hs1] at c0
      rw [hs2] at c1
      rw [hs1, hs2] at hg
      clear hs1 hs2
      cases he : (s1.toList == n.toList) with
      | true =>
        rw [he, if_pos rfl] at hg
        have HG := Lib.hid hg
        have he2 : s1.toList = n.toList := eq_of_beq he
        have hsn : s1 = n := by rw [toList_b, toList_b] at he2; exact ext_b he2
        subst hsn
        clear hg he he2
        go_wp2
        go_ret2
        exact ⟨by rw [← HG.out]; rfl, rfl⟩
      | false =>
        rw [he, if_neg (by simp)] at hg
        have HG := Lib.hid hg
        clear hg
        go_wp2
        go_round
        case rel => exact ⟨k + 1, by go_num, by omega, HG.out⟩
        case measure => simp [intOf]; omega
    · have hke : k = m := by omega
      subst hke
      rw [List.drop_eq_nil_of_le (by rw [HM.out]; exact Nat.le_refl _)] at hg
      have HG := Lib.hid hg
      clear hg
      go_wp2
      go_ret2
      exact ⟨by rw [← HG.out]; rfl, rfl⟩
set_option maxRecDepth 100000 in
set_option linter.unusedSimpArgs false in
set_option maxHeartbeats 8000000 in
theorem gtext1_any (C : Nat) (w : World) (h : MkAt C w) :
    Calls Tryd.prog 11 #[.pointer (some ⟨C, 0, none⟩), .int .i64 1] w fun e w' => (∃ s : ByteArray, e = .returned (.string s)) ∧ MkAt C w' ∧ GFr C w w' := by
  have hn := next_any C 2 w h (by omega) (by omega)
  have H := Lib.hid hn
  clear hn h
  go_enter Tryd.func11, Tryd.ntmps11
  go_wp2_with fail
  refine (H.out).mono ?_
  rintro e w1 ⟨⟨z, rfl, hz0, hz1⟩, hm1, hf1⟩
  obtain ⟨k0, rfl⟩ : ∃ i : Nat, z = (i : Int) := ⟨z.toNat, by omega⟩
  have hk0 : k0 ≤ 1 := by omega
  have K := Lib.hid (And.intro hm1 hf1)
  clear hm1 hf1 hz0 hz1
  go_wp2_with fail
  go_loopw [5, 6] (fun sv nv wr => ∃ (x : ByteArray) (k : Nat), sv = .string x ∧ nv = .int .i64 k ∧ x.size + 4 * k ≤ 4 ∧ MkAt C wr ∧ GFr C w wr) (fun _ nv _ => (intOf nv).toNat)
  case atStart => exact ⟨⟨#[]⟩, k0, rfl, rfl, by have : (ByteArray.mk #[]).size = 0 := rfl; omega, K.out.1, K.out.2⟩
  case round =>
    obtain ⟨x, k, rfl, rfl, hx, hm, hf⟩ := hrel
    by_cases hk : 0 < k
    · have d1 : decide ((0 : Int) < (k : Int)) = true := by rw [decide_eq_true_iff]; omega
      have d2 : decide (0 < k) = true := by rw [decide_eq_true_iff]; omega
      have HI := Lib.hid (And.intro hm hf)
      clear hm hf
      go_wp2_with fail
      refine (pickB C _ _ _ 18 4 HI.out.1 rfl (by omega) (by omega) (by rfl)).mono ?_
      rintro e w2 ⟨⟨y, rfl, hy⟩, hm2, hf2⟩
      have HJ := Lib.hid (And.intro hm2 (HI.out.2.trans hf2))
      clear hm2 hf2
      have hcat : (x ++ y).size = x.size + y.size := ByteArray.size_append
      have HC := Lib.hid hcat
      clear hcat
      go_wp2
      go_roundw
      case rel => exact ⟨x ++ y, k - 1, rfl, by congr 1; omega, by have := HC.out; omega, HJ.out.1, HJ.out.2⟩
      case measure => simp [intOf]; omega
    · obtain rfl : k = 0 := by omega
      have HI := Lib.hid (And.intro hm hf)
      clear hm hf
      go_wp2
      go_ret
      exact ⟨⟨x, rfl⟩, HI.out.1, HI.out.2⟩
theorem run_upto (a : Option Addr) (n c k : Nat) (h1 : k ≤ n) (h2 : n ≤ c) (W : World) :
    (Instr.slice 22 (.slice a n c) none (some (.int .i64 (k : Int))) none).run Tryd.prog W = .ok (.slice a k c) W := by
  have u := run_underlying Tryd.underlying22
  simp [go_sem, Instr.slice, u]
  exact fun h => absurd h (by omega)
theorem FsI.upto {w : World} {a : Option Addr} {n c k : Nat} {L : List FldV} (h : FsI w (.slice a n c) L) (hk : k ≤ n) : FsI w (.slice a k c) (L.take k) := by
  rcases h with ⟨rfl, a', c', he⟩ | ⟨g, o, c', he, hg, h1, h2, h3⟩
  · cases he
    obtain rfl : k = 0 := by omega
    exact .inl ⟨rfl, _, _, rfl⟩
  · cases he
    have hl : (L.take k).length = k := by rw [List.length_take]; omega
    refine .inr ⟨g, o, c, by rw [hl], hg, by omega, h2, fun i hi => ?_⟩
    rw [hl] at hi
    rw [List.getElem_take]
    exact h3 i (by omega)
end Go.Proofs.YtdjkemodlbbmaaaDoor
