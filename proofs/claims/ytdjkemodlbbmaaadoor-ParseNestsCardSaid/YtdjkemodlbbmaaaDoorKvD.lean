/- The contract of slices.Clone at fields. -/
import Derived.Test.YtdjkemodlbbmaaaDoorKvC
import Derived.Lib.SliceRun
import Derived.Maps.AppendAt
import Derived.WalkSpells
namespace Go.Proofs.YtdjkemodlbbmaaaDoor
open Go.RowKit

theorem below_ownF {w w1 : World} {g : Option Nat} (h : Below w.heap.size w w1) {w2 : World} (k : w1.grownBy w2 g) (hg : ∀ b, g = some b → w.heap.size ≤ b) : Below w.heap.size w w2 :=
  ⟨k.os.trans h.os, k.tape.trans h.tape, k.output.trans h.output, Nat.le_trans h.size k.size, fun i hi => (k.block i (Nat.lt_of_lt_of_le hi h.size) (fun e => by have := hg i e.symm; omega)).trans (h.block i hi)⟩
theorem rowf_slice {base : Nat} {e : TypeId} {size : Nat} {v : Value} {n : Nat} {xs : List Value} {w : World} (h : w.ownsRow base e size v n xs) : ∃ a c, v = .slice a n c := by
  rcases rowf_form h with ⟨rfl, rfl⟩ | ⟨b, cap, rfl, -⟩
  · exact ⟨_, _, rfl⟩
  · exact ⟨_, _, rfl⟩
theorem infoFld : (Tryd.prog.info? 31).map (fun i => (i.zero, i.size, i.bytes)) = some (some (.agg #[.string ⟨#[]⟩, .string ⟨#[]⟩]), 2, 32) := by kernel_rfl
set_option maxRecDepth 100000 in
set_option maxHeartbeats 2000000 in
theorem clone_row (ad : Addr) (n c : Nat) (news : List Value) (w : World) (hl : news.length = n * 2) (hn : n ≤ 100000000) (hc : ∀ j u, news[j]? = some u → w.cell? (ad.add j) = some u ∧ (ad.add j).block < w.heap.size) (h1 : ∀ u ∈ news, u.oneCell' = true) :
    Calls Tryd.prog 24 #[.slice (some ad) n c] w fun e w' => (∃ v', e = .returned v' ∧ w'.ownsRow w.heap.size 31 2 v' n news) ∧ Below w.heap.size w w' := by
  have q22 := fun (w : World) (a : Option Addr) (n c n' c' : Nat) => Lib.run_eql_slice_nil (P := Tryd.prog) w 22 31 a n c n' c' Tryd.underlying22
  obtain ⟨i0, hi, hz0, hz1, hz2⟩ := info_parts infoFld
  have H := Lib.hid (And.intro hc h1)
  clear hc h1
  go_enter Tryd.func24, Tryd.ntmps24
  go_wp2_with (at_builtin; refine wpList_append_own_at _ rfl (.tmp 5) (.tmp 6) 22 rfl w.heap.size 31 i0 (.agg #[.string ⟨#[]⟩, .string ⟨#[]⟩]) 2 32 Tryd.underlying22 hi hz0 hz1 hz2 rfl (by decide) _ _ _ rfl (World.ownsRow_lit w #[] 0 (Nat.le_refl _) (Nat.zero_le _) (by simp)) ad n c news rfl hl ?c1 H.out.2 ?c3 ?c4 ?c5 ?_)
  case c1 =>
    intro j u hj
    have hcl := H.out.1 j u hj
    rw [← hcl.1]
    exact (bel_new w _).cell hcl.2
  case c3 => unfold maxLen; omega
  case c4 => omega
  case c5 => simp
  intro v' w1 hown hgrow _ hat
  have HO := Lib.hid (And.intro hown hgrow)
  obtain ⟨va, vc, rfl⟩ := rowf_slice hown
  clear hown hgrow hat
  go_wp2
  go_ret
  exact ⟨⟨_, rfl, by have := HO.out.1; simpa using this⟩, below_ownF (bel_new _ _) HO.out.2 (fun b hb => by simp [Value.ownBlock] at hb; omega)⟩
set_option maxRecDepth 100000 in
set_option maxHeartbeats 1000000 in
theorem clone_nil (c : Nat) (w : World) : Calls Tryd.prog 24 #[.slice none 0 c] w fun e w' => e = .returned (.slice none 0 0) ∧ w' = w := by
  have q22 := fun (w : World) (a : Option Addr) (n c n' c' : Nat) => Lib.run_eql_slice_nil (P := Tryd.prog) w 22 31 a n c n' c' Tryd.underlying22
  go_enter Tryd.func24, Tryd.ntmps24
  go_wp2
  go_ret
  exact ⟨rfl, rfl⟩
theorem clone_any (L : List FldV) (v : Value) (w : World) (h : FsI w v L) (hn : L.length ≤ 1000) :
    Calls Tryd.prog 24 #[v] w fun e w' => (∃ v', e = .returned v' ∧ FsR w.heap.size w' v' L) ∧ Below w.heap.size w w' := by
  rcases h with ⟨rfl, a, c, rfl⟩ | ⟨g, o, c, rfl, hg, h1, h2, h3⟩
  · cases a with
    | none => exact (clone_nil c w).mono fun e w' ⟨he, hw⟩ => ⟨⟨_, he, by subst hw; exact FsR.nil _ _⟩, by subst hw; exact Below.refl _ _⟩
    | some ad => exact clone_row ad 0 c [] w rfl (by omega) (fun j u hj => by simp at hj) (fun u hu => by simp at hu)
  · refine clone_row ⟨g, o, none⟩ L.length c (encL L) w (encL_len L) (by omega) (fun j u hj => ?_) (encL_one L)
    have hj2 : j < (encL L).length := (List.getElem?_eq_some_iff.1 hj).1
    rw [encL_len] at hj2
    have e : j / 2 < L.length := by omega
    have h4 := h3 (j / 2) e
    have h5 := encL_get e
    rw [Addr.add_lit]
    refine ⟨?_, hg⟩
    rcases Nat.mod_two_eq_zero_or_one j with q | q
    · have ej : j / 2 * 2 = j := by omega
      rw [ej] at h4 h5
      rw [h4.1, ← h5.1, hj]
    · have ej : j / 2 * 2 + 1 = j := by omega
      have ej2 : o + j / 2 * 2 + 1 = o + j := by omega
      rw [ej2] at h4
      rw [ej] at h5
      rw [h4.2, ← h5.2, hj]
end Go.Proofs.YtdjkemodlbbmaaaDoor
