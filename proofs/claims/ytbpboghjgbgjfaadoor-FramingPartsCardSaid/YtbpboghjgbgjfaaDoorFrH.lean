/- The reference of layer 9: Text. -/
import Derived.Test.YtbpboghjgbgjfaaDoorFrB
import Derived.Test.YtbpboghjgbgjfaaDoorRefRep2
import Derived.BigQuiet
import Derived.Deep.QuietTactic
namespace Go.Proofs.YtbpboghjgbgjfaaDoor
open Go.RowKit

theorem run_to (a : Option Addr) (n c j : Nat) (h2 : j ≤ c) (W : World) :
    (Instr.slice 22 (.slice a n c) none (some (.int .i64 (j : Int))) none).run Tryd.prog W = .ok (.slice a j c) W := by
  have u := run_underlying Tryd.underlying22
  simp [go_sem, Instr.slice, u]
  intro h
  omega
set_option maxRecDepth 100000 in
set_option linter.unusedSimpArgs false in
set_option maxHeartbeats 4000000 in
theorem rtext_any (sv : Value) (l : List UInt8) (hl : l.length ≤ 4194304) (w : World) (h : BySl w sv l) :
    Calls Tryd.prog 11 #[sv] w fun e w' => e = .returned (.tuple #[.string ⟨(textB l).toArray⟩, .int .i64 (textN l : Int)]) ∧ Below w.heap.size w w' := by
  obtain ⟨a, c, rfl, hc, hx⟩ := id h
  have hrp := rrepair_any (.slice a (stripN l) c) (l.take (stripN l)) (by rw [List.length_take]; omega) w (h.take (stripN l) (stripN_le l) c (by have := stripN_le l; omega)).slc
  have ht1 : repB (l.take (stripN l)) = textB l := rfl
  have ht2 : repN (l.take (stripN l)) = textN l := rfl
  rw [ht1, ht2] at hrp
  have hsl := fun W => run_to a l.length c (stripN l) (by have := stripN_le l; omega) W
  have H := Lib.hid hrp
  clear hrp ht1 ht2 h
  obtain ⟨n, hn⟩ : ∃ n, l.length = n := ⟨_, rfl⟩
  rw [hn] at hl hc
  by_cases h0 : n = 0
  · subst h0
    obtain rfl := List.eq_nil_of_length_eq_zero hn
    have hs : stripN [] = 0 := rfl
    rw [hs] at H hsl
    simp only [List.length_nil] at hsl ⊢
    clear hx hs hn
    go_enter Tryd.func11, Tryd.ntmps11
    go_wp2_with fail
    refine H.out.mono ?_
    rintro e w1 ⟨rfl, hb⟩
    have HB := Lib.hid hb
    clear hb
    go_wp2
    go_ret2
    exact ⟨rfl, HB.out⟩
  · obtain ⟨g, o, rfl, -, -⟩ := hx 0 (by omega)
    have hcl : ∀ i x, l[i]? = some x → w.cell? ⟨g, o + i, none⟩ = some (.int .u8 (x.toNat : Int)) := fun i x hi => by
      obtain ⟨hlt, rfl⟩ := List.getElem?_eq_some_iff.1 hi
      obtain ⟨g2, o2, e2, -, h2⟩ := hx i hlt
      cases e2
      exact h2
    clear hx
    obtain ⟨m, rfl⟩ : ∃ m, n = m + 1 := ⟨n - 1, by omega⟩
    obtain ⟨x, hxm⟩ : ∃ x, l[m]? = some x := ⟨_, List.getElem?_eq_getElem (by omega)⟩
    have cx := hcl m x hxm
    have i0 : (0 : Int) ≤ (m : Int) := by omega
    by_cases h10 : x = 10
    · subst h10
      have cx10 : w.cell? ⟨g, o + m, none⟩ = some (.int .u8 10) := cx
      have hl1 : l[l.length - 1]? = some 10 := by rw [hn]; exact hxm
      clear cx
      by_cases hm0 : m = 0
      · subst hm0
        have cx0 : w.cell? ⟨g, o, none⟩ = some (.int .u8 10) := cx10
        have hs : stripN l = 0 := by
          unfold stripN
          rw [if_pos hl1, if_neg (by omega), hn]
        rw [hs] at H hsl
        simp only [hn] at hsl ⊢
        clear hs hl1 hxm hcl hn
        go_enter Tryd.func11, Tryd.ntmps11
        go_wp2_with fail
        refine H.out.mono ?_
        rintro e w1 ⟨rfl, hb⟩
        have HB := Lib.hid hb
        clear hb
        go_wp2
        go_ret2
        exact ⟨rfl, HB.out⟩
      · obtain ⟨q, rfl⟩ : ∃ q, m = q + 1 := ⟨m - 1, by omega⟩
        obtain ⟨y, hym⟩ : ∃ y, l[q]? = some y := ⟨_, List.getElem?_eq_getElem (by omega)⟩
        have cy := hcl q y hym
        have i1 : (0 : Int) ≤ (q : Int) := by omega
        by_cases h13 : y = 13
        · subst h13
          have cy13 : w.cell? ⟨g, o + q, none⟩ = some (.int .u8 13) := cy
          have hs : stripN l = q := by
            unfold stripN
            rw [if_pos hl1, if_pos ⟨by omega, by rw [hn]; exact hym⟩, hn]
            omega
          rw [hs] at H hsl
          simp only [hn] at hsl ⊢
          clear hs hl1 hxm hcl hn hym cy
          go_enter Tryd.func11, Tryd.ntmps11
          go_wp2_with fail
          refine H.out.mono ?_
          rintro e w1 ⟨rfl, hb⟩
          have HB := Lib.hid hb
          clear hb
          go_wp2
          go_ret2
          exact ⟨rfl, HB.out⟩
        · have hyi : ¬ ((y.toNat : Int) = 13) := fun e => h13 (UInt8.toNat_inj.1 (by show y.toNat = 13; omega))
          have hs : stripN l = q + 1 := by
            unfold stripN
            rw [if_pos hl1, if_neg (fun e => h13 (by have h2 := e.2; rw [hn, show q + 1 + 1 - 2 = q by omega, hym] at h2; exact Option.some.inj h2)), hn]
            omega
          obtain ⟨z, hz⟩ : ∃ z : Int, (y.toNat : Int) = z := ⟨_, rfl⟩
          rw [hz] at cy hyi
          have e4 : decide (z = 13) = false := decide_eq_false hyi
          have e5 : (z == 13) = false := by rw [beq_eq_false_iff_ne]; exact hyi
          rw [hs] at H hsl
          simp only [hn] at hsl ⊢
          clear hs hl1 hxm hcl hn hym hz h13
          go_enter Tryd.func11, Tryd.ntmps11
          go_wp2_with fail
          refine H.out.mono ?_
          rintro e w1 ⟨rfl, hb⟩
          have HB := Lib.hid hb
          clear hb
          go_wp2
          go_ret2
          exact ⟨rfl, HB.out⟩
    · have hxi : ¬ ((x.toNat : Int) = 10) := fun e => h10 (UInt8.toNat_inj.1 (by show x.toNat = 10; omega))
      have hs : stripN l = m + 1 := by
        unfold stripN
        rw [if_neg (fun e => h10 (by rw [hn, show m + 1 - 1 = m by omega, hxm] at e; exact Option.some.inj e)), hn]
      obtain ⟨z, hz⟩ : ∃ z : Int, (x.toNat : Int) = z := ⟨_, rfl⟩
      rw [hz] at cx hxi
      have e4 : decide (z = 10) = false := decide_eq_false hxi
      have e5 : (z == 10) = false := by rw [beq_eq_false_iff_ne]; exact hxi
      rw [hs] at H hsl
      simp only [hn] at hsl ⊢
      clear hs hxm hcl hn hz h10
      go_enter Tryd.func11, Tryd.ntmps11
      go_wp2_with fail
      refine H.out.mono ?_
      rintro e w1 ⟨rfl, hb⟩
      have HB := Lib.hid hb
      clear hb
      go_wp2
      go_ret2
      exact ⟨rfl, HB.out⟩
end Go.Proofs.YtbpboghjgbgjfaaDoor
