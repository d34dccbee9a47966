/- The contracts of package ascii's Decimal and of its reference: both return the decimal digits of every int. -/
import Derived.Test.YtnegfiiecegbbaaDoorNumber
import Derived.Deep.RegionWith
import Derived.Laws.IdiomStrings
import Derived.Lib.ItoaNum
import Derived.Lib.AppendIntMem
import Derived.ShutString
namespace Go.Proofs.YtnegfiiecegbbaaDoor
open Go.RowKit

theorem bextD {a b : ByteArray} (h : a.data.toList = b.data.toList) : a = b := by
  cases a; cases b; simp_all [Array.toList_inj]
abbrev Pow10 (w : World) : Prop := Lib.TabIs Tryd.prog w "internal/strconv.uint64pow10" .u64 Lib.pow10Tab

theorem decimal_any (n : Int) (h0 : -9223372036854775808 ≤ n) (h1 : n ≤ 9223372036854775807) (w : World) (ht : Pow10 w) :
    Calls Tryd.prog 38 #[.int .i64 n] w fun e w' => e = .returned (.string ⟨(Lib.itoa n).toArray⟩) ∧ Below w.heap.size w w' := by
  have H := Lib.hid (Tryd.strconv_Itoa n h0 h1 w ht)
  clear h0 h1 ht
  go_enter Tryd.func38, Tryd.ntmps38
  go_wp2_with (go_at_call 44; refine (H.out).mono ?_; rintro e w' ⟨rfl, k, os, rfl⟩)
  go_ret
  exact ⟨rfl, Lib.below_grow _ _ (Nat.le_refl _) _ _⟩

theorem str_snoc (L : List UInt8) (c : UInt8) : (ByteArray.mk L.toArray) ++ (ByteArray.mk #[c]) = ⟨(L ++ [c]).toArray⟩ := by
  apply bextD
  simp [ByteArray.data_append]
theorem str_cons (c : UInt8) (L : List UInt8) : (ByteArray.mk #[c]) ++ (ByteArray.mk L.toArray) = ⟨(c :: L).toArray⟩ := by
  apply bextD
  simp [ByteArray.data_append]
theorem bcell {W w1 : World} (hb : Below W.heap.size W w1) : ∀ b o, b < W.heap.size → w1.cell? ⟨b, o, none⟩ = W.cell? ⟨b, o, none⟩ := fun b o h => hb.cell (p := ⟨b, o, none⟩) h
theorem conv_one (c : Nat) (W : World) (g : Nat) (h : W.cell? ⟨g, 0, none⟩ = some (.int .u8 (c : Int))) (hc : c < 256) : (convert 46 9 (.slice (some ⟨g, 0, none⟩) 1 1)).run Tryd.prog W = .ok (.string ⟨#[UInt8.ofNat c]⟩) W :=
  run_convert_bytes_back W 46 9 5 ⟨g, 0, none⟩ 1 [UInt8.ofNat c] Tryd.underlying46 Tryd.underlying5 Tryd.underlying9 (fun j hj => by
    obtain rfl : j = 0 := by simpa using hj
    simp [Addr.add, h, Nat.mod_eq_of_lt hc])

set_option maxRecDepth 100000 in
set_option maxHeartbeats 1000000 in
theorem rdec_small (u : Nat) (hu : u < 10) (w : World) :
    Calls Tryd.prog 40 #[.int .i64 u] w fun e w' => e = .returned (.string ⟨(Lib.decDigits u).toArray⟩) ∧ Below w.heap.size w w' := by
  have hd : ((u : Int) == -9223372036854775808) = false := by rw [beq_eq_false_iff_ne]; omega
  have hcv := fun W g h => conv_one (48 + u) W g h (by omega)
  have H := Lib.hid (Lib.decDigits_one hu)
  go_enter Tryd.func40, Tryd.ntmps40
  go_wp2
  go_ret
  exact ⟨by rw [H.out]; simp, (Below.refl _ w).alloc (Nat.le_refl _) _⟩

set_option maxRecDepth 100000 in
set_option maxHeartbeats 1000000 in
theorem rdec_step (u : Nat) (h10 : 10 ≤ u) (hu : u ≤ 9223372036854775807) (hl : (Lib.decDigits (u / 10)).length ≤ 100) (w : World)
    (ih : ∀ W, Calls Tryd.prog 40 #[.int .i64 ((u / 10 : Nat) : Int)] W fun e w' => e = .returned (.string ⟨(Lib.decDigits (u / 10)).toArray⟩) ∧ Below W.heap.size W w') :
    Calls Tryd.prog 40 #[.int .i64 u] w fun e w' => e = .returned (.string ⟨(Lib.decDigits u).toArray⟩) ∧ Below w.heap.size w w' := by
  have hd : ((u : Int) == -9223372036854775808) = false := by rw [beq_eq_false_iff_ne]; omega
  have H : Hid (Lib.decDigits u = Lib.decDigits (u / 10) ++ [UInt8.ofNat (48 + u % 10)]) := by
    show Lib.decDigits u = _
    rw [Lib.decDigits, dif_neg (by omega)]
  obtain ⟨q, hq⟩ : ∃ q, u / 10 = q := ⟨_, rfl⟩
  obtain ⟨d, hdd⟩ : ∃ d, 48 + u % 10 = d := ⟨_, rfl⟩
  rw [hq] at hl ih
  have H' : Hid (Lib.decDigits u = Lib.decDigits q ++ [UInt8.ofNat d]) := by have := H.out; rw [hq, hdd] at this; exact this
  clear H
  have e1 : IntKind.i64.wrap ((u : Int) / 10) = (q : Int) := by rw [IntWalk.i64_in _ (by omega)]; omega
  have e2 : IntKind.i64.wrap (48 + (u : Int).tmod 10) = (d : Int) := by
    have : (u : Int).tmod 10 = (u : Int) % 10 := Int.tmod_eq_emod_of_nonneg (by omega)
    rw [this, IntWalk.i64_in _ (by omega)]; omega
  have e3 : IntKind.u8.wrap (d : Int) = (d : Int) := IntWalk.u8_in _ (by omega)
  have hcv := fun W g h => conv_one d W g h (by omega)
  have hlt : ¬ (u : Int) < 0 := by omega
  have hge : ¬ (u : Int) < 10 := by omega
  clear hdd hq h10 hu
  have hmx : Tryd.prog.follows .mixedOrders = true := by kernel_rfl
  obtain ⟨L, hL⟩ : ∃ L, Lib.decDigits q = L := ⟨_, rfl⟩
  rw [hL] at ih hl
  have HL := Lib.hid hL
  have IH := Lib.hid ih
  clear hL ih
  go_enter Tryd.func40, Tryd.ntmps40
  go_wp2_with fail
  go_region_with (go_at_call 40; refine (IH.out _).mono ?_; rintro e w1 ⟨rfl, hb1⟩; have hc1 := bcell hb1)
  all_goals go_wp2
  all_goals go_ret
  all_goals refine ⟨?_, ?_⟩
  all_goals first
    | (rw [H'.out, HL.out]; exact congrArg (fun x => Ending.returned (Value.string x)) (str_snoc L _))
    | exact (((Below.refl w.heap.size w).drew).trans hb1).alloc (((Below.refl w.heap.size w).drew).trans hb1).size _
    | exact (((Below.refl w.heap.size w).drew).alloc (Nat.le_refl _) _).trans (hb1.mono (by simp))

theorem digits_len (k : Nat) : ∀ u, u < 10 ^ (k + 1) → (Lib.decDigits u).length ≤ k + 1 := by
  induction k with
  | zero => intro u hu; rw [Lib.decDigits_one (by omega)]; simp
  | succ k ih =>
    intro u hu
    by_cases h : u < 10
    · rw [Lib.decDigits_one h]; simp
    · rw [Lib.decDigits, dif_neg h, List.length_append, List.length_singleton]
      have := ih (u / 10) (by rw [Nat.pow_succ] at hu; omega)
      omega
theorem rdec_nat : ∀ (k u : Nat), u < 10 ^ k → u ≤ 9223372036854775807 → ∀ w : World,
    Calls Tryd.prog 40 #[.int .i64 u] w fun e w' => e = .returned (.string ⟨(Lib.decDigits u).toArray⟩) ∧ Below w.heap.size w w' := by
  intro k
  induction k with
  | zero => intro u hu _ w; exact rdec_small u (by omega) w
  | succ k ih =>
    intro u hu hb w
    by_cases h : u < 10
    · exact rdec_small u h w
    · have hl := digits_len 19 (u / 10) (by omega)
      exact rdec_step u (by omega) hb (by omega) w (ih (u / 10) (by rw [Nat.pow_succ] at hu; omega) (by omega))
theorem rdec_pos (u : Nat) (hu : u ≤ 9223372036854775807) (w : World) :
    Calls Tryd.prog 40 #[.int .i64 u] w fun e w' => e = .returned (.string ⟨(Lib.decDigits u).toArray⟩) ∧ Below w.heap.size w w' :=
  rdec_nat 19 u (by omega) hu w

theorem min_digits : Lib.itoa (-9223372036854775808) = [45, 57, 50, 50, 51, 51, 55, 50, 48, 51, 54, 56, 53, 52, 55, 55, 53, 56, 48, 56] := by
  show (if _ then _ else _) = _
  rw [if_pos (by decide)]
  simp [Lib.decDigits]

set_option maxRecDepth 100000 in
set_option maxHeartbeats 1000000 in
theorem rdecimal_any (n : Int) (h0 : -9223372036854775808 ≤ n) (h1 : n ≤ 9223372036854775807) (w : World) :
    Calls Tryd.prog 40 #[.int .i64 n] w fun e w' => e = .returned (.string ⟨(Lib.itoa n).toArray⟩) ∧ Below w.heap.size w w' := by
  by_cases hm : n = -9223372036854775808
  · subst hm
    rw [min_digits]
    go_enter Tryd.func40, Tryd.ntmps40
    go_wp2
    go_ret
    exact ⟨rfl, Below.refl _ _⟩
  by_cases hn : n < 0
  · obtain ⟨u, hu⟩ : ∃ u : Nat, -n = u := ⟨(-n).toNat, by omega⟩
    have hi : Lib.itoa n = 45 :: Lib.decDigits u := by
      unfold Lib.itoa
      rw [if_pos hn, show n.natAbs = u by omega]
    rw [hi]
    have hd : (n == -9223372036854775808) = false := by rw [beq_eq_false_iff_ne]; exact hm
    have hw : IntKind.i64.wrap (-n) = (u : Int) := by rw [IntWalk.i64_in _ (by omega)]; exact hu
    have hlen := digits_len 19 u (by omega)
    obtain ⟨L, hL⟩ : ∃ L, Lib.decDigits u = L := ⟨_, rfl⟩
    have hc := fun W => rdec_pos u (by omega) W
    rw [hL] at hlen hc ⊢
    have HC := Lib.hid hc
    clear hL hc hi hm h0 h1 hu
    go_enter Tryd.func40, Tryd.ntmps40
    go_wp2_with (go_at_call 40; refine (HC.out _).mono ?_; rintro e w1 ⟨rfl, hb1⟩)
    go_ret
    exact ⟨congrArg (fun x => Ending.returned (Value.string x)) (str_cons 45 L), hb1⟩
  · obtain ⟨u, rfl⟩ : ∃ u : Nat, n = u := ⟨n.toNat, by omega⟩
    have hi : Lib.itoa (u : Int) = Lib.decDigits u := by
      unfold Lib.itoa
      rw [if_neg hn]; simp
    rw [hi]
    exact rdec_pos u (by omega) w
end Go.Proofs.YtnegfiiecegbbaaDoor
