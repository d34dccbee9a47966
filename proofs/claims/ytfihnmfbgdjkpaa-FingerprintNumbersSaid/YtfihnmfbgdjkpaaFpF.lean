/- The reference's Consistent, and that it answers as the program's does. -/
import Derived.Test.YtfihnmfbgdjkpaaFpE
namespace Go.Proofs.Ytfihnmfbgdjkpaa
open Go.RowKit

def badB (k : Nat) (l s : List UInt8) : Bool := decide (k ≤ l.length) && decide (k ≤ s.length) && decide (numK l k = numK s k) && !(s.isPrefixOf l) && !(l.isPrefixOf s)
def AllOk (k : Nat) (ls : List (List UInt8)) : Prop := ∀ a b (ha : a < ls.length) (hb : b < a), badB k ls[a] (ls[b]'(by omega)) = false
def OneBad (k : Nat) (ls : List (List UInt8)) : Prop := ∃ a b, ∃ (ha : a < ls.length) (hb : b < a), badB k ls[a] (ls[b]'(by omega)) = true
def RefOut (k : Nat) (ls : List (List UInt8)) (w : World) (e : Ending) (w' : World) : Prop := ((e = .returned (.bool true) ∧ AllOk k ls) ∨ (e = .returned (.bool false) ∧ OneBad k ls)) ∧ ∃ q, w' = w.drewN q
theorem files_cell {w : World} {g i : Nat} {ls : List (List UInt8)} (h : FilesAt w g ls) (hi : i < ls.length) : ∃ a c, w.cell? ⟨g, i, none⟩ = some (.slice a ls[i].length c) ∧ BySl w (.slice a ls[i].length c) ls[i] := by
  obtain ⟨v, h1, h2, -⟩ := h i hi
  obtain ⟨a, c, rfl, -⟩ := h2.slice
  exact ⟨a, c, h1, h2⟩
theorem quiet_add_same {P : Program} {f : FuncId} {args : Array Value} {w : World} {a n : Nat} {v : Value}
    (h : Calls P f args (w.drewN (a + n)) fun e w' => e = .returned v ∧ w' = w.drewN (a + n)) :
    Calls P f args (w.drewN (a + n)) fun e w'' => e = .returned v ∧ ∃ m, w'' = w.drewN (a + m) :=
  h.mono fun _ _ ⟨he, hm⟩ => ⟨he, n, hm⟩
def numO (k : Nat) (l : List UInt8) : Int := if k ≤ l.length then numK l k else 0
theorem rnumber_any (a : Option Addr) (n c : Nat) (l : List UInt8) (k : Nat) (w : World) (h : BySl w (.slice a n c) l) (hk : 1 ≤ k) (hk2 : k ≤ 64) :
    Calls Try.prog 22 #[.slice a n c, .int .i64 (k : Int)] w fun e w' => e = .returned (.tuple #[.int .i64 (numO k l), .bool (decide (k ≤ l.length))]) ∧ w = w' := by
  by_cases hl : k ≤ l.length
  · rw [decide_eq_true hl, show numO k l = numK l k from if_pos hl]
    exact rnumber_yes _ l k w h hk hk2 hl
  · rw [decide_eq_false hl, show numO k l = 0 from if_neg hl]
    obtain ⟨a2, c2, e, -⟩ := h
    cases e
    exact rnumber_no a _ c k w (.inr (.inr (by omega)))
theorem bad_of {k : Nat} {l s : List UInt8} {oA oB p1 p2 : Bool} (h1 : decide (k ≤ l.length) = oA) (h2 : decide (k ≤ s.length) = oB) (h3 : s.isPrefixOf l = p1) (h4 : l.isPrefixOf s = p2) : badB k l s = (oA && oB && decide (numO k l = numO k s) && !p1 && !p2) := by
  unfold badB
  rw [h3, h4, h1, h2]
  cases oA <;> cases oB <;> simp only [Bool.false_and, Bool.and_false, Bool.true_and, Bool.and_true]
  rw [show numO k l = numK l k from if_pos (of_decide_eq_true h1), show numO k s = numK s k from if_pos (of_decide_eq_true h2)]
set_option maxRecDepth 100000 in
set_option linter.unusedSimpArgs false in
set_option maxHeartbeats 8000000 in
theorem rcons_any (g N C k : Nat) (ls : List (List UInt8)) (w : World) (hN : ls.length = N) (hNl : N ≤ 100000) (hf : FilesAt w g ls) (hk : 1 ≤ k) (hk2 : k ≤ 64) :
    Calls Try.prog 24 #[.slice (some ⟨g, 0, none⟩) N C, .int .i64 (k : Int)] w (RefOut k ls w) := by
  have H := Lib.hid (And.intro hf hN)
  clear hf hN
  go_enter Try.func24, Try.ntmps24
  go_wp2_with fail
  go_loopw [5] (fun iv wr => ∃ (i q : Nat), i ≤ N ∧ iv = .int .i64 i ∧ wr = w.drewN q ∧ ∀ a b (ha : a < ls.length) (hb : b < a), a < i → badB k ls[a] (ls[b]'(by omega)) = false) (fun iv _ => N - (intOf iv).toNat)
  case atStart => exact ⟨0, 0, Nat.zero_le _, rfl, rfl, fun a b ha hb h => by omega⟩
  case round =>
    obtain ⟨i, q, hi, rfl, rfl, hok⟩ := hrel
    by_cases hlt : i < N
    · have e4 : decide ((i : Int) < (N : Int)) = true := by rw [decide_eq_true_iff]; omega
      have e5 : decide (i < N) = true := decide_eq_true hlt
      have hil : i < ls.length := by have := H.out.2; omega
      obtain ⟨a, c, cv, hv⟩ := files_cell H.out.1 hil
      obtain ⟨l, hl⟩ : ∃ l, ls[i] = l := ⟨_, rfl⟩
      rw [hl] at cv hv
      have HL := Lib.hid (And.intro hl (And.intro hv hok))
      clear hl hok hv
      obtain ⟨n, hn⟩ : ∃ n, l.length = n := ⟨_, rfl⟩
      rw [hn] at cv HL
      have HN := Lib.hid hn
      clear hn
      have hnA := fun W (hW : BySl W (.slice a n c) l) => rnumber_any a n c l k W hW hk hk2
      obtain ⟨oA, hoA⟩ : ∃ b, decide (k ≤ l.length) = b := ⟨_, rfl⟩
      obtain ⟨xA, hxA⟩ : ∃ x, numO k l = x := ⟨_, rfl⟩
      rw [hoA, hxA] at hnA
      have HA := Lib.hid (And.intro hnA (And.intro hoA hxA))
      clear hnA hoA hxA
      go_wp2_with fail
      refine (HA.out.1 _ (HL.out.2.1.drewN q)).mono ?_
      rintro e w' ⟨rfl, rfl⟩
      go_wp2_with fail
      go_loopw [8] (fun jv wr => ∃ (j q : Nat), j ≤ i ∧ jv = .int .i64 j ∧ wr = w.drewN q ∧ ∀ b (hb : b < j) (hbi : b < ls.length), badB k l (ls[b]'hbi) = false) (fun jv _ => i - (intOf jv).toNat)
      case atStart => exact ⟨0, q, Nat.zero_le _, rfl, rfl, fun b hb _ => by omega⟩
      case round =>
        obtain ⟨j, q2, hj, rfl, rfl, hin⟩ := hrel
        by_cases hji : j < i
        · have f4 : decide ((j : Int) < (i : Int)) = true := by rw [decide_eq_true_iff]; omega
          have f5 : decide (j < i) = true := decide_eq_true hji
          have g1 : (j : Int) < (N : Int) := by omega
          have g2 : (i : Int) < (N : Int) := by omega
          have g3 : j < N := by omega
          have g4 : (0 : Int) ≤ (j : Int) := by omega
          have g5 : (0 : Int) ≤ (i : Int) := by omega
          have hjl : j < ls.length := by omega
          obtain ⟨a2, c2, cv2, hv2⟩ := files_cell H.out.1 hjl
          obtain ⟨s, hs⟩ : ∃ s, ls[j] = s := ⟨_, rfl⟩
          rw [hs] at cv2 hv2
          have hnB := fun W (hW : BySl W (.slice a2 s.length c2) s) => rnumber_any a2 s.length c2 s k W hW hk hk2
          obtain ⟨oB, hoB⟩ : ∃ b, decide (k ≤ s.length) = b := ⟨_, rfl⟩
          obtain ⟨xB, hxB⟩ : ∃ x, numO k s = x := ⟨_, rfl⟩
          rw [hoB, hxB] at hnB
          obtain ⟨p1, hp1⟩ : ∃ p, s.isPrefixOf l = p := ⟨_, rfl⟩
          obtain ⟨p2, hp2⟩ : ∃ p, l.isPrefixOf s = p := ⟨_, rfl⟩
          have hbg1 := fun W => begins_any l s W
          have hbg2 := fun W => begins_any s l W
          rw [hp1] at hbg1
          rw [hp2] at hbg2
          have hbad := bad_of HA.out.2.1 hoB hp1 hp2
          rw [HA.out.2.2, hxB] at hbad
          have hcv1 : ∀ m, (convert 22 9 (.slice a n c)).run Try.prog (w.drewN m) = .ok (.string ⟨l.toArray⟩) (w.drewN m) := fun m => conv_by (HL.out.2.1.drewN m)
          obtain ⟨n2, hn2⟩ : ∃ n, s.length = n := ⟨_, rfl⟩
          rw [hn2] at cv2 hv2 hnB
          have hcv2 : ∀ m, (convert 22 9 (.slice a2 n2 c2)).run Try.prog (w.drewN m) = .ok (.string ⟨s.toArray⟩) (w.drewN m) := fun m => conv_by (hv2.drewN m)
          have HB := Lib.hid (And.intro hnB (And.intro hv2 (And.intro hbg1 (And.intro hbg2 (And.intro hbad (And.intro hs hin))))))
          clear hnB hv2 hbg1 hbg2 hoB hxB hp1 hp2 hbad hs hin hn2
          go_wp2_with fail
          refine (HB.out.1 _ (HB.out.2.1.drewN q2)).mono ?_
          rintro e w' ⟨rfl, rfl⟩
          cases oA with
          | false =>
            have hz : badB k l s = false := by rw [HB.out.2.2.2.2.1]; simp
            have HZ := Lib.hid hz
            clear hz
            go_wp2_with fail
            go_quiet ((go_at_call 49; first | (with_reducible exact quiet_add_same (HB.out.2.2.1 _)) | (with_reducible exact quiet_add_same (HB.out.2.2.2.1 _))))
            go_wp2
            go_roundw
            case rel => exact ⟨j + 1, _, by omega, by go_num, rfl, fun b hb hbi => by
              by_cases e : b = j
              · subst e
                simp only [HB.out.2.2.2.2.2.1]
                exact HZ.out
              · exact HB.out.2.2.2.2.2.2 b (by omega) hbi⟩
            case measure => simp [intOf]; omega
          | true =>
            cases oB with
            | false =>
              have hz : badB k l s = false := by rw [HB.out.2.2.2.2.1]; simp
              have HZ := Lib.hid hz
              clear hz
              go_wp2_with fail
              go_quiet ((go_at_call 49; first | (with_reducible exact quiet_add_same (HB.out.2.2.1 _)) | (with_reducible exact quiet_add_same (HB.out.2.2.2.1 _))))
              go_wp2
              go_roundw
              case rel => exact ⟨j + 1, _, by omega, by go_num, rfl, fun b hb hbi => by
                by_cases e : b = j
                · subst e
                  simp only [HB.out.2.2.2.2.2.1]
                  exact HZ.out
                · exact HB.out.2.2.2.2.2.2 b (by omega) hbi⟩
              case measure => simp [intOf]; omega
            | true =>
              by_cases hx : xA = xB
              · subst hx
                cases p1 with
                | true =>
                  have hz : badB k l s = false := by rw [HB.out.2.2.2.2.1]; simp
                  have HZ := Lib.hid hz
                  clear hz
                  go_wp2_with fail
                  go_quiet ((go_at_call 49; first | (with_reducible exact quiet_add_same (HB.out.2.2.1 _)) | (with_reducible exact quiet_add_same (HB.out.2.2.2.1 _))))
                  go_wp2
                  go_roundw
                  case rel => exact ⟨j + 1, _, by omega, by go_num, rfl, fun b hb hbi => by
                    by_cases e : b = j
                    · subst e
                      simp only [HB.out.2.2.2.2.2.1]
                      exact HZ.out
                    · exact HB.out.2.2.2.2.2.2 b (by omega) hbi⟩
                  case measure => simp [intOf]; omega
                | false =>
                  cases p2 with
                  | true =>
                    have hz : badB k l s = false := by rw [HB.out.2.2.2.2.1]; simp
                    have HZ := Lib.hid hz
                    clear hz
                    go_wp2_with fail
                    go_quiet ((go_at_call 49; first | (with_reducible exact quiet_add_same (HB.out.2.2.1 _)) | (with_reducible exact quiet_add_same (HB.out.2.2.2.1 _))))
                    go_wp2
                    go_roundw
                    case rel => exact ⟨j + 1, _, by omega, by go_num, rfl, fun b hb hbi => by
                      by_cases e : b = j
                      · subst e
                        simp only [HB.out.2.2.2.2.2.1]
                        exact HZ.out
                      · exact HB.out.2.2.2.2.2.2 b (by omega) hbi⟩
                    case measure => simp [intOf]; omega
                  | false =>
                    have hz : badB k l s = true := by rw [HB.out.2.2.2.2.1]; simp
                    have HZ := Lib.hid hz
                    clear hz
                    go_wp2_with fail
                    go_quiet ((go_at_call 49; first | (with_reducible exact quiet_add_same (HB.out.2.2.1 _)) | (with_reducible exact quiet_add_same (HB.out.2.2.2.1 _))))
                    go_wp2
                    go_ret
                    exact ⟨.inr ⟨rfl, i, j, hil, hji, by simp only [HL.out.1, HB.out.2.2.2.2.2.1]; exact HZ.out⟩, q2 + nq, World.drewN_drewN w q2 nq⟩
              · have dx : decide (xA = xB) = false := decide_eq_false hx
                have dx2 : (xA == xB) = false := by simpa using hx
                have hz : badB k l s = false := by rw [HB.out.2.2.2.2.1]; simp [hx]
                have HZ := Lib.hid hz
                clear hz
                go_wp2_with fail
                go_quiet ((go_at_call 49; first | (with_reducible exact quiet_add_same (HB.out.2.2.1 _)) | (with_reducible exact quiet_add_same (HB.out.2.2.2.1 _))))
                go_wp2
                go_roundw
                case rel => exact ⟨j + 1, _, by omega, by go_num, rfl, fun b hb hbi => by
                  by_cases e : b = j
                  · subst e
                    simp only [HB.out.2.2.2.2.2.1]
                    exact HZ.out
                  · exact HB.out.2.2.2.2.2.2 b (by omega) hbi⟩
                case measure => simp [intOf]; omega
        · obtain rfl : j = i := by omega
          have f4 : decide ((j : Int) < (j : Int)) = false := by simp
          have f5 : decide (j < j) = false := by simp
          have HZ := Lib.hid hin
          clear hin hji
          go_wp2
          go_roundw
          case rel => exact ⟨j + 1, q2, by omega, by go_num, rfl, fun x y ha hb hxj => by
            by_cases e : x = j
            · subst e
              simp only [HL.out.1]
              exact HZ.out y hb (by omega)
            · exact HL.out.2.2 x y ha hb (by omega)⟩
          case measure => simp [intOf]; omega
    · obtain rfl : i = N := by omega
      have e4 : decide ((i : Int) < (i : Int)) = false := by simp
      have e5 : decide (i < i) = false := by simp
      have HZ := Lib.hid hok
      clear hok hlt
      go_wp2
      go_ret
      exact ⟨.inl ⟨rfl, fun a b ha hb => HZ.out a b ha hb (by have := H.out.2; omega)⟩, q, rfl⟩
end Go.Proofs.Ytfihnmfbgdjkpaa
