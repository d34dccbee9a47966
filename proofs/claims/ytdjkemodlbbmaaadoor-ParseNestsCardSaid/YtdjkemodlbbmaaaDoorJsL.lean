/- The maker of objects without objects: an opening brace, something without braces, and a closing brace or none. -/
import Derived.Test.YtdjkemodlbbmaaaDoorJsI
import Derived.Test.YtdjkemodlbbmaaaDoorKvU
namespace Go.Proofs.YtdjkemodlbbmaaaDoor
open Go.RowKit

/-- A list of strings of at most B bytes each, without braces. -/
def strsF (B : Nat) : List Value → Bool
  | [] => true
  | .string s :: r => decide (s.size ≤ B) && s.data.toList.all (fun b => b != 123 && b != 125) && strsF B r
  | _ :: _ => false
theorem strsF_mem {B : Nat} : ∀ {l : List Value} (_ : strsF B l = true) (x : ByteArray) (_ : Value.string x ∈ l), x.size ≤ B ∧ Flat x.data.toList
  | [], _, x, h => by cases h
  | .string s :: r, h, x, hm => by
    simp only [strsF, Bool.and_eq_true, decide_eq_true_iff] at h
    rcases List.mem_cons.1 hm with e | hm
    · obtain rfl := Value.string.inj e
      refine ⟨h.1.1, fun b hb => ?_⟩
      have := List.all_eq_true.1 h.1.2 b hb
      simp only [Bool.and_eq_true, bne_iff_ne] at this
      exact this
    · exact strsF_mem h.2 x hm
theorem strsF_str {B : Nat} : ∀ {l : List Value} (_ : strsF B l = true), ∀ v ∈ l, ∃ s : ByteArray, v = .string s
  | [], _, v, h => by cases h
  | .string s :: r, h, v, hm => by
    simp only [strsF, Bool.and_eq_true] at h
    rcases List.mem_cons.1 hm with rfl | hm
    · exact ⟨s, rfl⟩
    · exact strsF_str h.2 v hm
theorem pickF (C : Nat) (cs : Array Value) (T : TypeId) (w : World) (N B : Nat) (h : MkAt C w) (hN : cs.toList.length = N) (h0 : 0 < N) (h1 : N ≤ 1000) (hs : strsF B cs.toList = true) :
    Calls Tryd.prog 10 #[.pointer (some ⟨C, 0, none⟩), .slice (some ⟨w.heap.size, 0, none⟩) N N] (w.alloc (.cells cs T)) fun e w' => (∃ s : ByteArray, e = .returned (.string s) ∧ s.size ≤ B ∧ Flat s.data.toList) ∧ MkAt C w' ∧ GFr C w w' :=
  (pickM C cs T w N h hN h0 h1 (strsF_str hs)).mono fun _ _ ⟨⟨s, he, hm⟩, h2, h3⟩ => ⟨⟨s, he, strsF_mem hs s hm⟩, h2, h3⟩
theorem Flat.app {a b : List UInt8} (h : Flat a) (k : Flat b) : Flat (a ++ b) := fun c hc => by
  rcases List.mem_append.1 hc with hc | hc
  · exact h c hc
  · exact k c hc
/-- What the maker makes. -/
def ObjS (s : ByteArray) : Prop := ∃ (m : List UInt8) (d : Nat), d ≤ 1 ∧ Flat m ∧ s.data.toList = 123 :: (m ++ brs d) ∧ s.size ≤ 300
theorem objS_end (s e : ByteArray) (m : List UInt8) (hs : s.data.toList = 123 :: m) (hf : Flat m) (hz : s.size ≤ 200) (he : Value.string e ∈ (#[.string ⟨#[125]⟩, .string ⟨#[125]⟩, .string ⟨#[125]⟩, .string ⟨#[32, 125]⟩, .string ⟨#[]⟩] : Array Value).toList) : ObjS (s ++ e) := by
  have hes : e = ⟨#[125]⟩ ∨ e = ⟨#[32, 125]⟩ ∨ e = ⟨#[]⟩ := by
    simp only [List.mem_cons, List.not_mem_nil, or_false, Value.string.injEq] at he
    rcases he with h | h | h | h | h
    · exact .inl h
    · exact .inl h
    · exact .inl h
    · exact .inr (.inl h)
    · exact .inr (.inr h)
  have hd : ∀ e : ByteArray, (s ++ e).data.toList = 123 :: (m ++ e.data.toList) := fun e => by
    rw [ByteArray.data_append, Array.toList_append, hs]; rfl
  rcases hes with rfl | rfl | rfl
  · exact ⟨m, 1, by omega, hf, hd _, by rw [ByteArray.size_append]; show s.size + 1 ≤ _; omega⟩
  · refine ⟨m ++ [32], 1, by omega, hf.app (by intro b hb; simp at hb; subst hb; decide), ?_, by rw [ByteArray.size_append]; show s.size + 2 ≤ _; omega⟩
    rw [hd]
    simp [brs]
  · exact ⟨m, 0, by omega, hf, hd _, by rw [ByteArray.size_append]; show s.size + 0 ≤ _; omega⟩
/-- A text that stays without braces behind its first. -/
def OpB (s : ByteArray) : Prop := ∃ m, s.data.toList = 123 :: m ∧ Flat m
theorem OpB.cat {s t : ByteArray} (h : OpB s) (k : Flat t.data.toList) : OpB (s ++ t) := by
  obtain ⟨m, hs, hf⟩ := h
  exact ⟨m ++ t.data.toList, by rw [ByteArray.data_append, Array.toList_append, hs]; rfl, hf.app k⟩
theorem Flat.cat {s t : ByteArray} (h : Flat s.data.toList) (k : Flat t.data.toList) : Flat (s ++ t).data.toList := by
  rw [ByteArray.data_append, Array.toList_append]
  exact h.app k
theorem flat34 : Flat (⟨#[34]⟩ : ByteArray).data.toList := by intro b hb; simp at hb; subst hb; decide
theorem flat58 : Flat (⟨#[34, 58]⟩ : ByteArray).data.toList := by intro b hb; simp at hb; rcases hb with rfl | rfl <;> decide
theorem flat44 : Flat (⟨#[44]⟩ : ByteArray).data.toList := by intro b hb; simp at hb; subst hb; decide
set_option maxRecDepth 100000 in
set_option linter.unusedSimpArgs false in
set_option maxHeartbeats 16000000 in
theorem objmk_any (C : Nat) (w : World) (h : MkAt C w) :
    Calls Tryd.prog 20 #[.pointer (some ⟨C, 0, none⟩), .int .i64 0] w fun e w' => (∃ s : ByteArray, e = .returned (.string s) ∧ ObjS s) ∧ MkAt C w' ∧ GFr C w w' := by
  have H := Lib.hid (next_any C 4 w h (by omega) (by omega))
  clear h
  go_enter Tryd.func20, Tryd.ntmps20
  go_wp2_with fail
  refine (H.out).mono ?_
  rintro e w1 ⟨⟨z, rfl, hz0, hz1⟩, hm1, hf1⟩
  obtain ⟨k0, rfl⟩ : ∃ i : Nat, z = (i : Int) := ⟨z.toNat, by omega⟩
  have hk0 : k0 ≤ 3 := by omega
  have K := Lib.hid (And.intro hm1 hf1)
  clear hm1 hf1 hz0 hz1
  go_wp2
  go_loopw [5, 6] (fun sv nv wr => ∃ (s : ByteArray) (k : Nat) (m : List UInt8), sv = .string s ∧ nv = .int .i64 k ∧ s.data.toList = 123 :: m ∧ Flat m ∧ s.size + 60 * k ≤ 190 ∧ MkAt C wr ∧ GFr C w wr) (fun _ nv _ => (intOf nv).toNat)
  case atStart => exact ⟨⟨#[123]⟩, k0, [], rfl, rfl, rfl, (fun b hb => by cases hb), by have : (⟨#[123]⟩ : ByteArray).size = 1 := rfl; omega, K.out.1, K.out.2⟩
  case round =>
    obtain ⟨s, k, m, rfl, rfl, hs, hfm, hsz, hm, hf⟩ := hrel
    have HI := Lib.hid (And.intro hm (And.intro hf (And.intro hs hfm)))
    clear hm hf hs hfm
    by_cases hk : 0 < k
    · have d1 : decide ((0 : Int) < (k : Int)) = true := by rw [decide_eq_true_iff]; omega
      have d2 : decide (0 < k) = true := by rw [decide_eq_true_iff]; omega
      go_wp2_with fail
      refine (pickF C _ _ _ 2 1 HI.out.1 rfl (by omega) (by omega) (by rfl)).mono ?_
      rintro e w2 ⟨⟨y1, rfl, z1, q1⟩, hm2, hf2⟩
      have H2 := Lib.hid (And.intro hm2 (And.intro (HI.out.2.1.trans hf2) q1))
      clear hm2 hf2 q1
      go_wp2_with fail
      refine (pickF C _ _ _ 6 4 H2.out.1 rfl (by omega) (by omega) (by rfl)).mono ?_
      rintro e w3 ⟨⟨y2, rfl, z2, q2⟩, hm3, hf3⟩
      have H3 := Lib.hid (And.intro hm3 (And.intro (H2.out.2.1.trans hf3) q2))
      clear hm3 hf3 q2
      go_wp2_with fail
      refine (pickF C _ _ _ 2 1 H3.out.1 rfl (by omega) (by omega) (by rfl)).mono ?_
      rintro e w4 ⟨⟨y3, rfl, z3, q3⟩, hm4, hf4⟩
      have H4 := Lib.hid (And.intro hm4 (And.intro (H3.out.2.1.trans hf4) q3))
      clear hm4 hf4 q3
      go_wp2_with fail
      refine (pickF C _ _ _ 13 8 H4.out.1 rfl (by omega) (by omega) (by rfl)).mono ?_
      rintro e w5 ⟨⟨y4, rfl, z4, q4⟩, hm5, hf5⟩
      have H5 := Lib.hid (And.intro hm5 (And.intro (H4.out.2.1.trans hf5) q4))
      clear hm5 hf5 q4
      have hop : OpB (s ++ (y1 ++ ⟨#[34]⟩ ++ y2 ++ ⟨#[34, 58]⟩ ++ y3) ++ y4) :=
        (OpB.cat ⟨m, HI.out.2.2.1, HI.out.2.2.2⟩ ((((H2.out.2.2.cat flat34).cat H3.out.2.2).cat flat58).cat H4.out.2.2)).cat H5.out.2.2
      have hsz2 : (s ++ (y1 ++ ⟨#[34]⟩ ++ y2 ++ ⟨#[34, 58]⟩ ++ y3) ++ y4).size ≤ s.size + 17 := by
        repeat rw [ByteArray.size_append]
        simp only [show (⟨#[34]⟩ : ByteArray).size = 1 from rfl, show (⟨#[34, 58]⟩ : ByteArray).size = 2 from rfl]
        omega
      have HOP := Lib.hid (And.intro hop hsz2)
      clear hop hsz2
      by_cases h1k : 1 < k
      · have d3 : decide ((1 : Int) < (k : Int)) = true := by rw [decide_eq_true_iff]; omega
        have d4 : decide (1 < k) = true := by rw [decide_eq_true_iff]; omega
        go_wp2
        go_roundw
        case rel =>
          obtain ⟨m', e1, e2⟩ := HOP.out.1.cat flat44
          refine ⟨_, k - 1, m', rfl, by congr 1; omega, e1, e2, ?_, H5.out.1, H5.out.2.1⟩
          have := HOP.out.2
          rw [ByteArray.size_append, show (⟨#[44]⟩ : ByteArray).size = 1 from rfl]
          omega
        case measure => simp [intOf]; omega
      · have d3 : decide ((1 : Int) < (k : Int)) = false := by rw [decide_eq_false_iff_not]; omega
        have d4 : decide (1 < k) = false := by rw [decide_eq_false_iff_not]; omega
        go_wp2_with fail
        refine (next_any C 9 _ H5.out.1 (by omega) (by omega)).mono ?_
        rintro e w6 ⟨⟨z, rfl, hz0, hz1⟩, hm6, hf6⟩
        have H6 := Lib.hid (And.intro hm6 (H5.out.2.1.trans hf6))
        clear hm6 hf6
        by_cases hz : z = 8
        · subst hz
          go_wp2
          go_roundw
          case rel =>
            obtain ⟨m', e1, e2⟩ := HOP.out.1.cat flat44
            refine ⟨_, k - 1, m', rfl, by congr 1; omega, e1, e2, ?_, H6.out.1, H6.out.2⟩
            have := HOP.out.2
            rw [ByteArray.size_append, show (⟨#[44]⟩ : ByteArray).size = 1 from rfl]
            omega
          case measure => simp [intOf]; omega
        · have hz8 : (z == 8) = false := by rw [beq_eq_false_iff_ne]; exact hz
          go_wp2
          go_roundw
          case rel =>
            obtain ⟨m', e1, e2⟩ := HOP.out.1
            refine ⟨_, k - 1, m', rfl, by congr 1; omega, e1, e2, ?_, H6.out.1, H6.out.2⟩
            have := HOP.out.2
            omega
          case measure => simp [intOf]; omega
    · obtain rfl : k = 0 := by omega
      go_wp2_with fail
      refine (pickM C _ _ _ 5 HI.out.1 rfl (by omega) (by omega) (by intro v hv; simp only [List.mem_cons, List.not_mem_nil, or_false] at hv; rcases hv with rfl | rfl | rfl | rfl | rfl <;> exact ⟨_, rfl⟩)).mono ?_
      rintro e w2 ⟨⟨y1, rfl, q1⟩, hm2, hf2⟩
      have H2 := Lib.hid (And.intro hm2 (And.intro (HI.out.2.1.trans hf2) q1))
      have hys : y1.size ≤ 2 := by
        simp only [List.mem_cons, List.not_mem_nil, or_false, Value.string.injEq] at q1
        rcases q1 with rfl | rfl | rfl | rfl | rfl <;> decide
      clear hm2 hf2 q1
      go_wp2
      go_ret
      exact ⟨⟨_, rfl, objS_end s y1 m HI.out.2.2.1 HI.out.2.2.2 (by omega) H2.out.2.2⟩, H2.out.1, H2.out.2.1⟩
end Go.Proofs.YtdjkemodlbbmaaaDoor
