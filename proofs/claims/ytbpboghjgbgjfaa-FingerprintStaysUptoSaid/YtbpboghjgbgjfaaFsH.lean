/- The contracts of checkNew and named. -/
import Derived.Test.YtbpboghjgbgjfaaFsG
namespace Go.Proofs.Ytbpboghjgbgjfaa
open Go.RowKit

variable {d base : Nat} {names : List NameV} {files : List FileV} {opn : List Int} {nv fv ov : Value} {w w' : World}
def newE (names : List NameV) (t : ByteArray) (k : Nat) : Int := if hitN names t k = true then 11 else if 40 ≤ names.length then 4 else 0
set_option maxRecDepth 100000 in
set_option maxHeartbeats 2000000 in
theorem checkNew_any (t : ByteArray) (k : Nat) (h : DirAt d base names files opn nv fv ov w) (hk : PlaceN names t k) :
    Calls Try.prog 61 #[.pointer (some ⟨d, 0, none⟩), .string t] w fun e w' => e = .returned (.int .i64 (newE names t k)) ∧ Below w.heap.size w w' := by
  have hf := findName_any names t k base nv w h.n (by have := h.nl; omega) hk
  obtain ⟨c0, c1, c2, -, -, -⟩ := h.cs
  obtain ⟨na, nc, hnv⟩ : ∃ a c, nv = .slice a names.length c := by
    rcases row_form h.n with ⟨h1, h2⟩ | ⟨b, cap, h1, -⟩
    · exact ⟨none, 0, by rw [h1, h2]⟩
    · exact ⟨_, _, h1⟩
  subst hnv
  have HH := Lib.hid h
  unfold newE
  cases hh : hitN names t k with
  | true =>
    rw [hh] at hf
    have H := Lib.hid hf
    clear hf hk h hh
    go_enter Try.func61, Try.ntmps61
    go_wp2_with fail
    refine H.out.mono ?_
    rintro e w' ⟨rfl, hb⟩
    go_wp2
    go_ret
    exact ⟨rfl, hb⟩
  | false =>
    rw [hh] at hf
    have H := Lib.hid hf
    rw [if_neg Bool.false_ne_true]
    by_cases h40 : 40 ≤ names.length
    · have d1 : decide ((40 : Int) ≤ (names.length : Int)) = true := by rw [decide_eq_true_iff]; omega
      rw [if_pos h40]
      obtain ⟨n, hn⟩ : ∃ n, names.length = n := ⟨_, rfl⟩
      rw [hn] at c0 d1 H
      clear hf hk h hh h40 hn
      go_enter Try.func61, Try.ntmps61
      go_wp2_with fail
      refine H.out.mono ?_
      rintro e w' ⟨rfl, hb⟩
      have g0 : w'.cell? ⟨d, 0, none⟩ = some (.slice na n nc) := (hb.cell (p := ⟨d, 0, none⟩) HH.out.row.lt).trans c0
      clear c0 c1 c2
      go_wp2
      go_ret
      exact ⟨rfl, hb⟩
    · have d1 : decide ((40 : Int) ≤ (names.length : Int)) = false := by rw [decide_eq_false_iff_not]; omega
      rw [if_neg h40]
      obtain ⟨n, hn⟩ : ∃ n, names.length = n := ⟨_, rfl⟩
      rw [hn] at c0 d1 H
      clear hf hk h hh h40 hn
      go_enter Try.func61, Try.ntmps61
      go_wp2_with fail
      refine H.out.mono ?_
      rintro e w' ⟨rfl, hb⟩
      have g0 : w'.cell? ⟨d, 0, none⟩ = some (.slice na n nc) := (hb.cell (p := ⟨d, 0, none⟩) HH.out.row.lt).trans c0
      clear c0 c1 c2
      go_wp2
      go_ret
      exact ⟨rfl, hb⟩
/-- A name's file: where the name stands, and where its file does. -/
structure Named (names : List NameV) (files : List FileV) (t : ByteArray) (k j : Nat) : Prop where
  p : PlaceN names t k
  hk : k < names.length
  hh : hitN names t k = true
  f : Firsts (fun x => x.ino == (names[k]).2) files j
  hj : j < files.length
set_option maxRecDepth 100000 in
set_option maxHeartbeats 4000000 in
theorem named_yes (t : ByteArray) (k j : Nat) (h : DirAt d base names files opn nv fv ov w) (hk : Named names files t k j) (g c : Nat) (hfv : fv = .slice (some ⟨g, 0, none⟩) files.length c) :
    Calls Try.prog 64 #[.pointer (some ⟨d, 0, none⟩), .string t] w fun e w' => e = .returned (.pointer (some ⟨g, j * 5, none⟩)) ∧ Below w.heap.size w w' := by
  have hf := findName_any names t k base nv w h.n (by have := h.nl; omega) hk.p
  rw [hk.hh] at hf
  subst hfv
  obtain ⟨na, nc, rfl, hcap, hcm⟩ : ∃ a c, nv = .slice (some ⟨a, 0, none⟩) names.length c ∧ names.length ≤ c ∧ c ≤ maxLen := by
    rcases row_form h.n with ⟨h1, h2⟩ | ⟨b, cap, h1, -, -, h2, h3⟩
    · exact absurd hk.hk (by omega)
    · exact ⟨_, _, h1, h2, h3⟩
  have hfc : files.length ≤ c ∧ c ≤ maxLen := by
    rcases row_form h.f with ⟨h1, h2⟩ | ⟨b, cap, h1, -, -, h2, h3⟩
    · cases h1
    · injection h1 with h4 h5 h6; subst h6; exact ⟨h2, h3⟩
  unfold maxLen at hcm hfc
  obtain ⟨hfc1, hfc2⟩ := hfc
  have hcell := (NmR.cells h.n hk.hk).2
  have hfl := fun W (hW : Below w.heap.size w W) => findFile_any files (names[k]'hk.hk).2 j base _ W (h.below hW).f (by have := h.fl; omega) hk.f
  have e : placeZ files.length j = (j : Int) := by unfold placeZ; rw [if_pos hk.hj]
  rw [e] at hfl
  obtain ⟨ino, hino⟩ : ∃ i, (names[k]'hk.hk).2 = i := ⟨_, rfl⟩
  rw [hino] at hcell hfl
  obtain ⟨n, hn⟩ : ∃ n, names.length = n := ⟨_, rfl⟩
  obtain ⟨m, hm⟩ : ∃ n, files.length = n := ⟨_, rfl⟩
  have hkn : k < n := by have := hk.hk; omega
  have hjm : j < m := by have := hk.hj; omega
  have hnl := h.nl
  have hml := h.fl
  have hcs : ∀ W, Below w.heap.size w W → W.cell? ⟨d, 0, none⟩ = some (.slice (some ⟨na, 0, none⟩) n nc) ∧ W.cell? ⟨d, 1, none⟩ = some (.slice (some ⟨g, 0, none⟩) m c) ∧ W.cell? ⟨na, k * 2 + 1, none⟩ = some (.int .i64 ino) := fun W hW => by
    obtain ⟨c0, c1, -⟩ := (h.below hW).cs
    rw [hn] at c0
    rw [hm] at c1
    refine ⟨c0, c1, ?_⟩
    rw [← hcell]
    rcases row_form h.n with ⟨h1, h2⟩ | ⟨b, cap, h1, -, hb, -⟩
    · cases h1
    · injection h1 with h4 h5 h6
      injection h4 with h7
      injection h7 with h8
      subst h8
      exact hW.cell (p := ⟨na, k * 2 + 1, none⟩) hb
  have HS := Lib.hid hcs
  have H := Lib.hid (And.intro hf hfl)
  rw [hm, hn] at H
  rw [hn] at hcap hnl
  rw [hm] at hfc1 hml
  clear hf hfl h hk hcs hcell e hino hn hm
  have hj0 : decide ((j : Int) < 0) = false := by rw [decide_eq_false_iff_not]; omega
  go_enter Try.func64, Try.ntmps64
  obtain ⟨s0, -, -⟩ := HS.out w (Below.refl _ _)
  go_wp2_with fail
  refine H.out.1.mono ?_
  rintro e w1 ⟨rfl, hb1⟩
  clear s0
  have HB := Lib.hid hb1
  clear hb1
  go_wp2_with fail
  go_region_held3 (fun W => W.cell? ⟨d, 0, none⟩ = some (.slice (some ⟨na, 0, none⟩) n nc) ∧ W.cell? ⟨d, 1, none⟩ = some (.slice (some ⟨g, 0, none⟩) m c) ∧ W.cell? ⟨na, k * 2 + 1, none⟩ = some (.int .i64 ino)) (first | exact HS.out _ HB.out.drew | exact HS.out _ (by assumption))
    (first | (go_at_call 27; refine (H.out.2 _ HB.out.drew).mono ?_; rintro e w2 ⟨rfl, hb2⟩; have hb3 := HB.out.drew.trans (hb2.mono HB.out.drew.size)))
  all_goals
    obtain ⟨-, s1, -⟩ := HS.out _ hb3
    go_wp2
    go_ret
    exact ⟨rfl, hb3⟩
end Go.Proofs.Ytbpboghjgbgjfaa
