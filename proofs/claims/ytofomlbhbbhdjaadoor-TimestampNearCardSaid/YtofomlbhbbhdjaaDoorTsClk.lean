/- The contracts of the cursor's year, month, fraction, clock and zone. -/
import Derived.Test.YtofomlbhbbhdjaaDoorTsMon
import Derived.Test.YtofomlbhbbhdjaaDoorCalDt
namespace Go.Proofs.YtofomlbhbbhdjaaDoor
open Go.RowKit

theorem numE {s : ByteArray} {k b : Nat} (hk : k ≤ s.size) (hb : b ≤ 18) (w : World) :
    Calls Tryd.prog 81 #[.string (s.extract k (k + dRun s b k))] w fun e w' => (∃ x, e = .returned (.tuple #[.int .i64 (numC s k b : Int), .bool x])) ∧ Below w.heap.size w w' := by
  have h := number_any (subL s k (dRun s b k)) w
  rw [numC_eq hk hb] at h
  unfold subL at h
  rw [mk_list] at h
  exact h.mono fun e w' ⟨he, hb⟩ => ⟨⟨_, he⟩, hb⟩
theorem extr_size {s : ByteArray} {k n : Nat} (h : k + n ≤ s.size) : (s.extract k (k + n)).size = n := by rw [ByteArray.size_extract]; omega

set_option maxRecDepth 100000 in
set_option maxHeartbeats 4000000 in
theorem year_any (s : ByteArray) (B : Nat) (p : CS) (w : World) (h : CAt s B p w) :
    Calls Tryd.prog 79 #[cPtr B] w fun e w' => e = .returned (.int .i64 (yearV s p)) ∧ CAt s B (yearC s p) w' ∧ Fr B w w' := by
  have hd := digits_any s B p 2 4 (by omega) (by omega) w h
  have hn := fun W => numE (s := s) (k := p.pos) (b := 4) h.le (by omega) W
  have hlt := numC_lt (s := s) (k := p.pos) (b := 4) h.le
  have hr4 := dRun_le s 4 p.pos
  have hsz := extr_size (dRun_in s 4 p.pos h.le)
  unfold yearV yearC
  unfold digitsC at hd
  obtain ⟨E, hE⟩ : ∃ E, s.extract p.pos (p.pos + dRun s 4 p.pos) = E := ⟨_, rfl⟩
  obtain ⟨v, hv⟩ : ∃ v, numC s p.pos 4 = v := ⟨_, rfl⟩
  obtain ⟨r, hr⟩ : ∃ r, dRun s 4 p.pos = r := ⟨_, rfl⟩
  rw [hE] at hd hn hsz
  rw [hv] at hn hlt ⊢
  rw [hr] at hd hr4 hsz ⊢
  have H := Lib.hid (And.intro hd hn)
  clear hd hn hE hv hr h
  unfold cPtr at H ⊢
  by_cases h4 : r = 4
  · subst h4
    have e1 : ((E.size : Int) == 4) = true := by rw [beq_iff_eq]; omega
    rw [if_pos rfl]
    clear hsz
    go_enter Tryd.func79, Tryd.ntmps79
    go_wp2_with fail
    refine (H.out.1).mono ?_
    rintro e w1 ⟨rfl, h1, hf1⟩
    go_wp2_with fail
    refine (H.out.2 _).mono ?_
    rintro e w2 ⟨⟨x, rfl⟩, hb2⟩
    go_wp2
    go_ret
    exact ⟨rfl, by simpa using h1.below hb2, hf1.below hb2⟩
  · have e1 : ((E.size : Int) == 4) = false := by rw [beq_eq_false_iff_ne]; omega
    rw [if_neg h4]
    by_cases h3 : r = 3
    · subst h3
      have e2 : ((E.size : Int) == 3) = true := by rw [beq_iff_eq]; omega
      rw [if_pos rfl]
      clear hsz h4
      go_enter Tryd.func79, Tryd.ntmps79
      go_wp2_with fail
      refine (H.out.1).mono ?_
      rintro e w1 ⟨rfl, h1, hf1⟩
      go_wp2_with fail
      refine (H.out.2 _).mono ?_
      rintro e w2 ⟨⟨x, rfl⟩, hb2⟩
      have h2 := h1.below hb2
      have hf2 := hf1.below hb2
      obtain ⟨c0, c1, c2, f0, f1, f2⟩ := h2.parts
      have HH := Lib.hid (And.intro h2 hf2)
      clear h1 hf1 hb2 h2 hf2
      go_wp2
      go_ret
      exact ⟨rfl, by simpa using HH.out.1.setBad true, HH.out.2.setCell B 2 _ rfl⟩
    · have e2 : ((E.size : Int) == 3) = false := by rw [beq_eq_false_iff_ne]; omega
      rw [if_neg h3]
      clear hsz h4
      by_cases h7 : v < 70
      · rw [if_pos h7]
        go_enter Tryd.func79, Tryd.ntmps79
        go_wp2_with fail
        refine (H.out.1).mono ?_
        rintro e w1 ⟨rfl, h1, hf1⟩
        go_wp2_with fail
        refine (H.out.2 _).mono ?_
        rintro e w2 ⟨⟨x, rfl⟩, hb2⟩
        go_wp2
        go_ret
        exact ⟨rfl, by simpa [h3] using h1.below hb2, hf1.below hb2⟩
      · rw [if_neg h7]
        go_enter Tryd.func79, Tryd.ntmps79
        go_wp2_with fail
        refine (H.out.1).mono ?_
        rintro e w1 ⟨rfl, h1, hf1⟩
        go_wp2_with fail
        refine (H.out.2 _).mono ?_
        rintro e w2 ⟨⟨x, rfl⟩, hb2⟩
        go_wp2
        go_ret
        exact ⟨rfl, by simpa [h3] using h1.below hb2, hf1.below hb2⟩

theorem mon_min (s : ByteArray) (p : CS) (h : p.pos ≤ s.size) : ∃ k, monQ s p = p.pos + k ∧ p.pos + k ≤ s.size ∧ (k : Int) ≤ 3 ∧ min ((p.pos : Int) + 3) (s.size : Int) = (p.pos : Int) + (k : Int) := by
  unfold monQ
  by_cases h3 : p.pos + 3 ≤ s.size
  · exact ⟨3, by omega, by omega, by omega, by omega⟩
  · exact ⟨s.size - p.pos, by omega, by omega, by omega, by omega⟩
set_option maxRecDepth 100000 in
set_option maxHeartbeats 4000000 in
theorem cmonth_any (s : ByteArray) (B : Nat) (p : CS) (w : World) (h : CAt s B p w) (hM : MonT w) (hne : B ≠ 0) :
    Calls Tryd.prog 78 #[cPtr B] w fun e w' => e = .returned (.int .i64 (cmonN s p : Nat)) ∧ CAt s B (monthC s p) w' ∧ Fr B w w' := by
  have hle := h.le
  have hsz := h.sz
  obtain ⟨k, hq, hk, hk3, hmin⟩ := mon_min s p hle
  obtain ⟨c0, c1, c2, f0, f1, f2⟩ := h.parts
  have hmo := fun W (hW : MonT W) => month_any (s.extract p.pos (monQ s p)) (by rw [ByteArray.size_extract]; omega) W hW
  have hsl := fun W => slice_two s p.pos k hk W
  have hst := h.setPos (p.pos + k) ((p.pos : Int) + (k : Int)) (by push_cast; rfl) hk
  have hfs := (FrP.refl (fun j => j = B) w).setCell B 1 (.int .i64 ((p.pos : Int) + (k : Int))) rfl
  unfold monthC cmonN
  rw [hq] at hmo ⊢
  obtain ⟨E, hE⟩ : ∃ E, s.extract p.pos (p.pos + k) = E := ⟨_, rfl⟩
  obtain ⟨v, hv⟩ : ∃ v, monthN E.data.toList = v := ⟨_, rfl⟩
  rw [hE] at hmo hsl ⊢
  rw [hv] at hmo ⊢
  obtain ⟨d0, d1, d2, g0, g1, g2⟩ := hst.parts
  have hMX := hM.frp hfs (fun e => hne e.symm)
  obtain ⟨X, hX⟩ : ∃ X, w.setCell ⟨B, 1, none⟩ (.int .i64 ((p.pos : Int) + (k : Int))) = X := ⟨_, rfl⟩
  rw [hX] at hst hfs hMX d0 d1 d2 g0 g1 g2
  have HX := Lib.hid hX
  have H := Lib.hid (And.intro hmo (And.intro hst (And.intro hfs hMX)))
  clear hmo hst hfs hE hv hM h hq hMX hne hX
  have HS := Lib.hid hsl
  clear hsl
  unfold cPtr at H ⊢
  go_enter Tryd.func78, Tryd.ntmps78
  go_wp2
  rw [HX.out]
  have hsl := HS.out
  push_cast at d1
  clear hmin c0 c1 c2 f0 f1 f2
  go_region_with (go_at_call 16; refine (H.out.1 _ (H.out.2.2.2.below ((Below.refl _ _).drew))).mono ?_; rintro e w3 ⟨rfl, hb3⟩)
  all_goals clear hsl
  all_goals
    have h3 := (H.out.2.1.drew).below hb3
    have hf3 := (H.out.2.2.1.drew).below hb3
    obtain ⟨q0, q1, q2, q3, q4, q5⟩ := h3.parts
    simp only at q1 q2
    have HH := Lib.hid (And.intro h3 hf3)
    clear h3 hf3 hb3 d0 d1 d2 g0 g1 g2
    by_cases hv0 : v = 0
    · subst hv0
      go_wp2
      go_ret
      exact ⟨rfl, by simpa using HH.out.1.setBad true, HH.out.2.setCell B 2 _ rfl⟩
    · have e1 : ((v : Int) == 0) = false := by rw [beq_eq_false_iff_ne]; omega
      go_wp2
      go_ret
      exact ⟨rfl, by simpa [hv0] using HH.out.1, HH.out.2⟩
end Go.Proofs.YtofomlbhbbhdjaaDoor
