/- The contracts of package pattern's isName and of the parser's captureName. -/
import Derived.Test.YtfmoidhpafpgnaaPatEsc
namespace Go.Proofs.Ytfmoidhpafpgnaa
open Go.RowKit

theorem all_take_snoc (s : ByteArray) (k : Nat) (h : k < s.size) : ((s.data.toList.take (k + 1)).all fun c => wrdB c.toNat) = (((s.data.toList.take k).all fun c => wrdB c.toNat) && wrdB s[k].toNat) := by
  rw [take_snocB s k h, List.all_append]; simp
theorem all_false_at (s : ByteArray) (k : Nat) (h : k < s.size) (hd : wrdB s[k].toNat = false) : (s.data.toList.all fun c => wrdB c.toNat) = false := by
  have hm : s[k] ∈ s.data.toList := List.getElem_mem (l := s.data.toList) (n := k) (by rw [sizeB]; exact h)
  rw [List.all_eq_false]
  exact ⟨s[k], hm, by rw [hd]; exact Bool.false_ne_true⟩
theorem nameN_of (s : ByteArray) (h : 0 < s.size) : nameN s.data.toList = (decide (s.size ≤ 32) && letB (s[0]'h).toNat && s.data.toList.all fun c => wrdB c.toNat) := by
  have hl := sizeB s
  have h0 : s.data.toList[0]'(by omega) = s[0]'h := rfl
  cases hs : s.data.toList with
  | nil => rw [hs] at hl; simp at hl; omega
  | cons c r =>
    have : s[0]'h = c := by rw [← h0]; simp [hs]
    rw [this]
    unfold nameN
    rw [← hl, hs]

set_option maxRecDepth 100000 in
set_option maxHeartbeats 2000000 in
theorem isName_any (s : ByteArray) (w : World) :
    Calls Try.prog 30 #[.string s] w fun e w' => e = .returned (.bool (nameN s.data.toList)) ∧ Below w.heap.size w w' := by
  by_cases h0 : 0 < s.size
  · have hn := nameN_of s h0
    by_cases h1 : s.size ≤ 32
    · have hle := fun W => letter_any (s[0]'h0).toNat (UInt8.toNat_lt _) W
      by_cases h2 : letB (s[0]'h0).toNat = true
      · rw [h2] at hle hn
        have hn : nameN s.data.toList = s.data.toList.all fun c => wrdB c.toNat := by rw [hn]; simp [h1]
        obtain ⟨r, hr⟩ : ∃ r, nameN s.data.toList = r := ⟨_, rfl⟩
        rw [hr] at hn ⊢
        have HR := Lib.hid hn
        have HL := Lib.hid hle
        clear hn hle h2 hr
        go_enter Try.func30, Try.ntmps30
        go_wp2_with fail
        refine (HL.out _).mono ?_
        rintro e w1 ⟨rfl, hb1⟩
        go_wp2
        go_loopw [20] (fun i wr => ∃ k : Nat, k ≤ s.size ∧ i = .int .i64 k ∧ ((s.data.toList.take k).all fun c => wrdB c.toNat) = true ∧ Below w.heap.size w wr) (fun i _ => s.size - (intOf i).toNat)
        case atStart => exact ⟨0, by omega, rfl, rfl, hb1⟩
        case round =>
          obtain ⟨k, hk, rfl, ha, hb⟩ := hrel
          by_cases hlt : k < s.size
          · have hwd := fun W => word_any s[k].toNat (UInt8.toNat_lt _) W
            by_cases h3 : wrdB s[k].toNat = true
            · have hs := all_take_snoc s k hlt
              rw [ha, h3] at hs
              rw [h3] at hwd
              have HS := Lib.hid hs
              have HW := Lib.hid hwd
              clear hs hwd h3 ha
              go_wp2_with fail
              refine (HW.out _).mono ?_
              rintro e w2 ⟨rfl, hb2⟩
              go_wp2
              go_roundw
              case rel => exact ⟨k + 1, by omega, by simp, HS.out, hb.trans (hb2.mono hb.size)⟩
              case measure => simp [intOf]; omega
            · have h3 : wrdB s[k].toNat = false := by simpa using h3
              have hs := all_false_at s k hlt h3
              rw [h3] at hwd
              have HS := Lib.hid hs
              have HW := Lib.hid hwd
              clear hs hwd h3 ha
              go_wp2_with fail
              refine (HW.out _).mono ?_
              rintro e w2 ⟨rfl, hb2⟩
              go_wp2
              go_ret
              exact ⟨by rw [HR.out, HS.out]; rfl, hb.trans (hb2.mono hb.size)⟩
          · obtain rfl : k = s.size := by omega
            rw [← sizeB, List.take_length] at ha
            have HS := Lib.hid ha
            clear ha
            go_wp2
            go_ret
            exact ⟨by rw [HR.out, HS.out]; rfl, hb⟩
      · have h2 : letB (s[0]'h0).toNat = false := by simpa using h2
        rw [h2] at hle hn
        have hn : nameN s.data.toList = false := by rw [hn]; simp
        rw [hn]
        have HL := Lib.hid hle
        clear hn hle h2
        go_enter Try.func30, Try.ntmps30
        go_wp2_with fail
        refine (HL.out _).mono ?_
        rintro e w1 ⟨rfl, hb1⟩
        go_wp2
        go_ret
        exact ⟨rfl, hb1⟩
    · have hn : nameN s.data.toList = false := by rw [hn]; simp [h1]
      rw [hn]
      clear hn
      go_enter Try.func30, Try.ntmps30
      go_wp2
      go_ret
      exact ⟨rfl, Below.refl _ _⟩
  · have hs0 : s.size = 0 := by omega
    have hn : nameN s.data.toList = false := by
      have hl := sizeB s
      cases hs : s.data.toList with
      | nil => rfl
      | cons c r => rw [hs] at hl; simp at hl; omega
    rw [hn]
    have d0 : decide ((s.size : Int) < 1) = true := by simp; omega
    clear hn hs0
    go_enter Try.func30, Try.ntmps30
    go_wp2
    go_ret
    exact ⟨rfl, Below.refl _ _⟩

/-- What is left of the source. -/
def restS (s : ByteArray) (p : PS) : ByteArray := s.extract p.pos s.size
theorem restS_size (s : ByteArray) (p : PS) : (restS s p).size = s.size - p.pos := by simp [restS, ByteArray.size_extract]
theorem restS_name (s : ByteArray) (p : PS) (n : Nat) : (restS s p).extract 0 n = s.extract p.pos (p.pos + n) := by
  apply bext
  unfold restS
  rw [extract_list, extract_list, extract_list, List.take_of_length_le (l := s.data.toList) (by rw [sizeB]; omega), List.drop_zero, List.drop_take, Nat.add_sub_cancel_left]
theorem cap_cases (s : ByteArray) (p : PS) :
    (∃ o : Nat, o < (restS s p).size ∧ Lib.indexByte (restS s p).data.toList 58 = o ∧ nameN ((restS s p).extract 0 o).data.toList = true ∧ capS s p = some o) ∨
    (∃ o : Nat, o < (restS s p).size ∧ Lib.indexByte (restS s p).data.toList 58 = o ∧ nameN ((restS s p).extract 0 o).data.toList = false ∧ capS s p = none) ∨
    (Lib.indexByte (restS s p).data.toList 58 = -1 ∧ capS s p = none) := by
  unfold capS
  rw [show s.extract p.pos s.size = restS s p from rfl]
  rcases indexByte_ways (restS s p) 58 with h | ⟨o, ho, h⟩
  · rw [h]; exact .inr (.inr ⟨rfl, by simp⟩)
  · have e : ((restS s p).extract 0 o).data.toList = (restS s p).data.toList.take o := by rw [extract_list, List.drop_zero]
    rw [h, if_neg (by omega), Int.toNat_natCast]
    cases hn : nameN ((restS s p).extract 0 o).data.toList
    · exact .inr (.inl ⟨o, ho, rfl, hn, by rw [← e, hn]; rfl⟩)
    · exact .inl ⟨o, ho, rfl, hn, by rw [← e, hn]; rfl⟩

set_option maxRecDepth 100000 in
set_option maxHeartbeats 2000000 in
theorem cap_no (s : ByteArray) (B : Nat) (p : PS) (w : World) (h : PAt s B p w) (hc : capS s p = none) :
    Calls Try.prog 55 #[pPtr B] w fun e w' => e = .returned (.tuple #[.string ⟨#[]⟩, .bool false]) ∧ PAt s B p w' ∧ Fr B w w' := by
  obtain ⟨c0, c1, c2, -, -⟩ := h.parts
  have hle := h.le
  have hsz := h.sz
  have hrs := restS_size s p
  have H := Lib.hid h
  clear h
  rcases cap_cases s p with ⟨o, ho, hi, hn, he⟩ | ⟨o, ho, hi, hn, he⟩ | ⟨hi, he⟩
  · rw [he] at hc; cases hc
  · have hcut := fun W => cut_yes_q (restS s p) 58 o W hi ho (by unfold maxLen; omega)
    have hin := fun W => isName_any ((restS s p).extract 0 o) W
    rw [hn] at hin
    unfold cutYes at hcut
    have K := Lib.hid (And.intro hcut hin)
    clear hcut hin hi hn he hc
    unfold pPtr restS at *
    go_enter Try.func55, Try.ntmps55
    go_wp2
    go_quiet ((go_at_call 63; exact Calls.quiet_of (K.out.1 _)))
    go_wp2_with fail
    refine (K.out.2 _).mono ?_
    rintro e w1 ⟨rfl, hb1⟩
    go_wp2
    go_ret2
    exact ⟨rfl, (H.out.drewN _).below hb1, ((Fr.refl B w).drewN _).below hb1⟩
  · have hcut := fun W => cut_no (restS s p) 58 W hi
    unfold cutNo at hcut
    have K := Lib.hid hcut
    clear hcut hi he hc
    unfold pPtr restS at *
    go_enter Try.func55, Try.ntmps55
    go_wp2
    go_quiet ((go_at_call 63; exact Calls.quiet_of_same ((K.out _).mono fun _ _ h => ⟨h.1, h.2.symm⟩)))
    go_wp2
    go_ret2
    exact ⟨rfl, H.out.drewN _, (Fr.refl B w).drewN _⟩

set_option maxRecDepth 100000 in
set_option maxHeartbeats 2000000 in
theorem cap_yes (s : ByteArray) (B : Nat) (p : PS) (n : Nat) (w : World) (h : PAt s B p w) (hc : capS s p = some n) :
    p.pos + n + 1 ≤ s.size ∧ Calls Try.prog 55 #[pPtr B] w fun e w' => e = .returned (.tuple #[.string (s.extract p.pos (p.pos + n)), .bool true]) ∧ PAt s B ⟨p.pos + n + 1, p.er⟩ w' ∧ Fr B w w' := by
  obtain ⟨c0, c1, c2, -, -⟩ := h.parts
  have hle := h.le
  have hsz := h.sz
  have hrs := restS_size s p
  have H := Lib.hid h
  clear h
  rcases cap_cases s p with ⟨o, ho, hi, hn, he⟩ | ⟨o, ho, hi, hn, he⟩ | ⟨hi, he⟩
  · obtain rfl : o = n := by rw [he] at hc; exact Option.some.inj hc
    have hcut := fun W => cut_yes_q (restS s p) 58 o W hi ho (by unfold maxLen; omega)
    have hin := fun W => isName_any ((restS s p).extract 0 o) W
    rw [hn] at hin
    unfold cutYes at hcut
    rw [restS_name s p o] at hcut hin
    have hnl : (s.extract p.pos (p.pos + o)).size = o := by simp [ByteArray.size_extract]; omega
    refine ⟨by omega, ?_⟩
    obtain ⟨N, hN⟩ : ∃ N, s.extract p.pos (p.pos + o) = N := ⟨_, rfl⟩
    rw [hN] at hcut hin hnl ⊢
    have K := Lib.hid (And.intro hcut hin)
    have hz1 : o ≤ N.size := by omega
    have hz2 : N.size ≤ o := by omega
    have HNL := Lib.hid hnl
    clear hcut hin hi hn he hc hnl hN
    unfold pPtr restS at *
    go_enter Try.func55, Try.ntmps55
    go_wp2
    go_quiet ((go_at_call 63; exact Calls.quiet_of (K.out.1 _)))
    go_wp2_with fail
    refine (K.out.2 _).mono ?_
    rintro e w1 ⟨rfl, hb1⟩
    have h1 := (H.out.drewN _).below hb1
    have hf1 := ((Fr.refl B w).drewN _).below hb1
    obtain ⟨d0, d1, d2, f1, f2⟩ := h1.parts
    go_wp2
    go_ret2
    exact ⟨rfl, h1.setPos (p.pos + o + 1) _ (by rw [HNL.out]; push_cast; omega) (by omega), hf1.setCell 1 _⟩
  · rw [he] at hc; cases hc
  · rw [he] at hc; cases hc
end Go.Proofs.Ytfmoidhpafpgnaa
