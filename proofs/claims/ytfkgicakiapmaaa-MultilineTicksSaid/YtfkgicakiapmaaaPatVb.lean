/- The contracts of what the parser reads behind a backslash: escaped and escape. The contracts of package pattern's isName and of the parser's captureName. -/
import Derived.Test.YtfkgicakiapmaaaPatVa
namespace Go.Proofs.Ytfkgicakiapmaaa
open Go.RowKit

/-- The cells of ranges. -/
def rsCells (rs : List (Nat × Nat)) : Array Value := (rs.flatMap fun x => [Value.int .u8 (x.1 : Int), Value.int .u8 (x.2 : Int)]).toArray
theorem rsCells_get (rs : List (Nat × Nat)) : ∀ (i : Nat) (h : i < rs.length), (rsCells rs)[i * 2]? = some (.int .u8 (rs[i].1 : Int)) ∧ (rsCells rs)[i * 2 + 1]? = some (.int .u8 (rs[i].2 : Int)) := by
  induction rs with
  | nil => intro i h; simp at h
  | cons x r ih =>
    intro i h
    match i with
    | 0 => simp [rsCells]
    | i + 1 =>
      have := ih i (by simpa using h)
      rw [show (i + 1) * 2 = i * 2 + 2 from by omega, show i * 2 + 2 + 1 = i * 2 + 1 + 2 from by omega]
      simpa [rsCells] using this
theorem some_ranges (lo : Nat) (w : World) (rs : List (Nat × Nat)) (t : TypeId) (n : Nat) (hn : n = rs.length) (hb : ∀ x ∈ rs, x.1 < 256 ∧ x.2 < 256) (hl : rs.length ≤ 300) (hlo : lo ≤ w.heap.size) :
    RangesIn lo (w.alloc (.cells (rsCells rs) t)) (.slice (some ⟨w.heap.size, 0, none⟩) n n) rs := by
  subst hn
  refine ⟨_, _, rfl, by unfold maxLen; omega, hb, fun i hi => ⟨w.heap.size, 0, rfl, hlo, ?_, ?_⟩⟩
  · rw [Lib.cell_of_heap (heap_alloc_new _ _), Nat.zero_add]; exact (rsCells_get rs i hi).1
  · rw [Lib.cell_of_heap (heap_alloc_new _ _), Nat.zero_add]; exact (rsCells_get rs i hi).2

end Go.Proofs.Ytfkgicakiapmaaa

namespace Go.Proofs.Ytfkgicakiapmaaa
open Go.RowKit

theorem all_take_snoc (s : ByteArray) (k : Nat) (h : k < s.size) : ((s.data.toList.take (k + 1)).all fun c => wrdB c.toNat) = (((s.data.toList.take k).all fun c => wrdB c.toNat) && wrdB s[k].toNat) := by
  rw [take_snocB s k h, List.all_append]; simp
theorem all_false_at (s : ByteArray) (k : Nat) (h : k < s.size) (hd : wrdB s[k].toNat = false) : (s.data.toList.all fun c => wrdB c.toNat) = false := by
  have hm : s[k] ∈ s.data.toList := List.getElem_mem (l := s.data.toList) (n := k) (by rw [sizeB]; exact h)
  rw [List.all_eq_false]
  exact ⟨s[k], hm, by rw [hd]; exact Bool.false_ne_true⟩
theorem nameN_of (s : ByteArray) (h : 0 < s.size) : nameN s.data.toList = (decide (s.size ≤ 32) && letB (s[0]'h).toNat && s.data.toList.all fun c => wrdB c.toNat) := by
  have hl := sizeB s
  have h0 : s.data.toList[0]'(by omega) = s[0]'h := rfl
  cases hs : s.data.toList with
  | nil => rw [hs] at hl; simp at hl; omega
  | cons c r =>
    have : s[0]'h = c := by rw [← h0]; simp [hs]
    rw [this]
    unfold nameN
    rw [← hl, hs]

set_option maxRecDepth 100000 in
set_option maxHeartbeats 2000000 in
theorem isName_any (s : ByteArray) (w : World) :
    Calls Try.prog 95 #[.string s] w fun e w' => e = .returned (.bool (nameN s.data.toList)) ∧ Below w.heap.size w w' := by
  by_cases h0 : 0 < s.size
  · have hn := nameN_of s h0
    by_cases h1 : s.size ≤ 32
    · have hle := fun W => letter_any (s[0]'h0).toNat (UInt8.toNat_lt _) W
      by_cases h2 : letB (s[0]'h0).toNat = true
      · rw [h2] at hle hn
        have hn : nameN s.data.toList = s.data.toList.all fun c => wrdB c.toNat := by rw [hn]; simp [h1]
        obtain ⟨r, hr⟩ : ∃ r, nameN s.data.toList = r := ⟨_, rfl⟩
        rw [hr] at hn ⊢
        have HR := Lib.hid hn
        have HL := Lib.hid hle
        clear hn hle h2 hr
        go_enter Try.func95, Try.ntmps95
        go_wp2_with fail
        refine (HL.out _).mono ?_
        rintro e w1 ⟨rfl, hb1⟩
        go_wp2
        go_loopw [20] (fun i wr => ∃ k : Nat, k ≤ s.size ∧ i = .int .i64 k ∧ ((s.data.toList.take k).all fun c => wrdB c.toNat) = true ∧ Below w.heap.size w wr) (fun i _ => s.size - (intOf i).toNat)
        case atStart => exact ⟨0, by omega, rfl, rfl, hb1⟩
        case round =>
          obtain ⟨k, hk, rfl, ha, hb⟩ := hrel
          by_cases hlt : k < s.size
          · have hwd := fun W => word_any s[k].toNat (UInt8.toNat_lt _) W
            by_cases h3 : wrdB s[k].toNat = true
            · have hs := all_take_snoc s k hlt
              rw [ha, h3] at hs
              rw [h3] at hwd
              have HS := Lib.hid hs
              have HW := Lib.hid hwd
              clear hs hwd h3 ha
              go_wp2_with fail
              refine (HW.out _).mono ?_
              rintro e w2 ⟨rfl, hb2⟩
              go_wp2
              go_roundw
              case rel => exact ⟨k + 1, by omega, by simp, HS.out, hb.trans (hb2.mono hb.size)⟩
              case measure => simp [intOf]; omega
            · have h3 : wrdB s[k].toNat = false := by simpa using h3
              have hs := all_false_at s k hlt h3
              rw [h3] at hwd
              have HS := Lib.hid hs
              have HW := Lib.hid hwd
              clear hs hwd h3 ha
              go_wp2_with fail
              refine (HW.out _).mono ?_
              rintro e w2 ⟨rfl, hb2⟩
              go_wp2
              go_ret
              exact ⟨by rw [HR.out, HS.out]; rfl, hb.trans (hb2.mono hb.size)⟩
          · obtain rfl : k = s.size := by omega
            rw [← sizeB, List.take_length] at ha
            have HS := Lib.hid ha
            clear ha
            go_wp2
            go_ret
            exact ⟨by rw [HR.out, HS.out]; rfl, hb⟩
      · have h2 : letB (s[0]'h0).toNat = false := by simpa using h2
        rw [h2] at hle hn
        have hn : nameN s.data.toList = false := by rw [hn]; simp
        rw [hn]
        have HL := Lib.hid hle
        clear hn hle h2
        go_enter Try.func95, Try.ntmps95
        go_wp2_with fail
        refine (HL.out _).mono ?_
        rintro e w1 ⟨rfl, hb1⟩
        go_wp2
        go_ret
        exact ⟨rfl, hb1⟩
    · have hn : nameN s.data.toList = false := by rw [hn]; simp [h1]
      rw [hn]
      clear hn
      go_enter Try.func95, Try.ntmps95
      go_wp2
      go_ret
      exact ⟨rfl, Below.refl _ _⟩
  · have hs0 : s.size = 0 := by omega
    have hn : nameN s.data.toList = false := by
      have hl := sizeB s
      cases hs : s.data.toList with
      | nil => rfl
      | cons c r => rw [hs] at hl; simp at hl; omega
    rw [hn]
    have d0 : decide ((s.size : Int) < 1) = true := by simp; omega
    clear hn hs0
    go_enter Try.func95, Try.ntmps95
    go_wp2
    go_ret
    exact ⟨rfl, Below.refl _ _⟩

/-- What is left of the source. -/
def restS (s : ByteArray) (p : PS) : ByteArray := s.extract p.pos s.size
theorem restS_size (s : ByteArray) (p : PS) : (restS s p).size = s.size - p.pos := by simp [restS, ByteArray.size_extract]
theorem restS_name (s : ByteArray) (p : PS) (n : Nat) : (restS s p).extract 0 n = s.extract p.pos (p.pos + n) := by
  apply bext
  unfold restS
  rw [extract_list, extract_list, extract_list, List.take_of_length_le (l := s.data.toList) (by rw [sizeB]; omega), List.drop_zero, List.drop_take, Nat.add_sub_cancel_left]
theorem cap_cases (s : ByteArray) (p : PS) :
    (∃ o : Nat, o < (restS s p).size ∧ Lib.indexByte (restS s p).data.toList 58 = o ∧ nameN ((restS s p).extract 0 o).data.toList = true ∧ capS s p = some o) ∨
    (∃ o : Nat, o < (restS s p).size ∧ Lib.indexByte (restS s p).data.toList 58 = o ∧ nameN ((restS s p).extract 0 o).data.toList = false ∧ capS s p = none) ∨
    (Lib.indexByte (restS s p).data.toList 58 = -1 ∧ capS s p = none) := by
  unfold capS
  rw [show s.extract p.pos s.size = restS s p from rfl]
  rcases indexByte_ways (restS s p) 58 with h | ⟨o, ho, h⟩
  · rw [h]; exact .inr (.inr ⟨rfl, by simp⟩)
  · have e : ((restS s p).extract 0 o).data.toList = (restS s p).data.toList.take o := by rw [extract_list, List.drop_zero]
    rw [h, if_neg (by omega), Int.toNat_natCast]
    cases hn : nameN ((restS s p).extract 0 o).data.toList
    · exact .inr (.inl ⟨o, ho, rfl, hn, by rw [← e, hn]; rfl⟩)
    · exact .inl ⟨o, ho, rfl, hn, by rw [← e, hn]; rfl⟩

end Go.Proofs.Ytfkgicakiapmaaa
