/- The contracts of package ascii's Cut, and the statement that the parts, joined by the separator, are the string. -/
import Derived.Test.YtkopibaoolaelaaDoorAwake
import Derived.Deep.QuietTactic
import Derived.BigQuiet
import Derived.Lib.IndexLaws
import Derived.Laws.IdiomStrings
namespace Go.Proofs.YtkopibaoolaelaaDoor
open Go.RowKit

theorem u8_back (c : UInt8) : ((c.toNat : Int)).toNat.toUInt8 = c := by simp
/-- What Cut hands back. -/
def cutNo (s : ByteArray) : Value := .tuple #[.string s, .string ⟨#[]⟩, .bool false]
def cutYes (s : ByteArray) (o : Nat) : Value := .tuple #[.string (s.extract 0 o), .string (s.extract (o + 1) s.size), .bool true]

theorem cut_no (s : ByteArray) (c : UInt8) (w : World) (h : Lib.indexByte s.data.toList c = -1) :
    Calls Tryd.prog 21 #[.string s, .int .u8 c.toNat] w fun e w' => e = .returned (cutNo s) ∧ w = w' := by
  have hi := Tryd.strings_IndexByte s c.toNat w
  rw [u8_back, h] at hi
  have HI := Lib.hid hi
  clear hi h
  go_enter Tryd.func21, Tryd.ntmps21
  go_wp2_with (go_at_call 42; refine (HI.out).mono ?_; rintro e w' ⟨rfl, rfl⟩)
  go_ret3
  exact ⟨rfl, rfl⟩

set_option maxRecDepth 100000 in
set_option maxHeartbeats 1000000 in
theorem cut_yes (s : ByteArray) (c : UInt8) (o : Nat) (w : World) (h : Lib.indexByte s.data.toList c = o) (ho : o < s.size) (hs : s.size ≤ maxLen) :
    Calls Tryd.prog 21 #[.string s, .int .u8 c.toNat] w fun e w' => e = .returned (cutYes s o) ∧ Below w.heap.size w w' := by
  have hi := Tryd.strings_IndexByte s c.toNat w
  rw [u8_back, h] at hi
  have HI := Lib.hid hi
  clear hi h
  unfold maxLen at hs
  have e1 : IntKind.i64.wrap ((o : Int) + 1) = (o : Int) + 1 := IntWalk.i64_in _ (by omega)
  have e2 : (0 : Int) ≤ (o : Int) + 1 := by omega
  have e3 : ((o : Int) + 1).toNat = o + 1 := by omega
  go_enter Tryd.func21, Tryd.ntmps21
  go_wp2_with (go_at_call 42; refine (HI.out).mono ?_; rintro e w' ⟨rfl, rfl⟩)
  go_quiet (fail)
  go_wp2
  go_ret3
  exact ⟨rfl, ⟨rfl, rfl, rfl, Nat.le_refl _, fun _ _ => rfl⟩⟩

theorem indexByte_ways (s : ByteArray) (c : UInt8) : Lib.indexByte s.data.toList c = -1 ∨ ∃ o : Nat, o < s.size ∧ Lib.indexByte s.data.toList c = o := by
  rcases Int.lt_or_le (Lib.indexByte s.data.toList c) 0 with h | h
  · have := Lib.indexByte_ge s.data.toList c
    exact .inl (by omega)
  · obtain ⟨o, ho⟩ := Int.eq_ofNat_of_zero_le h
    have h1 := (Lib.indexByte_some ho).1
    have h2 := (List.getElem?_eq_some_iff.1 h1).1
    exact .inr ⟨o, by rw [sizeB] at h2; exact h2, ho⟩
theorem indexByte_not (l : List UInt8) (c : UInt8) (h : ∀ k : Nat, l[k]? ≠ some c) : Lib.indexByte l c = -1 := by
  rcases Int.lt_or_le (Lib.indexByte l c) 0 with h' | h'
  · have := Lib.indexByte_ge l c
    omega
  · obtain ⟨o, ho⟩ := Int.eq_ofNat_of_zero_le h'
    exact absurd (Lib.indexByte_some ho).1 (h o)
theorem bext {a b : ByteArray} (h : a.data.toList = b.data.toList) : a = b := by
  cases a; cases b; simp_all [Array.toList_inj]
theorem extract_list (s : ByteArray) (a b : Nat) : (s.extract a b).data.toList = (s.data.toList.take b).drop a := by
  rw [ByteArray.data_extract, Array.toList_extract, List.extract_eq_take_drop, List.drop_take]
theorem join_back (s : ByteArray) (c : UInt8) (o : Nat) (h : s.data.toList[o]? = some c) : s.extract 0 o ++ ⟨#[c]⟩ ++ s.extract (o + 1) s.size = s := by
  apply bext
  rw [ByteArray.data_append, ByteArray.data_append, Array.toList_append, Array.toList_append, extract_list, extract_list]
  have e : s.data.toList.take s.size = s.data.toList := List.take_of_length_le (by simp)
  obtain ⟨h1, h2⟩ := List.getElem?_eq_some_iff.1 h
  rw [e]
  simp
  have := List.take_append_drop o s.data.toList
  rw [List.drop_eq_getElem_cons h1, h2] at this
  exact this

set_option maxRecDepth 100000 in
set_option maxHeartbeats 1000000 in
theorem lawCuts (s : ByteArray) (c : UInt8) (w : World) (hT : Tabs w) (hs : s.size ≤ maxLen) :
    Calls Tryd.prog 8 #[.string s, .int .u8 c.toNat] w fun e w' => e = .returned (.bool true) ∧ Below w.heap.size w w' := by
  have HT := Lib.hid hT
  clear hT
  rcases indexByte_ways s c with h | ⟨o, ho, h⟩
  · have H := Lib.hid h
    clear h
    go_enter Tryd.func8, Tryd.ntmps8
    go_wp2_with (first
      | (go_at_call 9; refine (awake_any w HT.out).mono ?_; rintro e w1 ⟨rfl, hb1⟩)
      | (go_at_call 21; refine (cut_no s c _ H.out).mono ?_; unfold cutNo; rintro e w2 ⟨rfl, rfl⟩))
    go_ret
    exact ⟨rfl, hb1⟩
  · have hso := Lib.indexByte_some h
    have hno : Lib.indexByte (s.extract 0 o).data.toList c = -1 := indexByte_not _ _ (fun k => by
      rw [extract_list]
      simp only [List.drop_zero, List.getElem?_take]
      split
      · exact hso.2 k (by assumption)
      · simp)
    have hj := join_back s c o hso.1
    have H := Lib.hid h
    have HN := Lib.hid hno
    have HJ := Lib.hid hj
    clear h hso hno hj
    go_enter Tryd.func8, Tryd.ntmps8
    go_wp2_with (go_at_call 9; refine (awake_any w HT.out).mono ?_; rintro e w1 ⟨rfl, hb1⟩)
    refine (cut_yes s c o _ H.out ho hs).mono ?_
    unfold cutYes
    rintro e w2 ⟨rfl, hb2⟩
    go_wp2_with fail
    refine (cut_no (s.extract 0 o) c _ HN.out).mono ?_
    unfold cutNo
    rintro e w3 ⟨rfl, rfl⟩
    have hcv : ∀ W : World, (convert 24 9 (.slice (some ⟨W.heap.size, 0, none⟩) 1 1)).run Tryd.prog (W.alloc (.cells #[.int .u8 (c.toNat : Int)] 5)) = .ok (.string ⟨#[c]⟩) (W.alloc (.cells #[.int .u8 (c.toNat : Int)] 5)) := fun W =>
      run_convert_bytes_back _ 24 9 5 ⟨W.heap.size, 0, none⟩ 1 [c] Tryd.underlying24 Tryd.underlying5 Tryd.underlying9 (fun j hj => by
        obtain rfl : j = 0 := by simpa using hj
        simp [Addr.add])
    have hsz : s.size ≤ 9223372036854775807 := by unfold maxLen at hs; omega
    have g1 : ¬ 9223372036854775807 < min o s.size + 1 := by omega
    have g2 : ¬ 9223372036854775807 < min o s.size + 1 + (s.size - (o + 1)) := by omega
    go_wp2
    go_ret
    refine ⟨ret_bool (by rw [HJ.out]; exact beq_self_eq_true _), ?_⟩
    exact (bstep hb1 hb2).alloc (bstep hb1 hb2).size _
end Go.Proofs.YtkopibaoolaelaaDoor
