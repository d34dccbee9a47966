/- The contracts of package ascii's Cut: where there is no separator, and at its first place; no condition but the length of a string. -/
import Derived.Test.YtdjkemodlbbmaaaDoorNumber
import Derived.Outline
import Derived.Deep.QuietTactic
import Derived.BigQuiet
import Derived.Lib.IndexLaws
import Derived.Laws.IdiomStrings
namespace Go.Proofs.YtdjkemodlbbmaaaDoor
open Go.RowKit

theorem u8_back (c : UInt8) : ((c.toNat : Int)).toNat.toUInt8 = c := by simp
/-- What Cut hands back. -/
def cutNo (s : ByteArray) : Value := .tuple #[.string s, .string ⟨#[]⟩, .bool false]
def cutYes (s : ByteArray) (o : Nat) : Value := .tuple #[.string (s.extract 0 o), .string (s.extract (o + 1) s.size), .bool true]

theorem cut_no (s : ByteArray) (c : UInt8) (w : World) (h : Lib.indexByte s.data.toList c = -1) :
    Calls Tryd.prog 42 #[.string s, .int .u8 c.toNat] w fun e w' => e = .returned (cutNo s) ∧ w = w' := by
  have hi := Tryd.strings_IndexByte s c.toNat w
  rw [u8_back, h] at hi
  have HI := Lib.hid hi
  clear hi h
  go_enter Tryd.func42, Tryd.ntmps42
  go_wp2_with (go_at_call 69; refine (HI.out).mono ?_; rintro e w' ⟨rfl, rfl⟩)
  go_ret3
  exact ⟨rfl, rfl⟩

set_option maxRecDepth 100000 in
set_option maxHeartbeats 1000000 in
theorem cut_yes_q (s : ByteArray) (c : UInt8) (o : Nat) (w : World) (h : Lib.indexByte s.data.toList c = o) (ho : o < s.size) (hs : s.size ≤ maxLen) :
    Calls Tryd.prog 42 #[.string s, .int .u8 c.toNat] w fun e w' => e = .returned (cutYes s o) ∧ ∃ n, w' = w.drewN n := by
  have hi := Tryd.strings_IndexByte s c.toNat w
  rw [u8_back, h] at hi
  have HI := Lib.hid hi
  clear hi h
  unfold maxLen at hs
  have e1 : IntKind.i64.wrap ((o : Int) + 1) = (o : Int) + 1 := IntWalk.i64_in _ (by omega)
  have e2 : (0 : Int) ≤ (o : Int) + 1 := by omega
  have e3 : ((o : Int) + 1).toNat = o + 1 := by omega
  go_enter Tryd.func42, Tryd.ntmps42
  go_wp2_with (go_at_call 69; refine (HI.out).mono ?_; rintro e w' ⟨rfl, rfl⟩)
  go_quiet (fail)
  go_wp2
  go_ret3
  exact ⟨rfl, _, rfl⟩

theorem cut_yes (s : ByteArray) (c : UInt8) (o : Nat) (w : World) (h : Lib.indexByte s.data.toList c = o) (ho : o < s.size) (hs : s.size ≤ maxLen) :
    Calls Tryd.prog 42 #[.string s, .int .u8 c.toNat] w fun e w' => e = .returned (cutYes s o) ∧ Below w.heap.size w w' :=
  (cut_yes_q s c o w h ho hs).mono fun _ _ ⟨he, n, hn⟩ => ⟨he, by rw [hn]; exact ⟨rfl, rfl, rfl, Nat.le_refl _, fun _ _ => rfl⟩⟩

theorem indexByte_ways (s : ByteArray) (c : UInt8) : Lib.indexByte s.data.toList c = -1 ∨ ∃ o : Nat, o < s.size ∧ Lib.indexByte s.data.toList c = o := by
  rcases Int.lt_or_le (Lib.indexByte s.data.toList c) 0 with h | h
  · have := Lib.indexByte_ge s.data.toList c
    exact .inl (by omega)
  · obtain ⟨o, ho⟩ := Int.eq_ofNat_of_zero_le h
    have h1 := (Lib.indexByte_some ho).1
    have h2 := (List.getElem?_eq_some_iff.1 h1).1
    exact .inr ⟨o, by rw [sizeB] at h2; exact h2, ho⟩
theorem indexByte_not (l : List UInt8) (c : UInt8) (h : ∀ k : Nat, l[k]? ≠ some c) : Lib.indexByte l c = -1 := by
  rcases Int.lt_or_le (Lib.indexByte l c) 0 with h' | h'
  · have := Lib.indexByte_ge l c
    omega
  · obtain ⟨o, ho⟩ := Int.eq_ofNat_of_zero_le h'
    exact absurd (Lib.indexByte_some ho).1 (h o)
theorem bext {a b : ByteArray} (h : a.data.toList = b.data.toList) : a = b := by
  cases a; cases b; simp_all [Array.toList_inj]
theorem extract_list (s : ByteArray) (a b : Nat) : (s.extract a b).data.toList = (s.data.toList.take b).drop a := by
  rw [ByteArray.data_extract, Array.toList_extract, List.extract_eq_take_drop, List.drop_take]
theorem join_back (s : ByteArray) (c : UInt8) (o : Nat) (h : s.data.toList[o]? = some c) : s.extract 0 o ++ ⟨#[c]⟩ ++ s.extract (o + 1) s.size = s := by
  apply bext
  rw [ByteArray.data_append, ByteArray.data_append, Array.toList_append, Array.toList_append, extract_list, extract_list]
  have e : s.data.toList.take s.size = s.data.toList := List.take_of_length_le (by simp)
  obtain ⟨h1, h2⟩ := List.getElem?_eq_some_iff.1 h
  rw [e]
  simp
  have := List.take_append_drop o s.data.toList
  rw [List.drop_eq_getElem_cons h1, h2] at this
  exact this
end Go.Proofs.YtdjkemodlbbmaaaDoor
