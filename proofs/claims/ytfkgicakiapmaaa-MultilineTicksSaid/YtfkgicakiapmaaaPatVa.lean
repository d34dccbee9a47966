/- The contracts of the parser's smallest methods: peek, take, expect, fail; the parser's block alone is written. The contracts of what the parser reads byte by byte: byteRange, isPrintable, literal, escaped, escape. -/
import Derived.Test.YtfkgicakiapmaaaPatNode
import Derived.Test.YtfkgicakiapmaaaCutC
import Derived.LoopTactic
namespace Go.Proofs.Ytfkgicakiapmaaa
open Go.RowKit

def pPtr (B : Nat) : Value := .pointer (some ⟨B, 0, none⟩)
end Go.Proofs.Ytfkgicakiapmaaa

namespace Go.Proofs.Ytfkgicakiapmaaa
open Go.RowKit

theorem one_range (lo : Nat) (w : World) (a b : Nat) (ha : a < 256) (hb : b < 256) (hlo : lo ≤ w.heap.size) :
    RangesIn lo (w.alloc (.cells #[.int .u8 (a : Int), .int .u8 (b : Int)] 59)) (.slice (some ⟨w.heap.size, 0, none⟩) 1 1) [(a, b)] := by
  refine ⟨_, 1, rfl, by simp [maxLen], by simp; omega, fun i hi => ⟨w.heap.size, 0, rfl, hlo, ?_, ?_⟩⟩
  all_goals
    obtain rfl : i = 0 := by simpa using hi
    rw [Lib.cell_of_heap (heap_alloc_new _ _)]
    rfl

def specials (sp : List UInt8) : Value := .string ⟨sp.toArray⟩
theorem special_in (sp : List UInt8) (c : UInt8) (h : c ∈ sp) : ∃ o : Nat, Lib.indexByte sp c = o := by
  rcases Int.lt_or_le (Lib.indexByte sp c) 0 with h' | h'
  · have h0 := Lib.indexByte_ge sp c
    have h1 : Lib.indexByte sp c = -1 := by omega
    obtain ⟨k, hk⟩ := List.getElem?_of_mem h
    exact absurd hk (Lib.indexByte_none h1 k)
  · exact Int.eq_ofNat_of_zero_le h'
theorem special_out (sp : List UInt8) (c : UInt8) (h : c ∉ sp) : Lib.indexByte sp c = -1 :=
  indexByte_not sp c fun _ hk => h (List.mem_of_getElem? hk)

theorem no_ranges (lo : Nat) (w : World) : RangesIn lo w (.slice none 0 0) [] :=
  ⟨none, 0, rfl, by simp, by simp, fun i hi => absurd hi (by simp)⟩
end Go.Proofs.Ytfkgicakiapmaaa
