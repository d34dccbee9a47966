/- The contract of strings.Repeat of the string "0", at most four times. The contracts of package ascii's Decimal and of its reference: both return the decimal digits of every int. The contract of package calendar's padded. The contract of the reference's padded. The contracts of the writing methods of a strings.Builder that has been written or grown already, with what they leave as it was. The contracts of a strings.Builder that a call made (fresh or used): copyCheck, WriteByte, WriteString, Len and String, with what they leave as it was. The contract of package calendar's Format. The sanity check of layer 5; Format at what it refuses. The contract of the reference's Format. -/
import Derived.Test.YtpbfgafkoodeoaaDoorShelf
import Derived.Test.YtpbfgafkoodeoaaDoorRvC
import Derived.Test.YtpbfgafkoodeoaaDoorRvA
import Derived.Deep.RegionWith
import Derived.Laws.IdiomStrings
import Derived.Lib.ItoaNum
import Derived.Lib.AppendIntMem
import Derived.ShutString
import Derived.Test.YtpbfgafkoodeoaaDoorProg
import Derived.WalkKit
import Derived.ProofKit
import Derived.Below
import Derived.Laws.AppendOwn
import Derived.Lib.Builder
import Derived.Lib.OthersKept
import Derived.Lib.Hide
import Derived.Outline
import Derived.Lib.AppendStr
import Derived.Lib.UnsafeStr
import Derived.Shelf.RegionOpenPlain
import Derived.Deep.RegionHeld3
import Derived.Test.YtpbfgafkoodeoaaDoorRvE
namespace Go.Proofs.YtpbfgafkoodeoaaDoor
open Go.RowKit

end Go.Proofs.YtpbfgafkoodeoaaDoor

namespace Go.Proofs.YtpbfgafkoodeoaaDoor
open Go.RowKit

theorem bextD {a b : ByteArray} (h : a.data.toList = b.data.toList) : a = b := by
  cases a; cases b; simp_all [Array.toList_inj]
abbrev Pow10 (w : World) : Prop := Lib.TabIs Tryd.prog w "internal/strconv.uint64pow10" .u64 Lib.pow10Tab

theorem str_snoc (L : List UInt8) (c : UInt8) : (ByteArray.mk L.toArray) ++ (ByteArray.mk #[c]) = ⟨(L ++ [c]).toArray⟩ := by
  apply bextD
  simp [ByteArray.data_append]
theorem str_cons (c : UInt8) (L : List UInt8) : (ByteArray.mk #[c]) ++ (ByteArray.mk L.toArray) = ⟨(c :: L).toArray⟩ := by
  apply bextD
  simp [ByteArray.data_append]
theorem bcell {W w1 : World} (hb : Below W.heap.size W w1) : ∀ b o, b < W.heap.size → w1.cell? ⟨b, o, none⟩ = W.cell? ⟨b, o, none⟩ := fun b o h => hb.cell (p := ⟨b, o, none⟩) h
theorem conv_one (c : Nat) (W : World) (g : Nat) (h : W.cell? ⟨g, 0, none⟩ = some (.int .u8 (c : Int))) (hc : c < 256) : (convert 22 9 (.slice (some ⟨g, 0, none⟩) 1 1)).run Tryd.prog W = .ok (.string ⟨#[UInt8.ofNat c]⟩) W :=
  run_convert_bytes_back W 22 9 5 ⟨g, 0, none⟩ 1 [UInt8.ofNat c] Tryd.underlying22 Tryd.underlying5 Tryd.underlying9 (fun j hj => by
    obtain rfl : j = 0 := by simpa using hj
    simp [Addr.add, h, Nat.mod_eq_of_lt hc])

theorem digits_len (k : Nat) : ∀ u, u < 10 ^ (k + 1) → (Lib.decDigits u).length ≤ k + 1 := by
  induction k with
  | zero => intro u hu; rw [Lib.decDigits_one (by omega)]; simp
  | succ k ih =>
    intro u hu
    by_cases h : u < 10
    · rw [Lib.decDigits_one h]; simp
    · rw [Lib.decDigits, dif_neg h, List.length_append, List.length_singleton]
      have := ih (u / 10) (by rw [Nat.pow_succ] at hu; omega)
      omega
theorem min_digits : Lib.itoa (-9223372036854775808) = [45, 57, 50, 50, 51, 51, 55, 50, 48, 51, 54, 56, 53, 52, 55, 55, 53, 56, 48, 56] := by
  show (if _ then _ else _) = _
  rw [if_pos (by decide)]
  simp [Lib.decDigits]

end Go.Proofs.YtpbfgafkoodeoaaDoor

namespace Go.Proofs.YtpbfgafkoodeoaaDoor
open Go.RowKit

/-- A number with at least n digits. -/
def padL (v n : Nat) : List UInt8 := List.replicate (n - (Lib.decDigits v).length) 48 ++ Lib.decDigits v
theorem pow_below {w W : World} (h : Pow10 w) (hb : Below w.heap.size w W) : Pow10 W := (Lib.tabBelow_of_tabIs h) W hb
theorem str_two (a b : List UInt8) : (ByteArray.mk a.toArray) ++ (ByteArray.mk b.toArray) = ⟨(a ++ b).toArray⟩ := by
  apply bextD
  simp [ByteArray.data_append]
theorem rt_str {a b : ByteArray} (h : a = b) : Ending.returned (.string a) = .returned (.string b) := by rw [h]

end Go.Proofs.YtpbfgafkoodeoaaDoor

namespace Go.Proofs.YtpbfgafkoodeoaaDoor
open Go.RowKit

def lenOf : Value → Nat
  | .string s => s.size
  | _ => 0
theorem sizeOf_list (l : List UInt8) : (ByteArray.mk l.toArray).size = l.length := by simp [ByteArray.size]
theorem zero_str (j : Nat) (L : List UInt8) : (ByteArray.mk #[48]) ++ (ByteArray.mk (List.replicate j 48 ++ L).toArray) = ⟨(List.replicate (j + 1) 48 ++ L).toArray⟩ := by
  have := str_two [48] (List.replicate j 48 ++ L)
  rw [show (ByteArray.mk #[48]) = ⟨[48].toArray⟩ from rfl, this, List.replicate_succ]; rfl

end Go.Proofs.YtpbfgafkoodeoaaDoor

namespace Go.Proofs.YtpbfgafkoodeoaaDoor
open Go.RowKit

def selfPtr (b : Nat) : Value := .pointer (some ⟨b, 0, none⟩)
theorem infoByte : (Tryd.prog.info? 5).map (fun i => (i.zero, i.size, i.bytes)) = some (some (.int .u8 0), 1, 1) := by kernel_rfl

end Go.Proofs.YtpbfgafkoodeoaaDoor

namespace Go.Proofs.YtpbfgafkoodeoaaDoor
open Go.RowKit

abbrev OthersB (b : Nat) (w w' : World) : Prop := Lib.OthersKept 5 (some b) w w'
theorem infoByteB : (Tryd.prog.info? 5).map (fun i => (i.zero, i.size, i.bytes)) = some (some (.int .u8 0), 1, 1) := by kernel_rfl

theorem byteCellsB_snoc (l : List UInt8) (c : UInt8) : Lib.byteCells (l ++ [c]) = Lib.byteCells l ++ [.int .u8 (c.toNat : Int)] := by simp [Lib.byteCells]
theorem byteCellsB_app (l m : List UInt8) : Lib.byteCells (l ++ m) = Lib.byteCells l ++ Lib.byteCells m := by simp [Lib.byteCells]
theorem cellsByteB : Tryd.prog.cellsOf 5 = 1 := by kernel_rfl
end Go.Proofs.YtpbfgafkoodeoaaDoor

namespace Go.Proofs.YtpbfgafkoodeoaaDoor
open Go.RowKit

theorem padL_len (v n : Nat) (hv : v ≤ 9999) (hn : n ≤ 4) : (padL v n).length ≤ 4 := by
  have hl := digits_len 3 v (by omega)
  unfold padL
  rw [List.length_append, List.length_replicate]; omega
theorem size_of (l : List UInt8) : (ByteArray.mk l.toArray).size = l.length := by simp [ByteArray.size]
/-- The date's text, the time's, the zone's. -/
def dayL (a b c : List UInt8) : List UInt8 := ((((a ++ [45]) ++ b) ++ [45]) ++ c) ++ [84]
def timeL (a b c d : List UInt8) : List UInt8 := (((((a ++ [58]) ++ b) ++ [58]) ++ c) ++ [46]) ++ d
def zoneP (sg : List UInt8) (a b : List UInt8) : List UInt8 := ((sg ++ a) ++ [58]) ++ b
def zoneL (z : Int) : List UInt8 :=
  if z = 0 then [90] else if 0 < z then zoneP [43] (padL (z / 60).toNat 2) (padL (z % 60).toNat 2) else zoneP [45] (padL ((-z) / 60).toNat 2) (padL ((-z) % 60).toNat 2)
def fmtL (y m d : Int) (p z : Int) : List UInt8 :=
  (dayL (padL y.toNat 4) (padL m.toNat 2) (padL d.toNat 2) ++ timeL (padL (p / 3600000 % 24).toNat 2) (padL (p / 60000 % 60).toNat 2) (padL (p / 1000 % 60).toNat 2) (padL (p % 1000).toNat 3)) ++ zoneL z

theorem rt_se {a b : List UInt8} {c : Int} (h : a = b) : Ending.returned (.tuple #[.string ⟨a.toArray⟩, .int .i64 c]) = .returned (.tuple #[.string ⟨b.toArray⟩, .int .i64 c]) := by rw [h]
def FmtOut (p z : Int) (w : World) (e : Ending) (w' : World) : Prop := ∃ y m d, e = .returned (.tuple #[.string ⟨(fmtL y m d p z).toArray⟩, .int .i64 0]) ∧ Cal.valid y m d ∧ Cal.num y m d = p / 86400000 - 719162 ∧ Below w.heap.size w w'


end Go.Proofs.YtpbfgafkoodeoaaDoor

namespace Go.Proofs.YtpbfgafkoodeoaaDoor
open Go.RowKit

def fErr (c : Int) (w : World) (e : Ending) (w' : World) : Prop := e = .returned (.tuple #[.string ⟨#[]⟩, .int .i64 c]) ∧ Below w.heap.size w w'
def exText : List UInt8 := [49, 57, 55, 48, 45, 48, 49, 45, 48, 49, 84, 48, 49, 58, 48, 48, 58, 48, 48, 46, 48, 48, 48, 43, 48, 49, 58, 48, 48]
theorem ex_fmt : fmtL 1970 1 1 (0 + 60 * 60000 + 62135596800000) 60 = exText := by
  simp [fmtL, dayL, timeL, zoneL, zoneP, padL, Lib.decDigits, exText]
theorem ex_days (w : World) (hT : DaysT w) :
    Calls Tryd.prog 28 #[.int .i64 2000, .int .i64 3, .int .i64 1] w fun e w' => e = .returned (.tuple #[.int .i64 11017, .bool true]) ∧ w = w' :=
  (days_yes 2000 3 1 (by unfold Cal.valid; decide) w hT).mono fun e w' ⟨he, hw⟩ => ⟨by rw [he, show Cal.num 2000 3 1 = 11017 by decide +kernel], hw⟩

end Go.Proofs.YtpbfgafkoodeoaaDoor

namespace Go.Proofs.YtpbfgafkoodeoaaDoor
open Go.RowKit

theorem str_zone (G sg A C : List UInt8) : Ending.returned (.tuple #[.string ((((ByteArray.mk G.toArray) ++ (ByteArray.mk sg.toArray)) ++ (ByteArray.mk A.toArray)) ++ (ByteArray.mk [58].toArray) ++ (ByteArray.mk C.toArray)), .int .i64 0]) = .returned (.tuple #[.string ⟨(G ++ zoneP sg A C).toArray⟩, .int .i64 0]) := by
  rw [str_two, str_two, str_two, str_two]
  simp [zoneP]

end Go.Proofs.YtpbfgafkoodeoaaDoor
