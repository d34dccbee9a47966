/-
  No cell of these rows narrows 'for every input' (looked for: loops, veiled, ifaces, maps, wideKeys, modest, calm, conditions, laid).
  DERIVED. THE GIVEN ROWS OF THIS SEAT. 6 by the template 'for every input the law returns true; each argument reads behind the call as it read before'; 0 by the template 'total and deterministic' (their statements: YtfihnmfbgdjkpaaTotals.lean).
  GIVEN WITH THE SEED: the statements are not yours to turn. If you find one false, say at which input.
  Laid BY PROGRAM, IN A SANDBOX (cutbox-rows.mjs): the forced cells as the released guide's own fill.sh prints them over the translation c13b6e8ba8076e17… (all of the seat's roots in one cut). By AI agents, Wed Nov 11 2026. No macro, syntax, notation, axiom, sorry.
-/
import Derived.Test.YtfihnmfbgdjkpaaChecked
import GoSem.Claim
import GoSem.ClaimJoined
import GoSem.ClaimMapViews
import Derived.JoinedTies
import Derived.KernelRfl
namespace Go.Proofs.Ytfihnmfbgdjkpaa
/- THE CELL 'sum', in the pinned program and in every row, IS THE sha256 OF THE DUMP (.gsa) THAT YtfihnmfbgdjkpaaProg.lean LOADS. Nothing in Lean hashes anything: it is a label: what it is worth is what the hold of that sum in a sandbox is worth. -/
noncomputable def Try.pinned : Pinned := { name := "ytfihnmfbgdjkpaa", sum := "c13b6e8ba8076e176903a0d6bc4ea40e1b8ac0ff74828e60df88d1f7f707a160", checked := Try.checked }
namespace Rows
def none {H : Type} : Left H := { results := [], args := [] }

/-- 'logtidelaw07.FilesystemCopies': WHATEVER THE INPUT: true; the input reads as it did. -/
def filesystemCopiesSpec : ChangeSpec := { name := "filesystemCopies", fn := fun _ => fun
  | [d1, d2, d3] => { results := [.lit (.bool true)], args := [d1, d2, d3] }
  | _ => none }
def filesystemCopiesRow : OpenClaim := { program := "ytfihnmfbgdjkpaa", sum := "c13b6e8ba8076e176903a0d6bc4ea40e1b8ac0ff74828e60df88d1f7f707a160", func := "logtide/logtidelaw07.FilesystemCopies", spec := "filesystemCopies", inPlace := ["internal/bytealg.abigen_runtime_cmpstring", "slices.overlaps[logtide/api.File]", "slices.overlaps[logtide/api.Name]"], unfollowed := true, recurses := true, apart := false }
def FilesystemCopiesSaid : Prop := filesystemCopiesRow.holds Try.pinned (OpenSpec.ofChange filesystemCopiesSpec)

/-- ITS FALSE NEIGHBOUR: 'it returns false'. Refute it at one input. -/
def filesystemCopiesWrong : ChangeSpec := { name := "filesystemCopies", fn := fun _ => fun
  | [d1, d2, d3] => { results := [.lit (.bool false)], args := [d1, d2, d3] }
  | _ => none }
def FilesystemCopiesWrongFalsely : Prop := filesystemCopiesRow.holds Try.pinned (OpenSpec.ofChange filesystemCopiesWrong)

/-- 'logtidelaw07.FilesystemRenames': WHATEVER THE INPUT: true; the input reads as it did. -/
def filesystemRenamesSpec : ChangeSpec := { name := "filesystemRenames", fn := fun _ => fun
  | [d1, d2] => { results := [.lit (.bool true)], args := [d1, d2] }
  | _ => none }
def filesystemRenamesRow : OpenClaim := { program := "ytfihnmfbgdjkpaa", sum := "c13b6e8ba8076e176903a0d6bc4ea40e1b8ac0ff74828e60df88d1f7f707a160", func := "logtide/logtidelaw07.FilesystemRenames", spec := "filesystemRenames", inPlace := ["internal/bytealg.abigen_runtime_cmpstring", "slices.overlaps[logtide/api.File]", "slices.overlaps[logtide/api.Name]"], unfollowed := true, recurses := true, apart := false }
def FilesystemRenamesSaid : Prop := filesystemRenamesRow.holds Try.pinned (OpenSpec.ofChange filesystemRenamesSpec)

/-- ITS FALSE NEIGHBOUR: 'it returns false'. Refute it at one input. -/
def filesystemRenamesWrong : ChangeSpec := { name := "filesystemRenames", fn := fun _ => fun
  | [d1, d2] => { results := [.lit (.bool false)], args := [d1, d2] }
  | _ => none }
def FilesystemRenamesWrongFalsely : Prop := filesystemRenamesRow.holds Try.pinned (OpenSpec.ofChange filesystemRenamesWrong)

/-- 'logtidelaw08.FingerprintNumbers': WHATEVER THE INPUT: true; the input reads as it did. -/
def fingerprintNumbersSpec : ChangeSpec := { name := "fingerprintNumbers", fn := fun _ => fun
  | [d1, d2, d3] => { results := [.lit (.bool true)], args := [d1, d2, d3] }
  | _ => none }
def fingerprintNumbersRow : OpenClaim := { program := "ytfihnmfbgdjkpaa", sum := "c13b6e8ba8076e176903a0d6bc4ea40e1b8ac0ff74828e60df88d1f7f707a160", func := "logtide/logtidelaw08.FingerprintNumbers", spec := "fingerprintNumbers", apart := false }
def FingerprintNumbersSaid : Prop := fingerprintNumbersRow.holds Try.pinned (OpenSpec.ofChange fingerprintNumbersSpec)

/-- ITS FALSE NEIGHBOUR: 'it returns false'. Refute it at one input. -/
def fingerprintNumbersWrong : ChangeSpec := { name := "fingerprintNumbers", fn := fun _ => fun
  | [d1, d2, d3] => { results := [.lit (.bool false)], args := [d1, d2, d3] }
  | _ => none }
def FingerprintNumbersWrongFalsely : Prop := fingerprintNumbersRow.holds Try.pinned (OpenSpec.ofChange fingerprintNumbersWrong)

/-- 'logtidelaw08.FingerprintScans': WHATEVER THE INPUT: true; the input reads as it did. -/
def fingerprintScansSpec : ChangeSpec := { name := "fingerprintScans", fn := fun _ => fun
  | [d1, d2, d3, d4] => { results := [.lit (.bool true)], args := [d1, d2, d3, d4] }
  | _ => none }
def fingerprintScansRow : OpenClaim := { program := "ytfihnmfbgdjkpaa", sum := "c13b6e8ba8076e176903a0d6bc4ea40e1b8ac0ff74828e60df88d1f7f707a160", func := "logtide/logtidelaw08.FingerprintScans", spec := "fingerprintScans", unfollowed := true, recurses := true, apart := false }
def FingerprintScansSaid : Prop := fingerprintScansRow.holds Try.pinned (OpenSpec.ofChange fingerprintScansSpec)

/-- ITS FALSE NEIGHBOUR: 'it returns false'. Refute it at one input. -/
def fingerprintScansWrong : ChangeSpec := { name := "fingerprintScans", fn := fun _ => fun
  | [d1, d2, d3, d4] => { results := [.lit (.bool false)], args := [d1, d2, d3, d4] }
  | _ => none }
def FingerprintScansWrongFalsely : Prop := fingerprintScansRow.holds Try.pinned (OpenSpec.ofChange fingerprintScansWrong)

/-- 'logtidelaw08.FingerprintStays': WHATEVER THE INPUT: true; the input reads as it did. -/
def fingerprintStaysSpec : ChangeSpec := { name := "fingerprintStays", fn := fun _ => fun
  | [d1, d2, d3] => { results := [.lit (.bool true)], args := [d1, d2, d3] }
  | _ => none }
def fingerprintStaysRow : OpenClaim := { program := "ytfihnmfbgdjkpaa", sum := "c13b6e8ba8076e176903a0d6bc4ea40e1b8ac0ff74828e60df88d1f7f707a160", func := "logtide/logtidelaw08.FingerprintStays", spec := "fingerprintStays", inPlace := ["internal/bytealg.abigen_runtime_cmpstring", "slices.overlaps[logtide/api.File]", "slices.overlaps[logtide/api.Name]"], unfollowed := true, recurses := true, apart := false }
def FingerprintStaysSaid : Prop := fingerprintStaysRow.holds Try.pinned (OpenSpec.ofChange fingerprintStaysSpec)

/-- ITS FALSE NEIGHBOUR: 'it returns false'. Refute it at one input. -/
def fingerprintStaysWrong : ChangeSpec := { name := "fingerprintStays", fn := fun _ => fun
  | [d1, d2, d3] => { results := [.lit (.bool false)], args := [d1, d2, d3] }
  | _ => none }
def FingerprintStaysWrongFalsely : Prop := fingerprintStaysRow.holds Try.pinned (OpenSpec.ofChange fingerprintStaysWrong)

/-- 'logtidelaw08.FingerprintPremise': WHATEVER THE INPUT: true; the input reads as it did. -/
def fingerprintPremiseSpec : ChangeSpec := { name := "fingerprintPremise", fn := fun _ => fun
  | [d1, d2, d3] => { results := [.lit (.bool true)], args := [d1, d2, d3] }
  | _ => none }
def fingerprintPremiseRow : OpenClaim := { program := "ytfihnmfbgdjkpaa", sum := "c13b6e8ba8076e176903a0d6bc4ea40e1b8ac0ff74828e60df88d1f7f707a160", func := "logtide/logtidelaw08.FingerprintPremise", spec := "fingerprintPremise", apart := false }
def FingerprintPremiseSaid : Prop := fingerprintPremiseRow.holds Try.pinned (OpenSpec.ofChange fingerprintPremiseSpec)

/-- ITS FALSE NEIGHBOUR: 'it returns false'. Refute it at one input. -/
def fingerprintPremiseWrong : ChangeSpec := { name := "fingerprintPremise", fn := fun _ => fun
  | [d1, d2, d3] => { results := [.lit (.bool false)], args := [d1, d2, d3] }
  | _ => none }
def FingerprintPremiseWrongFalsely : Prop := fingerprintPremiseRow.holds Try.pinned (OpenSpec.ofChange fingerprintPremiseWrong)

/- THE SECOND FORM. 'bulk': how many values and letters a reading holds, each counted each time it is reached (what is shared counts as often as it is met; a slice's spare places count too). A statement '..UptoSaid' is the law's where the arguments, and the package variables that the reading takes, are together of bulk at most 1048576: NARROWER than '..Said'. Prove '..Said' where nothing that the law and all that it calls make is longer than what came in: it says more and counts as full. Else prove '..UptoSaid'. A law counts once. -/
mutual
def uptoBulk {H : Type} : DataW H → Nat
  | .lit (.string bytes) => bytes.length + 1
  | .lit _ => 1
  | .nil => 1
  | .ptr d => uptoBulk d + 1
  | .slice elems spare => uptoBulkAll elems + uptoBulkAll spare + 1
  | .agg parts => uptoBulkAll parts + 1
  | .iface _ d => uptoBulk d + 1
  | .map entries => uptoBulkEntries entries + 1
  | .held _ => 1
def uptoBulkAll {H : Type} : List (DataW H) → Nat
  | [] => 0
  | d :: r => uptoBulk d + uptoBulkAll r
def uptoBulkEntries {H : Type} : List (Lit × DataW H) → Nat
  | [] => 0
  | x :: r => uptoBulkEntry x + uptoBulkEntries r
def uptoBulkEntry {H : Type} : Lit × DataW H → Nat
  | (.string bytes, d) => bytes.length + uptoBulk d + 1
  | (_, d) => uptoBulk d + 1
 end
def uptoSmall : (H : Type) → List (DataW H) → Bool := fun _ ds => decide (uptoBulkAll ds ≤ 1048576)
def OpenSpec.upto (s : _root_.Go.ChangeSpec) : _root_.Go.OpenSpec := { _root_.Go.OpenSpec.ofChange s with cond := some uptoSmall }

/-- 'logtidelaw07.FilesystemCopies', WHERE WHAT IT READS IS OF BULK AT MOST 1048576: true; the input reads as it did. -/
def filesystemCopiesUptoRow : OpenClaim := { program := "ytfihnmfbgdjkpaa", sum := "c13b6e8ba8076e176903a0d6bc4ea40e1b8ac0ff74828e60df88d1f7f707a160", func := "logtide/logtidelaw07.FilesystemCopies", spec := "filesystemCopies", inPlace := ["internal/bytealg.abigen_runtime_cmpstring", "slices.overlaps[logtide/api.File]", "slices.overlaps[logtide/api.Name]"], unfollowed := true, recurses := true, apart := false, narrowed := true }
def FilesystemCopiesUptoSaid : Prop := filesystemCopiesUptoRow.holds Try.pinned (OpenSpec.upto filesystemCopiesSpec)

/-- 'logtidelaw07.FilesystemRenames', WHERE WHAT IT READS IS OF BULK AT MOST 1048576: true; the input reads as it did. -/
def filesystemRenamesUptoRow : OpenClaim := { program := "ytfihnmfbgdjkpaa", sum := "c13b6e8ba8076e176903a0d6bc4ea40e1b8ac0ff74828e60df88d1f7f707a160", func := "logtide/logtidelaw07.FilesystemRenames", spec := "filesystemRenames", inPlace := ["internal/bytealg.abigen_runtime_cmpstring", "slices.overlaps[logtide/api.File]", "slices.overlaps[logtide/api.Name]"], unfollowed := true, recurses := true, apart := false, narrowed := true }
def FilesystemRenamesUptoSaid : Prop := filesystemRenamesUptoRow.holds Try.pinned (OpenSpec.upto filesystemRenamesSpec)

/-- 'logtidelaw08.FingerprintNumbers', WHERE WHAT IT READS IS OF BULK AT MOST 1048576: true; the input reads as it did. -/
def fingerprintNumbersUptoRow : OpenClaim := { program := "ytfihnmfbgdjkpaa", sum := "c13b6e8ba8076e176903a0d6bc4ea40e1b8ac0ff74828e60df88d1f7f707a160", func := "logtide/logtidelaw08.FingerprintNumbers", spec := "fingerprintNumbers", apart := false, narrowed := true }
def FingerprintNumbersUptoSaid : Prop := fingerprintNumbersUptoRow.holds Try.pinned (OpenSpec.upto fingerprintNumbersSpec)

/-- 'logtidelaw08.FingerprintScans', WHERE WHAT IT READS IS OF BULK AT MOST 1048576: true; the input reads as it did. -/
def fingerprintScansUptoRow : OpenClaim := { program := "ytfihnmfbgdjkpaa", sum := "c13b6e8ba8076e176903a0d6bc4ea40e1b8ac0ff74828e60df88d1f7f707a160", func := "logtide/logtidelaw08.FingerprintScans", spec := "fingerprintScans", unfollowed := true, recurses := true, apart := false, narrowed := true }
def FingerprintScansUptoSaid : Prop := fingerprintScansUptoRow.holds Try.pinned (OpenSpec.upto fingerprintScansSpec)

/-- 'logtidelaw08.FingerprintStays', WHERE WHAT IT READS IS OF BULK AT MOST 1048576: true; the input reads as it did. -/
def fingerprintStaysUptoRow : OpenClaim := { program := "ytfihnmfbgdjkpaa", sum := "c13b6e8ba8076e176903a0d6bc4ea40e1b8ac0ff74828e60df88d1f7f707a160", func := "logtide/logtidelaw08.FingerprintStays", spec := "fingerprintStays", inPlace := ["internal/bytealg.abigen_runtime_cmpstring", "slices.overlaps[logtide/api.File]", "slices.overlaps[logtide/api.Name]"], unfollowed := true, recurses := true, apart := false, narrowed := true }
def FingerprintStaysUptoSaid : Prop := fingerprintStaysUptoRow.holds Try.pinned (OpenSpec.upto fingerprintStaysSpec)

/-- 'logtidelaw08.FingerprintPremise', WHERE WHAT IT READS IS OF BULK AT MOST 1048576: true; the input reads as it did. -/
def fingerprintPremiseUptoRow : OpenClaim := { program := "ytfihnmfbgdjkpaa", sum := "c13b6e8ba8076e176903a0d6bc4ea40e1b8ac0ff74828e60df88d1f7f707a160", func := "logtide/logtidelaw08.FingerprintPremise", spec := "fingerprintPremise", apart := false, narrowed := true }
def FingerprintPremiseUptoSaid : Prop := fingerprintPremiseUptoRow.holds Try.pinned (OpenSpec.upto fingerprintPremiseSpec)

end Rows
end Go.Proofs.Ytfihnmfbgdjkpaa
