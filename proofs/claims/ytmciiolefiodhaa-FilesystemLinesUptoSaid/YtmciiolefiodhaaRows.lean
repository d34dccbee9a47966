/-
  No cell of these rows narrows 'for every input' (looked for: loops, veiled, ifaces, maps, wideKeys, modest, calm, conditions, laid).
  DERIVED. THE GIVEN ROWS OF THIS SEAT. 4 by the template 'for every input the law returns true; each argument reads behind the call as it read before'; 0 by the template 'total and deterministic' (their statements: YtmciiolefiodhaaTotals.lean).
  GIVEN WITH THE SEED: the statements are not yours to turn. If you find one false, say at which input.
  Laid BY PROGRAM, IN A SANDBOX (cutbox-rows.mjs): the forced cells as the released guide's own fill.sh prints them over the translation 189232d40c78ee0f… (all of the seat's roots in one cut). By AI agents, Wed Nov 11 2026. No macro, syntax, notation, axiom, sorry.
-/
import Derived.Test.YtmciiolefiodhaaChecked
import GoSem.Claim
import GoSem.ClaimJoined
import GoSem.ClaimMapViews
import Derived.JoinedTies
import Derived.KernelRfl
namespace Go.Proofs.Ytmciiolefiodhaa
/- THE CELL 'sum', in the pinned program and in every row, IS THE sha256 OF THE DUMP (.gsa) THAT YtmciiolefiodhaaProg.lean LOADS. Nothing in Lean hashes anything: it is a label: what it is worth is what the hold of that sum in a sandbox is worth. -/
noncomputable def Try.pinned : Pinned := { name := "ytmciiolefiodhaa", sum := "189232d40c78ee0f803b89ff2b8fc7d3fcebfcb7c21ae3bee8c32b682f4ff5ba", checked := Try.checked }
namespace Rows
def none {H : Type} : Left H := { results := [], args := [] }

/-- 'logtidelaw07.FilesystemChecks': WHATEVER THE INPUT: true; the input reads as it did. -/
def filesystemChecksSpec : ChangeSpec := { name := "filesystemChecks", fn := fun _ => fun
  | [d1, d2, d3] => { results := [.lit (.bool true)], args := [d1, d2, d3] }
  | _ => none }
def filesystemChecksRow : OpenClaim := { program := "ytmciiolefiodhaa", sum := "189232d40c78ee0f803b89ff2b8fc7d3fcebfcb7c21ae3bee8c32b682f4ff5ba", func := "logtide/logtidelaw07.FilesystemChecks", spec := "filesystemChecks", inPlace := ["internal/bytealg.abigen_runtime_cmpstring", "slices.overlaps[logtide/api.File]", "slices.overlaps[logtide/api.Name]"], unfollowed := true, recurses := true, apart := false }
def FilesystemChecksSaid : Prop := filesystemChecksRow.holds Try.pinned (OpenSpec.ofChange filesystemChecksSpec)

/-- ITS FALSE NEIGHBOUR: 'it returns false'. Refute it at one input. -/
def filesystemChecksWrong : ChangeSpec := { name := "filesystemChecks", fn := fun _ => fun
  | [d1, d2, d3] => { results := [.lit (.bool false)], args := [d1, d2, d3] }
  | _ => none }
def FilesystemChecksWrongFalsely : Prop := filesystemChecksRow.holds Try.pinned (OpenSpec.ofChange filesystemChecksWrong)

/-- 'logtidelaw07.FilesystemLines': WHATEVER THE INPUT: true; the input reads as it did. -/
def filesystemLinesSpec : ChangeSpec := { name := "filesystemLines", fn := fun _ => fun
  | [d1, d2] => { results := [.lit (.bool true)], args := [d1, d2] }
  | _ => none }
def filesystemLinesRow : OpenClaim := { program := "ytmciiolefiodhaa", sum := "189232d40c78ee0f803b89ff2b8fc7d3fcebfcb7c21ae3bee8c32b682f4ff5ba", func := "logtide/logtidelaw07.FilesystemLines", spec := "filesystemLines", inPlace := ["internal/bytealg.abigen_runtime_cmpstring", "slices.overlaps[logtide/api.File]", "slices.overlaps[logtide/api.Name]"], unfollowed := true, recurses := true, apart := false }
def FilesystemLinesSaid : Prop := filesystemLinesRow.holds Try.pinned (OpenSpec.ofChange filesystemLinesSpec)

/-- ITS FALSE NEIGHBOUR: 'it returns false'. Refute it at one input. -/
def filesystemLinesWrong : ChangeSpec := { name := "filesystemLines", fn := fun _ => fun
  | [d1, d2] => { results := [.lit (.bool false)], args := [d1, d2] }
  | _ => none }
def FilesystemLinesWrongFalsely : Prop := filesystemLinesRow.holds Try.pinned (OpenSpec.ofChange filesystemLinesWrong)

/-- 'logtidelaw07.FilesystemCopies': WHATEVER THE INPUT: true; the input reads as it did. -/
def filesystemCopiesSpec : ChangeSpec := { name := "filesystemCopies", fn := fun _ => fun
  | [d1, d2, d3] => { results := [.lit (.bool true)], args := [d1, d2, d3] }
  | _ => none }
def filesystemCopiesRow : OpenClaim := { program := "ytmciiolefiodhaa", sum := "189232d40c78ee0f803b89ff2b8fc7d3fcebfcb7c21ae3bee8c32b682f4ff5ba", func := "logtide/logtidelaw07.FilesystemCopies", spec := "filesystemCopies", inPlace := ["internal/bytealg.abigen_runtime_cmpstring", "slices.overlaps[logtide/api.File]", "slices.overlaps[logtide/api.Name]"], unfollowed := true, recurses := true, apart := false }
def FilesystemCopiesSaid : Prop := filesystemCopiesRow.holds Try.pinned (OpenSpec.ofChange filesystemCopiesSpec)

/-- ITS FALSE NEIGHBOUR: 'it returns false'. Refute it at one input. -/
def filesystemCopiesWrong : ChangeSpec := { name := "filesystemCopies", fn := fun _ => fun
  | [d1, d2, d3] => { results := [.lit (.bool false)], args := [d1, d2, d3] }
  | _ => none }
def FilesystemCopiesWrongFalsely : Prop := filesystemCopiesRow.holds Try.pinned (OpenSpec.ofChange filesystemCopiesWrong)

/-- 'logtidelaw07.FilesystemRenames': WHATEVER THE INPUT: true; the input reads as it did. -/
def filesystemRenamesSpec : ChangeSpec := { name := "filesystemRenames", fn := fun _ => fun
  | [d1, d2] => { results := [.lit (.bool true)], args := [d1, d2] }
  | _ => none }
def filesystemRenamesRow : OpenClaim := { program := "ytmciiolefiodhaa", sum := "189232d40c78ee0f803b89ff2b8fc7d3fcebfcb7c21ae3bee8c32b682f4ff5ba", func := "logtide/logtidelaw07.FilesystemRenames", spec := "filesystemRenames", inPlace := ["internal/bytealg.abigen_runtime_cmpstring", "slices.overlaps[logtide/api.File]", "slices.overlaps[logtide/api.Name]"], unfollowed := true, recurses := true, apart := false }
def FilesystemRenamesSaid : Prop := filesystemRenamesRow.holds Try.pinned (OpenSpec.ofChange filesystemRenamesSpec)

/-- ITS FALSE NEIGHBOUR: 'it returns false'. Refute it at one input. -/
def filesystemRenamesWrong : ChangeSpec := { name := "filesystemRenames", fn := fun _ => fun
  | [d1, d2] => { results := [.lit (.bool false)], args := [d1, d2] }
  | _ => none }
def FilesystemRenamesWrongFalsely : Prop := filesystemRenamesRow.holds Try.pinned (OpenSpec.ofChange filesystemRenamesWrong)

/- THE SECOND FORM. 'bulk': how many values and letters a reading holds, each counted each time it is reached (what is shared counts as often as it is met; a slice's spare places count too). A statement '..UptoSaid' is the law's where the arguments, and the package variables that the reading takes, are together of bulk at most 1048576: NARROWER than '..Said'. Prove '..Said' where nothing that the law and all that it calls make is longer than what came in: it says more and counts as full. Else prove '..UptoSaid'. A law counts once. -/
mutual
def uptoBulk {H : Type} : DataW H → Nat
  | .lit (.string bytes) => bytes.length + 1
  | .lit _ => 1
  | .nil => 1
  | .ptr d => uptoBulk d + 1
  | .slice elems spare => uptoBulkAll elems + uptoBulkAll spare + 1
  | .agg parts => uptoBulkAll parts + 1
  | .iface _ d => uptoBulk d + 1
  | .map entries => uptoBulkEntries entries + 1
  | .held _ => 1
def uptoBulkAll {H : Type} : List (DataW H) → Nat
  | [] => 0
  | d :: r => uptoBulk d + uptoBulkAll r
def uptoBulkEntries {H : Type} : List (Lit × DataW H) → Nat
  | [] => 0
  | x :: r => uptoBulkEntry x + uptoBulkEntries r
def uptoBulkEntry {H : Type} : Lit × DataW H → Nat
  | (.string bytes, d) => bytes.length + uptoBulk d + 1
  | (_, d) => uptoBulk d + 1
 end
def uptoSmall : (H : Type) → List (DataW H) → Bool := fun _ ds => decide (uptoBulkAll ds ≤ 1048576)
def OpenSpec.upto (s : _root_.Go.ChangeSpec) : _root_.Go.OpenSpec := { _root_.Go.OpenSpec.ofChange s with cond := some uptoSmall }

/-- 'logtidelaw07.FilesystemChecks', WHERE WHAT IT READS IS OF BULK AT MOST 1048576: true; the input reads as it did. -/
def filesystemChecksUptoRow : OpenClaim := { program := "ytmciiolefiodhaa", sum := "189232d40c78ee0f803b89ff2b8fc7d3fcebfcb7c21ae3bee8c32b682f4ff5ba", func := "logtide/logtidelaw07.FilesystemChecks", spec := "filesystemChecks", inPlace := ["internal/bytealg.abigen_runtime_cmpstring", "slices.overlaps[logtide/api.File]", "slices.overlaps[logtide/api.Name]"], unfollowed := true, recurses := true, apart := false, narrowed := true }
def FilesystemChecksUptoSaid : Prop := filesystemChecksUptoRow.holds Try.pinned (OpenSpec.upto filesystemChecksSpec)

/-- 'logtidelaw07.FilesystemLines', WHERE WHAT IT READS IS OF BULK AT MOST 1048576: true; the input reads as it did. -/
def filesystemLinesUptoRow : OpenClaim := { program := "ytmciiolefiodhaa", sum := "189232d40c78ee0f803b89ff2b8fc7d3fcebfcb7c21ae3bee8c32b682f4ff5ba", func := "logtide/logtidelaw07.FilesystemLines", spec := "filesystemLines", inPlace := ["internal/bytealg.abigen_runtime_cmpstring", "slices.overlaps[logtide/api.File]", "slices.overlaps[logtide/api.Name]"], unfollowed := true, recurses := true, apart := false, narrowed := true }
def FilesystemLinesUptoSaid : Prop := filesystemLinesUptoRow.holds Try.pinned (OpenSpec.upto filesystemLinesSpec)

/-- 'logtidelaw07.FilesystemCopies', WHERE WHAT IT READS IS OF BULK AT MOST 1048576: true; the input reads as it did. -/
def filesystemCopiesUptoRow : OpenClaim := { program := "ytmciiolefiodhaa", sum := "189232d40c78ee0f803b89ff2b8fc7d3fcebfcb7c21ae3bee8c32b682f4ff5ba", func := "logtide/logtidelaw07.FilesystemCopies", spec := "filesystemCopies", inPlace := ["internal/bytealg.abigen_runtime_cmpstring", "slices.overlaps[logtide/api.File]", "slices.overlaps[logtide/api.Name]"], unfollowed := true, recurses := true, apart := false, narrowed := true }
def FilesystemCopiesUptoSaid : Prop := filesystemCopiesUptoRow.holds Try.pinned (OpenSpec.upto filesystemCopiesSpec)

/-- 'logtidelaw07.FilesystemRenames', WHERE WHAT IT READS IS OF BULK AT MOST 1048576: true; the input reads as it did. -/
def filesystemRenamesUptoRow : OpenClaim := { program := "ytmciiolefiodhaa", sum := "189232d40c78ee0f803b89ff2b8fc7d3fcebfcb7c21ae3bee8c32b682f4ff5ba", func := "logtide/logtidelaw07.FilesystemRenames", spec := "filesystemRenames", inPlace := ["internal/bytealg.abigen_runtime_cmpstring", "slices.overlaps[logtide/api.File]", "slices.overlaps[logtide/api.Name]"], unfollowed := true, recurses := true, apart := false, narrowed := true }
def FilesystemRenamesUptoSaid : Prop := filesystemRenamesUptoRow.holds Try.pinned (OpenSpec.upto filesystemRenamesSpec)

end Rows
end Go.Proofs.Ytmciiolefiodhaa
