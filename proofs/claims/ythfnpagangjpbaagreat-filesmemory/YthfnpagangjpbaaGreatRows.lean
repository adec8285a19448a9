/-
  No cell of these rows narrows 'for every input' (looked for: loops, veiled, ifaces, maps, wideKeys, modest, calm, conditions, laid).
  DERIVED. THE GIVEN ROWS OF THIS SEAT. 6 by the template 'for every input the law returns true; each argument reads behind the call as it read before'; 0 by the template 'total and deterministic' (their statements: YthfnpagangjpbaaGreatTotals.lean).
  GIVEN WITH THE SEED: the statements are not yours to turn. If you find one false, say at which input.
  Laid BY PROGRAM, IN A SANDBOX (cutbox-rows.mjs): the forced cells as the released guide's own fill.sh prints them over the translation 787c028646967d63… (all of the seat's roots in one cut). By AI agents, Wed Nov 11 2026. No macro, syntax, notation, axiom, sorry.
-/
import Derived.Test.YthfnpagangjpbaaGreatChecked
import GoSem.Claim
import GoSem.ClaimJoined
import GoSem.ClaimMapViews
import Derived.JoinedTies
import Derived.KernelRfl
namespace Go.Proofs.YthfnpagangjpbaaGreat
/- THE CELL 'sum', in the pinned program and in every row, IS THE sha256 OF THE DUMP (.gsa) THAT YthfnpagangjpbaaGreatProg.lean LOADS. Nothing in Lean hashes anything: it is a label: what it is worth is what the hold of that sum in a sandbox is worth. -/
noncomputable def Tryz.pinned : Pinned := { name := "ythfnpagangjpbaagreat", sum := "787c028646967d6313cb385f745da586f856f8ff60a15219b6c206b619548c78", checked := Tryz.checked }
namespace Rows
def none {H : Type} : Left H := { results := [], args := [] }

/-- 'massiflaw19.FilesMemory': WHATEVER THE INPUT: true; the input reads as it did. -/
def filesMemorySpec : ChangeSpec := { name := "filesMemory", fn := fun _ => fun
  | [d1, d2, d3] => { results := [.lit (.bool true)], args := [d1, d2, d3] }
  | _ => none }
def filesMemoryRow : OpenClaim := { program := "ythfnpagangjpbaagreat", sum := "787c028646967d6313cb385f745da586f856f8ff60a15219b6c206b619548c78", func := "massif/massiflaw19.FilesMemory", spec := "filesMemory", inPlace := ["internal/abi.NoEscape", "internal/bytealg.MakeNoZero"], unfollowed := true, recurses := true, apart := false }
def FilesMemorySaid : Prop := filesMemoryRow.holds Tryz.pinned (OpenSpec.ofChange filesMemorySpec)

/-- ITS FALSE NEIGHBOUR: 'it returns false'. Refute it at one input. -/
def filesMemoryWrong : ChangeSpec := { name := "filesMemory", fn := fun _ => fun
  | [d1, d2, d3] => { results := [.lit (.bool false)], args := [d1, d2, d3] }
  | _ => none }
def FilesMemoryWrongFalsely : Prop := filesMemoryRow.holds Tryz.pinned (OpenSpec.ofChange filesMemoryWrong)

/-- 'massiflaw19.FilesRefused': WHATEVER THE INPUT: true; the input reads as it did. -/
def filesRefusedSpec : ChangeSpec := { name := "filesRefused", fn := fun _ => fun
  | [d1, d2, d3] => { results := [.lit (.bool true)], args := [d1, d2, d3] }
  | _ => none }
def filesRefusedRow : OpenClaim := { program := "ythfnpagangjpbaagreat", sum := "787c028646967d6313cb385f745da586f856f8ff60a15219b6c206b619548c78", func := "massif/massiflaw19.FilesRefused", spec := "filesRefused", inPlace := ["internal/abi.NoEscape", "internal/bytealg.MakeNoZero"], unfollowed := true, recurses := true, apart := false }
def FilesRefusedSaid : Prop := filesRefusedRow.holds Tryz.pinned (OpenSpec.ofChange filesRefusedSpec)

/-- ITS FALSE NEIGHBOUR: 'it returns false'. Refute it at one input. -/
def filesRefusedWrong : ChangeSpec := { name := "filesRefused", fn := fun _ => fun
  | [d1, d2, d3] => { results := [.lit (.bool false)], args := [d1, d2, d3] }
  | _ => none }
def FilesRefusedWrongFalsely : Prop := filesRefusedRow.holds Tryz.pinned (OpenSpec.ofChange filesRefusedWrong)

/-- 'massiflaw19.FilesList': WHATEVER THE INPUT: true; the input reads as it did. -/
def filesListSpec : ChangeSpec := { name := "filesList", fn := fun _ => fun
  | [d1, d2] => { results := [.lit (.bool true)], args := [d1, d2] }
  | _ => none }
def filesListRow : OpenClaim := { program := "ythfnpagangjpbaagreat", sum := "787c028646967d6313cb385f745da586f856f8ff60a15219b6c206b619548c78", func := "massif/massiflaw19.FilesList", spec := "filesList", inPlace := ["internal/abi.NoEscape", "internal/bytealg.MakeNoZero"], unfollowed := true, recurses := true, apart := false }
def FilesListSaid : Prop := filesListRow.holds Tryz.pinned (OpenSpec.ofChange filesListSpec)

/-- ITS FALSE NEIGHBOUR: 'it returns false'. Refute it at one input. -/
def filesListWrong : ChangeSpec := { name := "filesList", fn := fun _ => fun
  | [d1, d2] => { results := [.lit (.bool false)], args := [d1, d2] }
  | _ => none }
def FilesListWrongFalsely : Prop := filesListRow.holds Tryz.pinned (OpenSpec.ofChange filesListWrong)

/-- 'massiflaw19.FilesTwice': WHATEVER THE INPUT: true; the input reads as it did. -/
def filesTwiceSpec : ChangeSpec := { name := "filesTwice", fn := fun _ => fun
  | [d1, d2, d3] => { results := [.lit (.bool true)], args := [d1, d2, d3] }
  | _ => none }
def filesTwiceRow : OpenClaim := { program := "ythfnpagangjpbaagreat", sum := "787c028646967d6313cb385f745da586f856f8ff60a15219b6c206b619548c78", func := "massif/massiflaw19.FilesTwice", spec := "filesTwice", inPlace := ["internal/abi.NoEscape", "internal/bytealg.MakeNoZero"], unfollowed := true, recurses := true, apart := false }
def FilesTwiceSaid : Prop := filesTwiceRow.holds Tryz.pinned (OpenSpec.ofChange filesTwiceSpec)

/-- ITS FALSE NEIGHBOUR: 'it returns false'. Refute it at one input. -/
def filesTwiceWrong : ChangeSpec := { name := "filesTwice", fn := fun _ => fun
  | [d1, d2, d3] => { results := [.lit (.bool false)], args := [d1, d2, d3] }
  | _ => none }
def FilesTwiceWrongFalsely : Prop := filesTwiceRow.holds Tryz.pinned (OpenSpec.ofChange filesTwiceWrong)

/-- 'massiflaw19.FilesTurned': WHATEVER THE INPUT: true; the input reads as it did. -/
def filesTurnedSpec : ChangeSpec := { name := "filesTurned", fn := fun _ => fun
  | [d1, d2, d3] => { results := [.lit (.bool true)], args := [d1, d2, d3] }
  | _ => none }
def filesTurnedRow : OpenClaim := { program := "ythfnpagangjpbaagreat", sum := "787c028646967d6313cb385f745da586f856f8ff60a15219b6c206b619548c78", func := "massif/massiflaw19.FilesTurned", spec := "filesTurned", inPlace := ["internal/abi.NoEscape", "internal/bytealg.MakeNoZero"], unfollowed := true, recurses := true, apart := false }
def FilesTurnedSaid : Prop := filesTurnedRow.holds Tryz.pinned (OpenSpec.ofChange filesTurnedSpec)

/-- ITS FALSE NEIGHBOUR: 'it returns false'. Refute it at one input. -/
def filesTurnedWrong : ChangeSpec := { name := "filesTurned", fn := fun _ => fun
  | [d1, d2, d3] => { results := [.lit (.bool false)], args := [d1, d2, d3] }
  | _ => none }
def FilesTurnedWrongFalsely : Prop := filesTurnedRow.holds Tryz.pinned (OpenSpec.ofChange filesTurnedWrong)

/-- 'massiflaw19.FilesStorms': WHATEVER THE INPUT: true; the input reads as it did. -/
def filesStormsSpec : ChangeSpec := { name := "filesStorms", fn := fun _ => fun
  | [d1, d2, d3] => { results := [.lit (.bool true)], args := [d1, d2, d3] }
  | _ => none }
def filesStormsRow : OpenClaim := { program := "ythfnpagangjpbaagreat", sum := "787c028646967d6313cb385f745da586f856f8ff60a15219b6c206b619548c78", func := "massif/massiflaw19.FilesStorms", spec := "filesStorms", inPlace := ["internal/abi.NoEscape", "internal/bytealg.MakeNoZero"], unfollowed := true, recurses := true, apart := false }
def FilesStormsSaid : Prop := filesStormsRow.holds Tryz.pinned (OpenSpec.ofChange filesStormsSpec)

/-- ITS FALSE NEIGHBOUR: 'it returns false'. Refute it at one input. -/
def filesStormsWrong : ChangeSpec := { name := "filesStorms", fn := fun _ => fun
  | [d1, d2, d3] => { results := [.lit (.bool false)], args := [d1, d2, d3] }
  | _ => none }
def FilesStormsWrongFalsely : Prop := filesStormsRow.holds Tryz.pinned (OpenSpec.ofChange filesStormsWrong)

/- THE SECOND FORM. 'bulk': how many values and letters a reading holds, each counted each time it is reached (what is shared counts as often as it is met; a slice's spare places count too). A statement '..UptoSaid' is the law's where the arguments, and the package variables that the reading takes, are together of bulk at most 1048576: NARROWER than '..Said'. Prove '..Said' where nothing that the law and all that it calls make is longer than what came in: it says more and counts as full. Else prove '..UptoSaid'. A law counts once. -/
mutual
def uptoBulk {H : Type} : DataW H → Nat
  | .lit (.string bytes) => bytes.length + 1
  | .lit _ => 1
  | .nil => 1
  | .ptr d => uptoBulk d + 1
  | .slice elems spare => uptoBulkAll elems + uptoBulkAll spare + 1
  | .agg parts => uptoBulkAll parts + 1
  | .iface _ d => uptoBulk d + 1
  | .map entries => uptoBulkEntries entries + 1
  | .held _ => 1
def uptoBulkAll {H : Type} : List (DataW H) → Nat
  | [] => 0
  | d :: r => uptoBulk d + uptoBulkAll r
def uptoBulkEntries {H : Type} : List (Lit × DataW H) → Nat
  | [] => 0
  | x :: r => uptoBulkEntry x + uptoBulkEntries r
def uptoBulkEntry {H : Type} : Lit × DataW H → Nat
  | (.string bytes, d) => bytes.length + uptoBulk d + 1
  | (_, d) => uptoBulk d + 1
 end
def uptoSmall : (H : Type) → List (DataW H) → Bool := fun _ ds => decide (uptoBulkAll ds ≤ 1048576)
def OpenSpec.upto (s : _root_.Go.ChangeSpec) : _root_.Go.OpenSpec := { _root_.Go.OpenSpec.ofChange s with cond := some uptoSmall }

/-- 'massiflaw19.FilesMemory', WHERE WHAT IT READS IS OF BULK AT MOST 1048576: true; the input reads as it did. -/
def filesMemoryUptoRow : OpenClaim := { program := "ythfnpagangjpbaagreat", sum := "787c028646967d6313cb385f745da586f856f8ff60a15219b6c206b619548c78", func := "massif/massiflaw19.FilesMemory", spec := "filesMemory", inPlace := ["internal/abi.NoEscape", "internal/bytealg.MakeNoZero"], unfollowed := true, recurses := true, apart := false, narrowed := true }
def FilesMemoryUptoSaid : Prop := filesMemoryUptoRow.holds Tryz.pinned (OpenSpec.upto filesMemorySpec)

/-- 'massiflaw19.FilesRefused', WHERE WHAT IT READS IS OF BULK AT MOST 1048576: true; the input reads as it did. -/
def filesRefusedUptoRow : OpenClaim := { program := "ythfnpagangjpbaagreat", sum := "787c028646967d6313cb385f745da586f856f8ff60a15219b6c206b619548c78", func := "massif/massiflaw19.FilesRefused", spec := "filesRefused", inPlace := ["internal/abi.NoEscape", "internal/bytealg.MakeNoZero"], unfollowed := true, recurses := true, apart := false, narrowed := true }
def FilesRefusedUptoSaid : Prop := filesRefusedUptoRow.holds Tryz.pinned (OpenSpec.upto filesRefusedSpec)

/-- 'massiflaw19.FilesList', WHERE WHAT IT READS IS OF BULK AT MOST 1048576: true; the input reads as it did. -/
def filesListUptoRow : OpenClaim := { program := "ythfnpagangjpbaagreat", sum := "787c028646967d6313cb385f745da586f856f8ff60a15219b6c206b619548c78", func := "massif/massiflaw19.FilesList", spec := "filesList", inPlace := ["internal/abi.NoEscape", "internal/bytealg.MakeNoZero"], unfollowed := true, recurses := true, apart := false, narrowed := true }
def FilesListUptoSaid : Prop := filesListUptoRow.holds Tryz.pinned (OpenSpec.upto filesListSpec)

/-- 'massiflaw19.FilesTwice', WHERE WHAT IT READS IS OF BULK AT MOST 1048576: true; the input reads as it did. -/
def filesTwiceUptoRow : OpenClaim := { program := "ythfnpagangjpbaagreat", sum := "787c028646967d6313cb385f745da586f856f8ff60a15219b6c206b619548c78", func := "massif/massiflaw19.FilesTwice", spec := "filesTwice", inPlace := ["internal/abi.NoEscape", "internal/bytealg.MakeNoZero"], unfollowed := true, recurses := true, apart := false, narrowed := true }
def FilesTwiceUptoSaid : Prop := filesTwiceUptoRow.holds Tryz.pinned (OpenSpec.upto filesTwiceSpec)

/-- 'massiflaw19.FilesTurned', WHERE WHAT IT READS IS OF BULK AT MOST 1048576: true; the input reads as it did. -/
def filesTurnedUptoRow : OpenClaim := { program := "ythfnpagangjpbaagreat", sum := "787c028646967d6313cb385f745da586f856f8ff60a15219b6c206b619548c78", func := "massif/massiflaw19.FilesTurned", spec := "filesTurned", inPlace := ["internal/abi.NoEscape", "internal/bytealg.MakeNoZero"], unfollowed := true, recurses := true, apart := false, narrowed := true }
def FilesTurnedUptoSaid : Prop := filesTurnedUptoRow.holds Tryz.pinned (OpenSpec.upto filesTurnedSpec)

/-- 'massiflaw19.FilesStorms', WHERE WHAT IT READS IS OF BULK AT MOST 1048576: true; the input reads as it did. -/
def filesStormsUptoRow : OpenClaim := { program := "ythfnpagangjpbaagreat", sum := "787c028646967d6313cb385f745da586f856f8ff60a15219b6c206b619548c78", func := "massif/massiflaw19.FilesStorms", spec := "filesStorms", inPlace := ["internal/abi.NoEscape", "internal/bytealg.MakeNoZero"], unfollowed := true, recurses := true, apart := false, narrowed := true }
def FilesStormsUptoSaid : Prop := filesStormsUptoRow.holds Tryz.pinned (OpenSpec.upto filesStormsSpec)

end Rows
end Go.Proofs.YthfnpagangjpbaaGreat
