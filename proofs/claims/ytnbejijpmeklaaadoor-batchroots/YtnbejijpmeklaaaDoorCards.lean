/-
  DERIVED. GIVEN WITH THE SEED: THE CARDS: each row of YtnbejijpmeklaaaDoorRows.lean that lists a variable, with what it lists TIED to the program's text (the seventh form; the later family's looks); each row that meets fmt, with fmt's text TOLD by the authors' own Lean function (tested against real Go, not proved from fmt's source: count such statements apart). THE CARD IS WHAT COUNTS. Prove the row's statement (the work); the ties are given (YtnbejijpmeklaaaDoorTie.lean); close each card by the builder's one call (the guide's Derived/Test/ToyasCard.lean, 'card_holds'). Laid BY PROGRAM, IN A SANDBOX (cutbox-door.mjs). By AI agents, Wed Nov 11 2026. No macro, syntax, notation, axiom, sorry.
-/
import Derived.Test.YtnbejijpmeklaaaDoorRows
import GoSem.ClaimSeven
namespace Go.Proofs.YtnbejijpmeklaaaDoor
namespace Rows

/-- THE TIED CARD OF 'massiflaw12.BatchWhole'. -/
def batchWholeCard : Claim7 := { stood := { row := batchWholeRow, standIns := [], harness := (true, "94d80226d51b04110bd60e517214354aa3b90daa0f963f4dced0599ca93eadd9"), looks := false }, kinds := [], alts := [], laidByText := true, laidKinds := [.data, .data, .data], laidTests := true, laidLooks := .later }
def BatchWholeCardSaid : Prop := Claim7.holds Tryd.pinned (.plain (OpenSpec.ofChange batchWholeSpec)) batchWholeCard

/-- THE TIED CARD OF 'massiflaw12.BatchLeast'. -/
def batchLeastCard : Claim7 := { stood := { row := batchLeastRow, standIns := [], harness := (true, "94d80226d51b04110bd60e517214354aa3b90daa0f963f4dced0599ca93eadd9"), looks := false }, kinds := [], alts := [], laidByText := true, laidKinds := [.data, .data, .data], laidTests := true, laidLooks := .later }
def BatchLeastCardSaid : Prop := Claim7.holds Tryd.pinned (.plain (OpenSpec.ofChange batchLeastSpec)) batchLeastCard

/-- THE TIED CARD OF 'massiflaw12.BatchProves'. -/
def batchProvesCard : Claim7 := { stood := { row := batchProvesRow, standIns := [], harness := (true, "94d80226d51b04110bd60e517214354aa3b90daa0f963f4dced0599ca93eadd9"), looks := false }, kinds := [], alts := [], laidByText := true, laidKinds := [.data, .data, .data], laidTests := true, laidLooks := .later }
def BatchProvesCardSaid : Prop := Claim7.holds Tryd.pinned (.plain (OpenSpec.ofChange batchProvesSpec)) batchProvesCard

/-- THE TIED CARD OF 'massiflaw12.BatchFresh'. -/
def batchFreshCard : Claim7 := { stood := { row := batchFreshRow, standIns := [], harness := (true, "94d80226d51b04110bd60e517214354aa3b90daa0f963f4dced0599ca93eadd9"), looks := false }, kinds := [], alts := [], laidByText := true, laidKinds := [.data, .data, .data], laidTests := true, laidLooks := .later }
def BatchFreshCardSaid : Prop := Claim7.holds Tryd.pinned (.plain (OpenSpec.ofChange batchFreshSpec)) batchFreshCard

/-- THE TIED CARD OF 'massiflaw12.BatchRoots'. -/
def batchRootsCard : Claim7 := { stood := { row := batchRootsRow, standIns := [], harness := (true, "94d80226d51b04110bd60e517214354aa3b90daa0f963f4dced0599ca93eadd9"), looks := false }, kinds := [], alts := [], laidByText := true, laidKinds := [.data, .data, .data], laidTests := true, laidLooks := .later }
def BatchRootsCardSaid : Prop := Claim7.holds Tryd.pinned (.plain (OpenSpec.ofChange batchRootsSpec)) batchRootsCard

/-- THE SECOND FORM's CARD OF 'massiflaw12.BatchWhole'. -/
def batchWholeUptoCard : Claim7 := { stood := { row := batchWholeUptoRow, standIns := [], harness := (true, "94d80226d51b04110bd60e517214354aa3b90daa0f963f4dced0599ca93eadd9"), looks := false }, kinds := [], alts := [], laidByText := true, laidKinds := [.data, .data, .data], laidTests := true, laidLooks := .later }
def BatchWholeUptoCardSaid : Prop := Claim7.holds Tryd.pinned (.plain (OpenSpec.upto batchWholeSpec)) batchWholeUptoCard

/-- THE SECOND FORM's CARD OF 'massiflaw12.BatchLeast'. -/
def batchLeastUptoCard : Claim7 := { stood := { row := batchLeastUptoRow, standIns := [], harness := (true, "94d80226d51b04110bd60e517214354aa3b90daa0f963f4dced0599ca93eadd9"), looks := false }, kinds := [], alts := [], laidByText := true, laidKinds := [.data, .data, .data], laidTests := true, laidLooks := .later }
def BatchLeastUptoCardSaid : Prop := Claim7.holds Tryd.pinned (.plain (OpenSpec.upto batchLeastSpec)) batchLeastUptoCard

/-- THE SECOND FORM's CARD OF 'massiflaw12.BatchProves'. -/
def batchProvesUptoCard : Claim7 := { stood := { row := batchProvesUptoRow, standIns := [], harness := (true, "94d80226d51b04110bd60e517214354aa3b90daa0f963f4dced0599ca93eadd9"), looks := false }, kinds := [], alts := [], laidByText := true, laidKinds := [.data, .data, .data], laidTests := true, laidLooks := .later }
def BatchProvesUptoCardSaid : Prop := Claim7.holds Tryd.pinned (.plain (OpenSpec.upto batchProvesSpec)) batchProvesUptoCard

/-- THE SECOND FORM's CARD OF 'massiflaw12.BatchFresh'. -/
def batchFreshUptoCard : Claim7 := { stood := { row := batchFreshUptoRow, standIns := [], harness := (true, "94d80226d51b04110bd60e517214354aa3b90daa0f963f4dced0599ca93eadd9"), looks := false }, kinds := [], alts := [], laidByText := true, laidKinds := [.data, .data, .data], laidTests := true, laidLooks := .later }
def BatchFreshUptoCardSaid : Prop := Claim7.holds Tryd.pinned (.plain (OpenSpec.upto batchFreshSpec)) batchFreshUptoCard

/-- THE SECOND FORM's CARD OF 'massiflaw12.BatchRoots'. -/
def batchRootsUptoCard : Claim7 := { stood := { row := batchRootsUptoRow, standIns := [], harness := (true, "94d80226d51b04110bd60e517214354aa3b90daa0f963f4dced0599ca93eadd9"), looks := false }, kinds := [], alts := [], laidByText := true, laidKinds := [.data, .data, .data], laidTests := true, laidLooks := .later }
def BatchRootsUptoCardSaid : Prop := Claim7.holds Tryd.pinned (.plain (OpenSpec.upto batchRootsSpec)) batchRootsUptoCard
end Rows
end Go.Proofs.YtnbejijpmeklaaaDoor
