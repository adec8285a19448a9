/-
  DERIVED. GIVEN WITH THE SEED: THE CARDS: each row of YtgmnolepaidiiaaDoorRows.lean that lists a variable, with what it lists TIED to the program's text (the seventh form; the later family's looks); each row that meets fmt, with fmt's text TOLD by the authors' own Lean function (tested against real Go, not proved from fmt's source: count such statements apart). THE CARD IS WHAT COUNTS. Prove the row's statement (the work); the ties are given (YtgmnolepaidiiaaDoorTie.lean); close each card by the builder's one call (the guide's Derived/Test/ToyasCard.lean, 'card_holds'). Laid BY PROGRAM, IN A SANDBOX (cutbox-door.mjs). By AI agents, Wed Nov 11 2026. No macro, syntax, notation, axiom, sorry.
-/
import Derived.Test.YtgmnolepaidiiaaDoorRows
import GoSem.ClaimSeven
namespace Go.Proofs.YtgmnolepaidiiaaDoor
namespace Rows

/-- THE TIED CARD OF 'massiflaw11.PathRoots'. -/
def pathRootsCard : Claim7 := { stood := { row := pathRootsRow, standIns := [], harness := (true, "d0f0ed2730ec8499e6cc75a6932379aed0844f38df2bde71a68c6d3d7d058a45"), looks := false }, kinds := [], alts := [], laidByText := true, laidKinds := [.data, .data, .data], laidTests := true, laidLooks := .later }
def PathRootsCardSaid : Prop := Claim7.holds Tryd.pinned (.plain (OpenSpec.ofChange pathRootsSpec)) pathRootsCard

/-- THE TIED CARD OF 'massiflaw11.PathComplete'. -/
def pathCompleteCard : Claim7 := { stood := { row := pathCompleteRow, standIns := [], harness := (true, "d0f0ed2730ec8499e6cc75a6932379aed0844f38df2bde71a68c6d3d7d058a45"), looks := false }, kinds := [], alts := [], laidByText := true, laidKinds := [.data, .data, .data], laidTests := true, laidLooks := .later }
def PathCompleteCardSaid : Prop := Claim7.holds Tryd.pinned (.plain (OpenSpec.ofChange pathCompleteSpec)) pathCompleteCard

/-- THE TIED CARD OF 'massiflaw11.PathProves'. -/
def pathProvesCard : Claim7 := { stood := { row := pathProvesRow, standIns := [], harness := (true, "d0f0ed2730ec8499e6cc75a6932379aed0844f38df2bde71a68c6d3d7d058a45"), looks := false }, kinds := [], alts := [], laidByText := true, laidKinds := [.data, .data, .data], laidTests := true, laidLooks := .later }
def PathProvesCardSaid : Prop := Claim7.holds Tryd.pinned (.plain (OpenSpec.ofChange pathProvesSpec)) pathProvesCard

/-- THE TIED CARD OF 'massiflaw11.PathTurned'. -/
def pathTurnedCard : Claim7 := { stood := { row := pathTurnedRow, standIns := [], harness := (true, "d0f0ed2730ec8499e6cc75a6932379aed0844f38df2bde71a68c6d3d7d058a45"), looks := false }, kinds := [], alts := [], laidByText := true, laidKinds := [.data, .data, .data], laidTests := true, laidLooks := .later }
def PathTurnedCardSaid : Prop := Claim7.holds Tryd.pinned (.plain (OpenSpec.ofChange pathTurnedSpec)) pathTurnedCard

/-- THE SECOND FORM's CARD OF 'massiflaw11.PathRoots'. -/
def pathRootsUptoCard : Claim7 := { stood := { row := pathRootsUptoRow, standIns := [], harness := (true, "d0f0ed2730ec8499e6cc75a6932379aed0844f38df2bde71a68c6d3d7d058a45"), looks := false }, kinds := [], alts := [], laidByText := true, laidKinds := [.data, .data, .data], laidTests := true, laidLooks := .later }
def PathRootsUptoCardSaid : Prop := Claim7.holds Tryd.pinned (.plain (OpenSpec.upto pathRootsSpec)) pathRootsUptoCard

/-- THE SECOND FORM's CARD OF 'massiflaw11.PathComplete'. -/
def pathCompleteUptoCard : Claim7 := { stood := { row := pathCompleteUptoRow, standIns := [], harness := (true, "d0f0ed2730ec8499e6cc75a6932379aed0844f38df2bde71a68c6d3d7d058a45"), looks := false }, kinds := [], alts := [], laidByText := true, laidKinds := [.data, .data, .data], laidTests := true, laidLooks := .later }
def PathCompleteUptoCardSaid : Prop := Claim7.holds Tryd.pinned (.plain (OpenSpec.upto pathCompleteSpec)) pathCompleteUptoCard

/-- THE SECOND FORM's CARD OF 'massiflaw11.PathProves'. -/
def pathProvesUptoCard : Claim7 := { stood := { row := pathProvesUptoRow, standIns := [], harness := (true, "d0f0ed2730ec8499e6cc75a6932379aed0844f38df2bde71a68c6d3d7d058a45"), looks := false }, kinds := [], alts := [], laidByText := true, laidKinds := [.data, .data, .data], laidTests := true, laidLooks := .later }
def PathProvesUptoCardSaid : Prop := Claim7.holds Tryd.pinned (.plain (OpenSpec.upto pathProvesSpec)) pathProvesUptoCard

/-- THE SECOND FORM's CARD OF 'massiflaw11.PathTurned'. -/
def pathTurnedUptoCard : Claim7 := { stood := { row := pathTurnedUptoRow, standIns := [], harness := (true, "d0f0ed2730ec8499e6cc75a6932379aed0844f38df2bde71a68c6d3d7d058a45"), looks := false }, kinds := [], alts := [], laidByText := true, laidKinds := [.data, .data, .data], laidTests := true, laidLooks := .later }
def PathTurnedUptoCardSaid : Prop := Claim7.holds Tryd.pinned (.plain (OpenSpec.upto pathTurnedSpec)) pathTurnedUptoCard
end Rows
end Go.Proofs.YtgmnolepaidiiaaDoor
