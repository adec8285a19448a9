/-
  DERIVED. GIVEN WITH THE SEED: THE CARDS: each row of YtncndefggegicabDoorRows.lean that lists a variable, with what it lists TIED to the program's text (the seventh form; the later family's looks); each row that meets fmt, with fmt's text TOLD by the authors' own Lean function (tested against real Go, not proved from fmt's source: count such statements apart). THE CARD IS WHAT COUNTS. Prove the row's statement (the work); the ties are given (YtncndefggegicabDoorTie.lean); close each card by the builder's one call (the guide's Derived/Test/ToyasCard.lean, 'card_holds'). Laid BY PROGRAM, IN A SANDBOX (cutbox-door.mjs). By AI agents, Wed Nov 11 2026. No macro, syntax, notation, axiom, sorry.
-/
import Derived.Test.YtncndefggegicabDoorRows
import GoSem.ClaimSeven
namespace Go.Proofs.YtncndefggegicabDoor
namespace Rows

/-- THE TIED CARD OF 'massiflaw09.PeaksPlays'. -/
def peaksPlaysCard : Claim7 := { stood := { row := peaksPlaysRow, standIns := [], harness := (true, "1fd39234f7011ea9471345a6e1c1495cba614c7834484128f77da9bad0687a83"), looks := false }, kinds := [], alts := [], laidByText := true, laidKinds := [.data, .data, .data], laidTests := true, laidLooks := .later }
def PeaksPlaysCardSaid : Prop := Claim7.holds Tryd.pinned (.plain (OpenSpec.ofChange peaksPlaysSpec)) peaksPlaysCard

/-- THE SECOND FORM's CARD OF 'massiflaw09.PeaksPlays'. -/
def peaksPlaysUptoCard : Claim7 := { stood := { row := peaksPlaysUptoRow, standIns := [], harness := (true, "1fd39234f7011ea9471345a6e1c1495cba614c7834484128f77da9bad0687a83"), looks := false }, kinds := [], alts := [], laidByText := true, laidKinds := [.data, .data, .data], laidTests := true, laidLooks := .later }
def PeaksPlaysUptoCardSaid : Prop := Claim7.holds Tryd.pinned (.plain (OpenSpec.upto peaksPlaysSpec)) peaksPlaysUptoCard
end Rows
end Go.Proofs.YtncndefggegicabDoor
