/-
  DERIVED. GIVEN WITH THE SEED: THE CARDS: each row of YtelbnmfdeibdaaaDoorRows.lean that lists a variable, with what it lists TIED to the program's text (the seventh form; the later family's looks); each row that meets fmt, with fmt's text TOLD by the authors' own Lean function (tested against real Go, not proved from fmt's source: count such statements apart). THE CARD IS WHAT COUNTS. Prove the row's statement (the work); the ties are given (YtelbnmfdeibdaaaDoorTie.lean); close each card by the builder's one call (the guide's Derived/Test/ToyasCard.lean, 'card_holds'). Laid BY PROGRAM, IN A SANDBOX (cutbox-door.mjs). By AI agents, Wed Nov 11 2026. No macro, syntax, notation, axiom, sorry.
-/
import Derived.Test.YtelbnmfdeibdaaaDoorRows
import GoSem.ClaimSeven
namespace Go.Proofs.YtelbnmfdeibdaaaDoor
namespace Rows

/-- THE TIED CARD OF 'massiflaw07.HashNumbers'. -/
def hashNumbersCard : Claim7 := { stood := { row := hashNumbersRow, standIns := [], harness := (true, "89ad01c99c3c4c9e4de6bf78240a24fcb346cdffd0cc41ae8d0d7126fe1d6523"), looks := false }, kinds := [], alts := [], laidByText := true, laidKinds := [.data], laidTests := true, laidLooks := .later }
def HashNumbersCardSaid : Prop := Claim7.holds Tryd.pinned (.plain (OpenSpec.ofChange hashNumbersSpec)) hashNumbersCard

/-- THE TIED CARD OF 'massiflaw07.HashBags'. -/
def hashBagsCard : Claim7 := { stood := { row := hashBagsRow, standIns := [], harness := (true, "89ad01c99c3c4c9e4de6bf78240a24fcb346cdffd0cc41ae8d0d7126fe1d6523"), looks := false }, kinds := [], alts := [], laidByText := true, laidKinds := [.data], laidTests := true, laidLooks := .later }
def HashBagsCardSaid : Prop := Claim7.holds Tryd.pinned (.plain (OpenSpec.ofChange hashBagsSpec)) hashBagsCard

/-- THE TIED CARD OF 'massiflaw07.HashBegins'. -/
def hashBeginsCard : Claim7 := { stood := { row := hashBeginsRow, standIns := [], harness := (true, "89ad01c99c3c4c9e4de6bf78240a24fcb346cdffd0cc41ae8d0d7126fe1d6523"), looks := false }, kinds := [], alts := [], laidByText := true, laidKinds := [.data, .data, .data], laidTests := true, laidLooks := .later }
def HashBeginsCardSaid : Prop := Claim7.holds Tryd.pinned (.plain (OpenSpec.ofChange hashBeginsSpec)) hashBeginsCard

/-- THE TIED CARD OF 'massiflaw07.HashAsks'. -/
def hashAsksCard : Claim7 := { stood := { row := hashAsksRow, standIns := [], harness := (true, "89ad01c99c3c4c9e4de6bf78240a24fcb346cdffd0cc41ae8d0d7126fe1d6523"), looks := false }, kinds := [], alts := [], laidByText := true, laidKinds := [.data, .data, .data], laidTests := true, laidLooks := .later }
def HashAsksCardSaid : Prop := Claim7.holds Tryd.pinned (.plain (OpenSpec.ofChange hashAsksSpec)) hashAsksCard

/-- THE SECOND FORM's CARD OF 'massiflaw07.HashNumbers'. -/
def hashNumbersUptoCard : Claim7 := { stood := { row := hashNumbersUptoRow, standIns := [], harness := (true, "89ad01c99c3c4c9e4de6bf78240a24fcb346cdffd0cc41ae8d0d7126fe1d6523"), looks := false }, kinds := [], alts := [], laidByText := true, laidKinds := [.data], laidTests := true, laidLooks := .later }
def HashNumbersUptoCardSaid : Prop := Claim7.holds Tryd.pinned (.plain (OpenSpec.upto hashNumbersSpec)) hashNumbersUptoCard

/-- THE SECOND FORM's CARD OF 'massiflaw07.HashBags'. -/
def hashBagsUptoCard : Claim7 := { stood := { row := hashBagsUptoRow, standIns := [], harness := (true, "89ad01c99c3c4c9e4de6bf78240a24fcb346cdffd0cc41ae8d0d7126fe1d6523"), looks := false }, kinds := [], alts := [], laidByText := true, laidKinds := [.data], laidTests := true, laidLooks := .later }
def HashBagsUptoCardSaid : Prop := Claim7.holds Tryd.pinned (.plain (OpenSpec.upto hashBagsSpec)) hashBagsUptoCard

/-- THE SECOND FORM's CARD OF 'massiflaw07.HashBegins'. -/
def hashBeginsUptoCard : Claim7 := { stood := { row := hashBeginsUptoRow, standIns := [], harness := (true, "89ad01c99c3c4c9e4de6bf78240a24fcb346cdffd0cc41ae8d0d7126fe1d6523"), looks := false }, kinds := [], alts := [], laidByText := true, laidKinds := [.data, .data, .data], laidTests := true, laidLooks := .later }
def HashBeginsUptoCardSaid : Prop := Claim7.holds Tryd.pinned (.plain (OpenSpec.upto hashBeginsSpec)) hashBeginsUptoCard

/-- THE SECOND FORM's CARD OF 'massiflaw07.HashAsks'. -/
def hashAsksUptoCard : Claim7 := { stood := { row := hashAsksUptoRow, standIns := [], harness := (true, "89ad01c99c3c4c9e4de6bf78240a24fcb346cdffd0cc41ae8d0d7126fe1d6523"), looks := false }, kinds := [], alts := [], laidByText := true, laidKinds := [.data, .data, .data], laidTests := true, laidLooks := .later }
def HashAsksUptoCardSaid : Prop := Claim7.holds Tryd.pinned (.plain (OpenSpec.upto hashAsksSpec)) hashAsksUptoCard
end Rows
end Go.Proofs.YtelbnmfdeibdaaaDoor
