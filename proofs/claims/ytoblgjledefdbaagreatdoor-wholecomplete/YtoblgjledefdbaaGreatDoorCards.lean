/-
  DERIVED. GIVEN WITH THE SEED: THE CARDS: each row of YtoblgjledefdbaaGreatDoorRows.lean that lists a variable, with what it lists TIED to the program's text (the seventh form; the later family's looks); each row that meets fmt, with fmt's text TOLD by the authors' own Lean function (tested against real Go, not proved from fmt's source: count such statements apart). THE CARD IS WHAT COUNTS. Prove the row's statement (the work); the ties are given (YtoblgjledefdbaaGreatDoorTie.lean); close each card by the builder's one call (the guide's Derived/Test/ToyasCard.lean, 'card_holds'). Laid BY PROGRAM, IN A SANDBOX (cutbox-door.mjs). By AI agents, Wed Nov 11 2026. No macro, syntax, notation, axiom, sorry.
-/
import Derived.Test.YtoblgjledefdbaaGreatDoorRows
import GoSem.ClaimSeven
namespace Go.Proofs.YtoblgjledefdbaaGreatDoor
namespace Rows

/-- THE TIED CARD OF 'massiflaw20.LedgerFalls'. -/
def ledgerFallsCard : Claim7 := { stood := { row := ledgerFallsRow, standIns := [], harness := (true, "9584fd1ebed3af577401f64481ae2a3487f4e115875908ba20ce6c394c583a72"), looks := false }, kinds := [], alts := [], laidByText := true, laidKinds := [.data], laidTests := true, laidLooks := .later }
def LedgerFallsCardSaid : Prop := Claim7.holds Tryz.pinned (.plain (OpenSpec.ofChange ledgerFallsSpec)) ledgerFallsCard

/-- THE TIED CARD OF 'massiflaw20.LedgerLame'. -/
def ledgerLameCard : Claim7 := { stood := { row := ledgerLameRow, standIns := [], harness := (true, "9584fd1ebed3af577401f64481ae2a3487f4e115875908ba20ce6c394c583a72"), looks := false }, kinds := [], alts := [], laidByText := true, laidKinds := [.data, .data, .data], laidTests := true, laidLooks := .later }
def LedgerLameCardSaid : Prop := Claim7.holds Tryz.pinned (.plain (OpenSpec.ofChange ledgerLameSpec)) ledgerLameCard

/-- THE TIED CARD OF 'massiflaw20.LedgerModel'. -/
def ledgerModelCard : Claim7 := { stood := { row := ledgerModelRow, standIns := [], harness := (true, "9584fd1ebed3af577401f64481ae2a3487f4e115875908ba20ce6c394c583a72"), looks := false }, kinds := [], alts := [], laidByText := true, laidKinds := [.data, .data, .data], laidTests := true, laidLooks := .later }
def LedgerModelCardSaid : Prop := Claim7.holds Tryz.pinned (.plain (OpenSpec.ofChange ledgerModelSpec)) ledgerModelCard

/-- THE TIED CARD OF 'massiflaw20.LedgerPlays'. -/
def ledgerPlaysCard : Claim7 := { stood := { row := ledgerPlaysRow, standIns := [], harness := (true, "9584fd1ebed3af577401f64481ae2a3487f4e115875908ba20ce6c394c583a72"), looks := false }, kinds := [], alts := [], laidByText := true, laidKinds := [.data, .data, .data], laidTests := true, laidLooks := .later }
def LedgerPlaysCardSaid : Prop := Claim7.holds Tryz.pinned (.plain (OpenSpec.ofChange ledgerPlaysSpec)) ledgerPlaysCard

/-- THE TIED CARD OF 'massiftop.WholeTold'. -/
def wholeToldCard : Claim7 := { stood := { row := wholeToldRow, standIns := [], harness := (true, "9584fd1ebed3af577401f64481ae2a3487f4e115875908ba20ce6c394c583a72"), looks := false }, kinds := [], alts := [], laidByText := true, laidKinds := [.data, .data, .data], laidTests := true, laidLooks := .later }
def WholeToldCardSaid : Prop := Claim7.holds Tryz.pinned (.plain (OpenSpec.ofChange wholeToldSpec)) wholeToldCard

/-- THE TIED CARD OF 'massiftop.WholeComplete'. -/
def wholeCompleteCard : Claim7 := { stood := { row := wholeCompleteRow, standIns := [], harness := (true, "9584fd1ebed3af577401f64481ae2a3487f4e115875908ba20ce6c394c583a72"), looks := false }, kinds := [], alts := [], laidByText := true, laidKinds := [.data, .data, .data], laidTests := true, laidLooks := .later }
def WholeCompleteCardSaid : Prop := Claim7.holds Tryz.pinned (.plain (OpenSpec.ofChange wholeCompleteSpec)) wholeCompleteCard

/-- THE SECOND FORM's CARD OF 'massiflaw20.LedgerFalls'. -/
def ledgerFallsUptoCard : Claim7 := { stood := { row := ledgerFallsUptoRow, standIns := [], harness := (true, "9584fd1ebed3af577401f64481ae2a3487f4e115875908ba20ce6c394c583a72"), looks := false }, kinds := [], alts := [], laidByText := true, laidKinds := [.data], laidTests := true, laidLooks := .later }
def LedgerFallsUptoCardSaid : Prop := Claim7.holds Tryz.pinned (.plain (OpenSpec.upto ledgerFallsSpec)) ledgerFallsUptoCard

/-- THE SECOND FORM's CARD OF 'massiflaw20.LedgerLame'. -/
def ledgerLameUptoCard : Claim7 := { stood := { row := ledgerLameUptoRow, standIns := [], harness := (true, "9584fd1ebed3af577401f64481ae2a3487f4e115875908ba20ce6c394c583a72"), looks := false }, kinds := [], alts := [], laidByText := true, laidKinds := [.data, .data, .data], laidTests := true, laidLooks := .later }
def LedgerLameUptoCardSaid : Prop := Claim7.holds Tryz.pinned (.plain (OpenSpec.upto ledgerLameSpec)) ledgerLameUptoCard

/-- THE SECOND FORM's CARD OF 'massiflaw20.LedgerModel'. -/
def ledgerModelUptoCard : Claim7 := { stood := { row := ledgerModelUptoRow, standIns := [], harness := (true, "9584fd1ebed3af577401f64481ae2a3487f4e115875908ba20ce6c394c583a72"), looks := false }, kinds := [], alts := [], laidByText := true, laidKinds := [.data, .data, .data], laidTests := true, laidLooks := .later }
def LedgerModelUptoCardSaid : Prop := Claim7.holds Tryz.pinned (.plain (OpenSpec.upto ledgerModelSpec)) ledgerModelUptoCard

/-- THE SECOND FORM's CARD OF 'massiflaw20.LedgerPlays'. -/
def ledgerPlaysUptoCard : Claim7 := { stood := { row := ledgerPlaysUptoRow, standIns := [], harness := (true, "9584fd1ebed3af577401f64481ae2a3487f4e115875908ba20ce6c394c583a72"), looks := false }, kinds := [], alts := [], laidByText := true, laidKinds := [.data, .data, .data], laidTests := true, laidLooks := .later }
def LedgerPlaysUptoCardSaid : Prop := Claim7.holds Tryz.pinned (.plain (OpenSpec.upto ledgerPlaysSpec)) ledgerPlaysUptoCard

/-- THE SECOND FORM's CARD OF 'massiftop.WholeTold'. -/
def wholeToldUptoCard : Claim7 := { stood := { row := wholeToldUptoRow, standIns := [], harness := (true, "9584fd1ebed3af577401f64481ae2a3487f4e115875908ba20ce6c394c583a72"), looks := false }, kinds := [], alts := [], laidByText := true, laidKinds := [.data, .data, .data], laidTests := true, laidLooks := .later }
def WholeToldUptoCardSaid : Prop := Claim7.holds Tryz.pinned (.plain (OpenSpec.upto wholeToldSpec)) wholeToldUptoCard

/-- THE SECOND FORM's CARD OF 'massiftop.WholeComplete'. -/
def wholeCompleteUptoCard : Claim7 := { stood := { row := wholeCompleteUptoRow, standIns := [], harness := (true, "9584fd1ebed3af577401f64481ae2a3487f4e115875908ba20ce6c394c583a72"), looks := false }, kinds := [], alts := [], laidByText := true, laidKinds := [.data, .data, .data], laidTests := true, laidLooks := .later }
def WholeCompleteUptoCardSaid : Prop := Claim7.holds Tryz.pinned (.plain (OpenSpec.upto wholeCompleteSpec)) wholeCompleteUptoCard
end Rows
end Go.Proofs.YtoblgjledefdbaaGreatDoor
