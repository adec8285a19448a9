/-
  DERIVED. GIVEN WITH THE SEED: THE CARDS: each row of YtdkcliblbaldhaaDoorRows.lean that lists a variable, with what it lists TIED to the program's text (the seventh form; the later family's looks); each row that meets fmt, with fmt's text TOLD by the authors' own Lean function (tested against real Go, not proved from fmt's source: count such statements apart). THE CARD IS WHAT COUNTS. Prove the row's statement (the work); the ties are given (YtdkcliblbaldhaaDoorTie.lean); close each card by the builder's one call (the guide's Derived/Test/ToyasCard.lean, 'card_holds'). Laid BY PROGRAM, IN A SANDBOX (cutbox-door.mjs). By AI agents, Wed Nov 11 2026. No macro, syntax, notation, axiom, sorry.
-/
import Derived.Test.YtdkcliblbaldhaaDoorRows
import GoSem.ClaimSeven
namespace Go.Proofs.YtdkcliblbaldhaaDoor
namespace Rows

/-- THE TIED CARD OF 'massiflaw13.KinComplete'. -/
def kinCompleteCard : Claim7 := { stood := { row := kinCompleteRow, standIns := [], harness := (true, "60598501a9baf5b65591ae2956245933f56296f812469dda6f203f4bb574d904"), looks := false }, kinds := [], alts := [], laidByText := true, laidKinds := [.data], laidTests := true, laidLooks := .later }
def KinCompleteCardSaid : Prop := Claim7.holds Tryd.pinned (.plain (OpenSpec.ofChange kinCompleteSpec)) kinCompleteCard

/-- THE TIED CARD OF 'massiflaw13.KinTurned'. -/
def kinTurnedCard : Claim7 := { stood := { row := kinTurnedRow, standIns := [], harness := (true, "60598501a9baf5b65591ae2956245933f56296f812469dda6f203f4bb574d904"), looks := false }, kinds := [], alts := [], laidByText := true, laidKinds := [.data], laidTests := true, laidLooks := .later }
def KinTurnedCardSaid : Prop := Claim7.holds Tryd.pinned (.plain (OpenSpec.ofChange kinTurnedSpec)) kinTurnedCard

/-- THE TIED CARD OF 'massiflaw13.KinFresh'. -/
def kinFreshCard : Claim7 := { stood := { row := kinFreshRow, standIns := [], harness := (true, "60598501a9baf5b65591ae2956245933f56296f812469dda6f203f4bb574d904"), looks := false }, kinds := [], alts := [], laidByText := true, laidKinds := [.data], laidTests := true, laidLooks := .later }
def KinFreshCardSaid : Prop := Claim7.holds Tryd.pinned (.plain (OpenSpec.ofChange kinFreshSpec)) kinFreshCard

/-- THE TIED CARD OF 'massiflaw13.KinRoots'. -/
def kinRootsCard : Claim7 := { stood := { row := kinRootsRow, standIns := [], harness := (true, "60598501a9baf5b65591ae2956245933f56296f812469dda6f203f4bb574d904"), looks := false }, kinds := [], alts := [], laidByText := true, laidKinds := [.data, .data, .data], laidTests := true, laidLooks := .later }
def KinRootsCardSaid : Prop := Claim7.holds Tryd.pinned (.plain (OpenSpec.ofChange kinRootsSpec)) kinRootsCard

/-- THE TIED CARD OF 'massiflaw13.KinProves'. -/
def kinProvesCard : Claim7 := { stood := { row := kinProvesRow, standIns := [], harness := (true, "60598501a9baf5b65591ae2956245933f56296f812469dda6f203f4bb574d904"), looks := false }, kinds := [], alts := [], laidByText := true, laidKinds := [.data, .data, .data], laidTests := true, laidLooks := .later }
def KinProvesCardSaid : Prop := Claim7.holds Tryd.pinned (.plain (OpenSpec.ofChange kinProvesSpec)) kinProvesCard

/-- THE SECOND FORM's CARD OF 'massiflaw13.KinComplete'. -/
def kinCompleteUptoCard : Claim7 := { stood := { row := kinCompleteUptoRow, standIns := [], harness := (true, "60598501a9baf5b65591ae2956245933f56296f812469dda6f203f4bb574d904"), looks := false }, kinds := [], alts := [], laidByText := true, laidKinds := [.data], laidTests := true, laidLooks := .later }
def KinCompleteUptoCardSaid : Prop := Claim7.holds Tryd.pinned (.plain (OpenSpec.upto kinCompleteSpec)) kinCompleteUptoCard

/-- THE SECOND FORM's CARD OF 'massiflaw13.KinTurned'. -/
def kinTurnedUptoCard : Claim7 := { stood := { row := kinTurnedUptoRow, standIns := [], harness := (true, "60598501a9baf5b65591ae2956245933f56296f812469dda6f203f4bb574d904"), looks := false }, kinds := [], alts := [], laidByText := true, laidKinds := [.data], laidTests := true, laidLooks := .later }
def KinTurnedUptoCardSaid : Prop := Claim7.holds Tryd.pinned (.plain (OpenSpec.upto kinTurnedSpec)) kinTurnedUptoCard

/-- THE SECOND FORM's CARD OF 'massiflaw13.KinFresh'. -/
def kinFreshUptoCard : Claim7 := { stood := { row := kinFreshUptoRow, standIns := [], harness := (true, "60598501a9baf5b65591ae2956245933f56296f812469dda6f203f4bb574d904"), looks := false }, kinds := [], alts := [], laidByText := true, laidKinds := [.data], laidTests := true, laidLooks := .later }
def KinFreshUptoCardSaid : Prop := Claim7.holds Tryd.pinned (.plain (OpenSpec.upto kinFreshSpec)) kinFreshUptoCard

/-- THE SECOND FORM's CARD OF 'massiflaw13.KinRoots'. -/
def kinRootsUptoCard : Claim7 := { stood := { row := kinRootsUptoRow, standIns := [], harness := (true, "60598501a9baf5b65591ae2956245933f56296f812469dda6f203f4bb574d904"), looks := false }, kinds := [], alts := [], laidByText := true, laidKinds := [.data, .data, .data], laidTests := true, laidLooks := .later }
def KinRootsUptoCardSaid : Prop := Claim7.holds Tryd.pinned (.plain (OpenSpec.upto kinRootsSpec)) kinRootsUptoCard

/-- THE SECOND FORM's CARD OF 'massiflaw13.KinProves'. -/
def kinProvesUptoCard : Claim7 := { stood := { row := kinProvesUptoRow, standIns := [], harness := (true, "60598501a9baf5b65591ae2956245933f56296f812469dda6f203f4bb574d904"), looks := false }, kinds := [], alts := [], laidByText := true, laidKinds := [.data, .data, .data], laidTests := true, laidLooks := .later }
def KinProvesUptoCardSaid : Prop := Claim7.holds Tryd.pinned (.plain (OpenSpec.upto kinProvesSpec)) kinProvesUptoCard
end Rows
end Go.Proofs.YtdkcliblbaldhaaDoor
