/-
  DERIVED. GIVEN WITH THE SEED: THE CARDS: each row of YtipcenbndhnnhaaGreatDoorRows.lean that lists a variable, with what it lists TIED to the program's text (the seventh form; the later family's looks); each row that meets fmt, with fmt's text TOLD by the authors' own Lean function (tested against real Go, not proved from fmt's source: count such statements apart). THE CARD IS WHAT COUNTS. Prove the row's statement (the work); the ties are given (YtipcenbndhnnhaaGreatDoorTie.lean); close each card by the builder's one call (the guide's Derived/Test/ToyasCard.lean, 'card_holds'). Laid BY PROGRAM, IN A SANDBOX (cutbox-door.mjs). By AI agents, Wed Nov 11 2026. No macro, syntax, notation, axiom, sorry.
-/
import Derived.Test.YtipcenbndhnnhaaGreatDoorRows
import GoSem.ClaimSeven
namespace Go.Proofs.YtipcenbndhnnhaaGreatDoor
namespace Rows

/-- THE TIED CARD OF 'massiflaw15.LightKinds'. -/
def lightKindsCard : Claim7 := { stood := { row := lightKindsRow, standIns := [], harness := (true, "1d26d2b11a1a0ff54bc9052dbf3327c26bab4c7d000833c103ca4d3720cc957c"), looks := false }, kinds := [], alts := [], laidByText := true, laidKinds := [.data, .data, .data], laidTests := true, laidLooks := .later }
def LightKindsCardSaid : Prop := Claim7.holds Tryz.pinned (.plain (OpenSpec.ofChange lightKindsSpec)) lightKindsCard

/-- THE TIED CARD OF 'massiflaw15.LightWhole'. -/
def lightWholeCard : Claim7 := { stood := { row := lightWholeRow, standIns := [], harness := (true, "1d26d2b11a1a0ff54bc9052dbf3327c26bab4c7d000833c103ca4d3720cc957c"), looks := false }, kinds := [], alts := [], laidByText := true, laidKinds := [.data, .data, .data], laidTests := true, laidLooks := .later }
def LightWholeCardSaid : Prop := Claim7.holds Tryz.pinned (.plain (OpenSpec.ofChange lightWholeSpec)) lightWholeCard

/-- THE TIED CARD OF 'massiflaw15.LightKin'. -/
def lightKinCard : Claim7 := { stood := { row := lightKinRow, standIns := [], harness := (true, "1d26d2b11a1a0ff54bc9052dbf3327c26bab4c7d000833c103ca4d3720cc957c"), looks := false }, kinds := [], alts := [], laidByText := true, laidKinds := [.data, .data, .data], laidTests := true, laidLooks := .later }
def LightKinCardSaid : Prop := Claim7.holds Tryz.pinned (.plain (OpenSpec.ofChange lightKinSpec)) lightKinCard

/-- THE TIED CARD OF 'massiflaw15.LightClaims'. -/
def lightClaimsCard : Claim7 := { stood := { row := lightClaimsRow, standIns := [], harness := (true, "1d26d2b11a1a0ff54bc9052dbf3327c26bab4c7d000833c103ca4d3720cc957c"), looks := false }, kinds := [], alts := [], laidByText := true, laidKinds := [.data, .data, .data], laidTests := true, laidLooks := .later }
def LightClaimsCardSaid : Prop := Claim7.holds Tryz.pinned (.plain (OpenSpec.ofChange lightClaimsSpec)) lightClaimsCard

/-- THE SECOND FORM's CARD OF 'massiflaw15.LightKinds'. -/
def lightKindsUptoCard : Claim7 := { stood := { row := lightKindsUptoRow, standIns := [], harness := (true, "1d26d2b11a1a0ff54bc9052dbf3327c26bab4c7d000833c103ca4d3720cc957c"), looks := false }, kinds := [], alts := [], laidByText := true, laidKinds := [.data, .data, .data], laidTests := true, laidLooks := .later }
def LightKindsUptoCardSaid : Prop := Claim7.holds Tryz.pinned (.plain (OpenSpec.upto lightKindsSpec)) lightKindsUptoCard

/-- THE SECOND FORM's CARD OF 'massiflaw15.LightWhole'. -/
def lightWholeUptoCard : Claim7 := { stood := { row := lightWholeUptoRow, standIns := [], harness := (true, "1d26d2b11a1a0ff54bc9052dbf3327c26bab4c7d000833c103ca4d3720cc957c"), looks := false }, kinds := [], alts := [], laidByText := true, laidKinds := [.data, .data, .data], laidTests := true, laidLooks := .later }
def LightWholeUptoCardSaid : Prop := Claim7.holds Tryz.pinned (.plain (OpenSpec.upto lightWholeSpec)) lightWholeUptoCard

/-- THE SECOND FORM's CARD OF 'massiflaw15.LightKin'. -/
def lightKinUptoCard : Claim7 := { stood := { row := lightKinUptoRow, standIns := [], harness := (true, "1d26d2b11a1a0ff54bc9052dbf3327c26bab4c7d000833c103ca4d3720cc957c"), looks := false }, kinds := [], alts := [], laidByText := true, laidKinds := [.data, .data, .data], laidTests := true, laidLooks := .later }
def LightKinUptoCardSaid : Prop := Claim7.holds Tryz.pinned (.plain (OpenSpec.upto lightKinSpec)) lightKinUptoCard

/-- THE SECOND FORM's CARD OF 'massiflaw15.LightClaims'. -/
def lightClaimsUptoCard : Claim7 := { stood := { row := lightClaimsUptoRow, standIns := [], harness := (true, "1d26d2b11a1a0ff54bc9052dbf3327c26bab4c7d000833c103ca4d3720cc957c"), looks := false }, kinds := [], alts := [], laidByText := true, laidKinds := [.data, .data, .data], laidTests := true, laidLooks := .later }
def LightClaimsUptoCardSaid : Prop := Claim7.holds Tryz.pinned (.plain (OpenSpec.upto lightClaimsSpec)) lightClaimsUptoCard
end Rows
end Go.Proofs.YtipcenbndhnnhaaGreatDoor
