/-
  DERIVED. GIVEN WITH THE SEED: THE CARDS: each row of YtdocjikpcbmcgaaGreatDoorRows.lean that lists a variable, with what it lists TIED to the program's text (the seventh form; the later family's looks); each row that meets fmt, with fmt's text TOLD by the authors' own Lean function (tested against real Go, not proved from fmt's source: count such statements apart). THE CARD IS WHAT COUNTS. Prove the row's statement (the work); the ties are given (YtdocjikpcbmcgaaGreatDoorTie.lean); close each card by the builder's one call (the guide's Derived/Test/ToyasCard.lean, 'card_holds'). Laid BY PROGRAM, IN A SANDBOX (cutbox-door.mjs). By AI agents, Wed Nov 11 2026. No macro, syntax, notation, axiom, sorry.
-/
import Derived.Test.YtdocjikpcbmcgaaGreatDoorRows
import GoSem.ClaimSeven
namespace Go.Proofs.YtdocjikpcbmcgaaGreatDoor
namespace Rows

/-- THE TIED CARD OF 'massiflaw16.ExtractSound'. -/
def extractSoundCard : Claim7 := { stood := { row := extractSoundRow, standIns := [], harness := (true, "52e37cbae641668027cf05703c926eb138ce186507d2b13c6fb865620a6006ee"), looks := true }, kinds := [], alts := [], laidByText := true, laidKinds := [.data, .data, .data], laidTests := true, laidLooks := .later }
def ExtractSoundCardSaid : Prop := Claim7.holds Tryz.pinned (.plain (OpenSpec.ofChange extractSoundSpec)) extractSoundCard

/-- THE TIED CARD OF 'massiflaw16.ExtractBegins'. -/
def extractBeginsCard : Claim7 := { stood := { row := extractBeginsRow, standIns := [], harness := (true, "52e37cbae641668027cf05703c926eb138ce186507d2b13c6fb865620a6006ee"), looks := true }, kinds := [], alts := [], laidByText := true, laidKinds := [.data, .data, .data], laidTests := true, laidLooks := .later }
def ExtractBeginsCardSaid : Prop := Claim7.holds Tryz.pinned (.plain (OpenSpec.ofChange extractBeginsSpec)) extractBeginsCard

/-- THE TIED CARD OF 'massiflaw16.ExtractKin'. -/
def extractKinCard : Claim7 := { stood := { row := extractKinRow, standIns := [], harness := (true, "52e37cbae641668027cf05703c926eb138ce186507d2b13c6fb865620a6006ee"), looks := true }, kinds := [], alts := [], laidByText := true, laidKinds := [.data, .data, .data], laidTests := true, laidLooks := .later }
def ExtractKinCardSaid : Prop := Claim7.holds Tryz.pinned (.plain (OpenSpec.ofChange extractKinSpec)) extractKinCard

/-- THE TIED CARD OF 'massiflaw16.ExtractClaims'. -/
def extractClaimsCard : Claim7 := { stood := { row := extractClaimsRow, standIns := [], harness := (true, "52e37cbae641668027cf05703c926eb138ce186507d2b13c6fb865620a6006ee"), looks := true }, kinds := [], alts := [], laidByText := true, laidKinds := [.data, .data, .data], laidTests := true, laidLooks := .later }
def ExtractClaimsCardSaid : Prop := Claim7.holds Tryz.pinned (.plain (OpenSpec.ofChange extractClaimsSpec)) extractClaimsCard

/-- THE SECOND FORM's CARD OF 'massiflaw16.ExtractSound'. -/
def extractSoundUptoCard : Claim7 := { stood := { row := extractSoundUptoRow, standIns := [], harness := (true, "52e37cbae641668027cf05703c926eb138ce186507d2b13c6fb865620a6006ee"), looks := true }, kinds := [], alts := [], laidByText := true, laidKinds := [.data, .data, .data], laidTests := true, laidLooks := .later }
def ExtractSoundUptoCardSaid : Prop := Claim7.holds Tryz.pinned (.plain (OpenSpec.upto extractSoundSpec)) extractSoundUptoCard

/-- THE SECOND FORM's CARD OF 'massiflaw16.ExtractBegins'. -/
def extractBeginsUptoCard : Claim7 := { stood := { row := extractBeginsUptoRow, standIns := [], harness := (true, "52e37cbae641668027cf05703c926eb138ce186507d2b13c6fb865620a6006ee"), looks := true }, kinds := [], alts := [], laidByText := true, laidKinds := [.data, .data, .data], laidTests := true, laidLooks := .later }
def ExtractBeginsUptoCardSaid : Prop := Claim7.holds Tryz.pinned (.plain (OpenSpec.upto extractBeginsSpec)) extractBeginsUptoCard

/-- THE SECOND FORM's CARD OF 'massiflaw16.ExtractKin'. -/
def extractKinUptoCard : Claim7 := { stood := { row := extractKinUptoRow, standIns := [], harness := (true, "52e37cbae641668027cf05703c926eb138ce186507d2b13c6fb865620a6006ee"), looks := true }, kinds := [], alts := [], laidByText := true, laidKinds := [.data, .data, .data], laidTests := true, laidLooks := .later }
def ExtractKinUptoCardSaid : Prop := Claim7.holds Tryz.pinned (.plain (OpenSpec.upto extractKinSpec)) extractKinUptoCard

/-- THE SECOND FORM's CARD OF 'massiflaw16.ExtractClaims'. -/
def extractClaimsUptoCard : Claim7 := { stood := { row := extractClaimsUptoRow, standIns := [], harness := (true, "52e37cbae641668027cf05703c926eb138ce186507d2b13c6fb865620a6006ee"), looks := true }, kinds := [], alts := [], laidByText := true, laidKinds := [.data, .data, .data], laidTests := true, laidLooks := .later }
def ExtractClaimsUptoCardSaid : Prop := Claim7.holds Tryz.pinned (.plain (OpenSpec.upto extractClaimsSpec)) extractClaimsUptoCard
end Rows
end Go.Proofs.YtdocjikpcbmcgaaGreatDoor
