/-
  DERIVED. GIVEN WITH THE SEED: THE CARDS: each row of YtabdobdopcfllaaDoorRows.lean that lists a variable, with what it lists TIED to the program's text (the seventh form; the later family's looks); each row that meets fmt, with fmt's text TOLD by the authors' own Lean function (tested against real Go, not proved from fmt's source: count such statements apart). THE CARD IS WHAT COUNTS. Prove the row's statement (the work); the ties are given (YtabdobdopcfllaaDoorTie.lean); close each card by the builder's one call (the guide's Derived/Test/ToyasCard.lean, 'card_holds'). Laid BY PROGRAM, IN A SANDBOX (cutbox-door.mjs). By AI agents, Wed Nov 11 2026. No macro, syntax, notation, axiom, sorry.
-/
import Derived.Test.YtabdobdopcfllaaDoorRows
import GoSem.ClaimSeven
namespace Go.Proofs.YtabdobdopcfllaaDoor
namespace Rows

/-- THE TIED CARD OF 'massiflaw10.ForestLong'. -/
def forestLongCard : Claim7 := { stood := { row := forestLongRow, standIns := [], harness := (true, "d9fff7d1850831242408fde19a635e82ab730bf813a1f6f98dfcf5056a8c932f"), looks := false }, kinds := [], alts := [], laidByText := true, laidKinds := [.data], laidTests := true, laidLooks := .later }
def ForestLongCardSaid : Prop := Claim7.holds Tryd.pinned (.plain (OpenSpec.ofChange forestLongSpec)) forestLongCard

/-- THE TIED CARD OF 'massiflaw10.ForestRow'. -/
def forestRowCard : Claim7 := { stood := { row := forestRowRow, standIns := [], harness := (true, "d9fff7d1850831242408fde19a635e82ab730bf813a1f6f98dfcf5056a8c932f"), looks := false }, kinds := [], alts := [], laidByText := true, laidKinds := [.data], laidTests := true, laidLooks := .later }
def ForestRowCardSaid : Prop := Claim7.holds Tryd.pinned (.plain (OpenSpec.ofChange forestRowSpec)) forestRowCard

/-- THE TIED CARD OF 'massiflaw10.ForestFresh'. -/
def forestFreshCard : Claim7 := { stood := { row := forestFreshRow, standIns := [], harness := (true, "d9fff7d1850831242408fde19a635e82ab730bf813a1f6f98dfcf5056a8c932f"), looks := false }, kinds := [], alts := [], laidByText := true, laidKinds := [.data], laidTests := true, laidLooks := .later }
def ForestFreshCardSaid : Prop := Claim7.holds Tryd.pinned (.plain (OpenSpec.ofChange forestFreshSpec)) forestFreshCard

/-- THE TIED CARD OF 'massiflaw10.ForestPlain'. -/
def forestPlainCard : Claim7 := { stood := { row := forestPlainRow, standIns := [], harness := (true, "d9fff7d1850831242408fde19a635e82ab730bf813a1f6f98dfcf5056a8c932f"), looks := false }, kinds := [], alts := [], laidByText := true, laidKinds := [.data], laidTests := true, laidLooks := .later }
def ForestPlainCardSaid : Prop := Claim7.holds Tryd.pinned (.plain (OpenSpec.ofChange forestPlainSpec)) forestPlainCard

/-- THE TIED CARD OF 'massiflaw10.ForestScript'. -/
def forestScriptCard : Claim7 := { stood := { row := forestScriptRow, standIns := [], harness := (true, "d9fff7d1850831242408fde19a635e82ab730bf813a1f6f98dfcf5056a8c932f"), looks := false }, kinds := [], alts := [], laidByText := true, laidKinds := [.data, .data, .data], laidTests := true, laidLooks := .later }
def ForestScriptCardSaid : Prop := Claim7.holds Tryd.pinned (.plain (OpenSpec.ofChange forestScriptSpec)) forestScriptCard

/-- THE SECOND FORM's CARD OF 'massiflaw10.ForestLong'. -/
def forestLongUptoCard : Claim7 := { stood := { row := forestLongUptoRow, standIns := [], harness := (true, "d9fff7d1850831242408fde19a635e82ab730bf813a1f6f98dfcf5056a8c932f"), looks := false }, kinds := [], alts := [], laidByText := true, laidKinds := [.data], laidTests := true, laidLooks := .later }
def ForestLongUptoCardSaid : Prop := Claim7.holds Tryd.pinned (.plain (OpenSpec.upto forestLongSpec)) forestLongUptoCard

/-- THE SECOND FORM's CARD OF 'massiflaw10.ForestRow'. -/
def forestRowUptoCard : Claim7 := { stood := { row := forestRowUptoRow, standIns := [], harness := (true, "d9fff7d1850831242408fde19a635e82ab730bf813a1f6f98dfcf5056a8c932f"), looks := false }, kinds := [], alts := [], laidByText := true, laidKinds := [.data], laidTests := true, laidLooks := .later }
def ForestRowUptoCardSaid : Prop := Claim7.holds Tryd.pinned (.plain (OpenSpec.upto forestRowSpec)) forestRowUptoCard

/-- THE SECOND FORM's CARD OF 'massiflaw10.ForestFresh'. -/
def forestFreshUptoCard : Claim7 := { stood := { row := forestFreshUptoRow, standIns := [], harness := (true, "d9fff7d1850831242408fde19a635e82ab730bf813a1f6f98dfcf5056a8c932f"), looks := false }, kinds := [], alts := [], laidByText := true, laidKinds := [.data], laidTests := true, laidLooks := .later }
def ForestFreshUptoCardSaid : Prop := Claim7.holds Tryd.pinned (.plain (OpenSpec.upto forestFreshSpec)) forestFreshUptoCard

/-- THE SECOND FORM's CARD OF 'massiflaw10.ForestPlain'. -/
def forestPlainUptoCard : Claim7 := { stood := { row := forestPlainUptoRow, standIns := [], harness := (true, "d9fff7d1850831242408fde19a635e82ab730bf813a1f6f98dfcf5056a8c932f"), looks := false }, kinds := [], alts := [], laidByText := true, laidKinds := [.data], laidTests := true, laidLooks := .later }
def ForestPlainUptoCardSaid : Prop := Claim7.holds Tryd.pinned (.plain (OpenSpec.upto forestPlainSpec)) forestPlainUptoCard

/-- THE SECOND FORM's CARD OF 'massiflaw10.ForestScript'. -/
def forestScriptUptoCard : Claim7 := { stood := { row := forestScriptUptoRow, standIns := [], harness := (true, "d9fff7d1850831242408fde19a635e82ab730bf813a1f6f98dfcf5056a8c932f"), looks := false }, kinds := [], alts := [], laidByText := true, laidKinds := [.data, .data, .data], laidTests := true, laidLooks := .later }
def ForestScriptUptoCardSaid : Prop := Claim7.holds Tryd.pinned (.plain (OpenSpec.upto forestScriptSpec)) forestScriptUptoCard
end Rows
end Go.Proofs.YtabdobdopcfllaaDoor
