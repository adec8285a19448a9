/-
  DERIVED. GIVEN WITH THE SEED: THE CARDS: each row of YtncndefggegicaaDoorRows.lean that lists a variable, with what it lists TIED to the program's text (the seventh form; the later family's looks); each row that meets fmt, with fmt's text TOLD by the authors' own Lean function (tested against real Go, not proved from fmt's source: count such statements apart). THE CARD IS WHAT COUNTS. Prove the row's statement (the work); the ties are given (YtncndefggegicaaDoorTie.lean); close each card by the builder's one call (the guide's Derived/Test/ToyasCard.lean, 'card_holds'). Laid BY PROGRAM, IN A SANDBOX (cutbox-door.mjs). By AI agents, Wed Nov 11 2026. No macro, syntax, notation, axiom, sorry.
-/
import Derived.Test.YtncndefggegicaaDoorRows
import GoSem.ClaimSeven
namespace Go.Proofs.YtncndefggegicaaDoor
namespace Rows

/-- THE TIED CARD OF 'massiflaw09.PeaksMemory'. -/
def peaksMemoryCard : Claim7 := { stood := { row := peaksMemoryRow, standIns := [], harness := (true, "95f08737dc314f5f538754f4de977961d133052cd2db07b6b94c2f6225ea0ca5"), looks := false }, kinds := [], alts := [], laidByText := true, laidKinds := [.data], laidTests := true, laidLooks := .later }
def PeaksMemoryCardSaid : Prop := Claim7.holds Tryd.pinned (.plain (OpenSpec.ofChange peaksMemorySpec)) peaksMemoryCard

/-- THE TIED CARD OF 'massiflaw09.PeaksOn'. -/
def peaksOnCard : Claim7 := { stood := { row := peaksOnRow, standIns := [], harness := (true, "95f08737dc314f5f538754f4de977961d133052cd2db07b6b94c2f6225ea0ca5"), looks := false }, kinds := [], alts := [], laidByText := true, laidKinds := [.data], laidTests := true, laidLooks := .later }
def PeaksOnCardSaid : Prop := Claim7.holds Tryd.pinned (.plain (OpenSpec.ofChange peaksOnSpec)) peaksOnCard

/-- THE TIED CARD OF 'massiflaw09.PeaksRefused'. -/
def peaksRefusedCard : Claim7 := { stood := { row := peaksRefusedRow, standIns := [], harness := (true, "95f08737dc314f5f538754f4de977961d133052cd2db07b6b94c2f6225ea0ca5"), looks := false }, kinds := [], alts := [], laidByText := true, laidKinds := [.data], laidTests := true, laidLooks := .later }
def PeaksRefusedCardSaid : Prop := Claim7.holds Tryd.pinned (.plain (OpenSpec.ofChange peaksRefusedSpec)) peaksRefusedCard

/-- THE TIED CARD OF 'massiflaw09.PeaksTrees'. -/
def peaksTreesCard : Claim7 := { stood := { row := peaksTreesRow, standIns := [], harness := (true, "95f08737dc314f5f538754f4de977961d133052cd2db07b6b94c2f6225ea0ca5"), looks := false }, kinds := [], alts := [], laidByText := true, laidKinds := [.data], laidTests := true, laidLooks := .later }
def PeaksTreesCardSaid : Prop := Claim7.holds Tryd.pinned (.plain (OpenSpec.ofChange peaksTreesSpec)) peaksTreesCard

/-- THE TIED CARD OF 'massiflaw09.PeaksList'. -/
def peaksListCard : Claim7 := { stood := { row := peaksListRow, standIns := [], harness := (true, "95f08737dc314f5f538754f4de977961d133052cd2db07b6b94c2f6225ea0ca5"), looks := false }, kinds := [], alts := [], laidByText := true, laidKinds := [.data], laidTests := true, laidLooks := .later }
def PeaksListCardSaid : Prop := Claim7.holds Tryd.pinned (.plain (OpenSpec.ofChange peaksListSpec)) peaksListCard

/-- THE TIED CARD OF 'massiflaw09.PeaksMade'. -/
def peaksMadeCard : Claim7 := { stood := { row := peaksMadeRow, standIns := [], harness := (true, "95f08737dc314f5f538754f4de977961d133052cd2db07b6b94c2f6225ea0ca5"), looks := false }, kinds := [], alts := [], laidByText := true, laidKinds := [.data, .data, .data], laidTests := true, laidLooks := .later }
def PeaksMadeCardSaid : Prop := Claim7.holds Tryd.pinned (.plain (OpenSpec.ofChange peaksMadeSpec)) peaksMadeCard

/-- THE SECOND FORM's CARD OF 'massiflaw09.PeaksMemory'. -/
def peaksMemoryUptoCard : Claim7 := { stood := { row := peaksMemoryUptoRow, standIns := [], harness := (true, "95f08737dc314f5f538754f4de977961d133052cd2db07b6b94c2f6225ea0ca5"), looks := false }, kinds := [], alts := [], laidByText := true, laidKinds := [.data], laidTests := true, laidLooks := .later }
def PeaksMemoryUptoCardSaid : Prop := Claim7.holds Tryd.pinned (.plain (OpenSpec.upto peaksMemorySpec)) peaksMemoryUptoCard

/-- THE SECOND FORM's CARD OF 'massiflaw09.PeaksOn'. -/
def peaksOnUptoCard : Claim7 := { stood := { row := peaksOnUptoRow, standIns := [], harness := (true, "95f08737dc314f5f538754f4de977961d133052cd2db07b6b94c2f6225ea0ca5"), looks := false }, kinds := [], alts := [], laidByText := true, laidKinds := [.data], laidTests := true, laidLooks := .later }
def PeaksOnUptoCardSaid : Prop := Claim7.holds Tryd.pinned (.plain (OpenSpec.upto peaksOnSpec)) peaksOnUptoCard

/-- THE SECOND FORM's CARD OF 'massiflaw09.PeaksRefused'. -/
def peaksRefusedUptoCard : Claim7 := { stood := { row := peaksRefusedUptoRow, standIns := [], harness := (true, "95f08737dc314f5f538754f4de977961d133052cd2db07b6b94c2f6225ea0ca5"), looks := false }, kinds := [], alts := [], laidByText := true, laidKinds := [.data], laidTests := true, laidLooks := .later }
def PeaksRefusedUptoCardSaid : Prop := Claim7.holds Tryd.pinned (.plain (OpenSpec.upto peaksRefusedSpec)) peaksRefusedUptoCard

/-- THE SECOND FORM's CARD OF 'massiflaw09.PeaksTrees'. -/
def peaksTreesUptoCard : Claim7 := { stood := { row := peaksTreesUptoRow, standIns := [], harness := (true, "95f08737dc314f5f538754f4de977961d133052cd2db07b6b94c2f6225ea0ca5"), looks := false }, kinds := [], alts := [], laidByText := true, laidKinds := [.data], laidTests := true, laidLooks := .later }
def PeaksTreesUptoCardSaid : Prop := Claim7.holds Tryd.pinned (.plain (OpenSpec.upto peaksTreesSpec)) peaksTreesUptoCard

/-- THE SECOND FORM's CARD OF 'massiflaw09.PeaksList'. -/
def peaksListUptoCard : Claim7 := { stood := { row := peaksListUptoRow, standIns := [], harness := (true, "95f08737dc314f5f538754f4de977961d133052cd2db07b6b94c2f6225ea0ca5"), looks := false }, kinds := [], alts := [], laidByText := true, laidKinds := [.data], laidTests := true, laidLooks := .later }
def PeaksListUptoCardSaid : Prop := Claim7.holds Tryd.pinned (.plain (OpenSpec.upto peaksListSpec)) peaksListUptoCard

/-- THE SECOND FORM's CARD OF 'massiflaw09.PeaksMade'. -/
def peaksMadeUptoCard : Claim7 := { stood := { row := peaksMadeUptoRow, standIns := [], harness := (true, "95f08737dc314f5f538754f4de977961d133052cd2db07b6b94c2f6225ea0ca5"), looks := false }, kinds := [], alts := [], laidByText := true, laidKinds := [.data, .data, .data], laidTests := true, laidLooks := .later }
def PeaksMadeUptoCardSaid : Prop := Claim7.holds Tryd.pinned (.plain (OpenSpec.upto peaksMadeSpec)) peaksMadeUptoCard
end Rows
end Go.Proofs.YtncndefggegicaaDoor
