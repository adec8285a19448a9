/-
  WholeComplete. Own work.
-/
import Derived.Test.YtoblgjledefdbaaGreatDoorRows
import Derived.Test.YtoblgjledefdbaaGreatDoorCards
import Derived.Test.YtoblgjledefdbaaGreatDoorTie
import Derived.Deep.DeepHandedRow
import Derived.Lib.LaidTab
import Derived.Stop.LaidErr
import Derived.WalkKit
import Derived.ProofKit
import Derived.OpenShut
import Derived.Below
import Derived.ChangeSame
import Derived.SizedLaws
import Derived.ChangeMaps5
import Derived.SliceStrings
import Derived.Carry
import Derived.SliceStrings
import Derived.ChangeSlices
import Derived.Carry
import Derived.Test.YtoblgjledefdbaaGreatDoorQc33
namespace Go.Proofs.YtoblgjledefdbaaGreatDoor.wholeComplete
open Go.ChangeShapes Go.WideShapes Go.ChangeAt Go.RowKit
theorem card:Rows.WholeCompleteCardSaid :=
 Claim7.holds_tied_plain_at .later [] _ _ _ _ said (fun _ h=>by cases h) (by as_aux_lemma=>kernel_rfl) (fun _ h=>by cases h) wholeComplete_row_tie rfl ⟨rfl,rfl⟩ (by as_aux_lemma=>kernel_rfl) rfl QpG (by as_aux_lemma=>kernel_rfl)
end Go.Proofs.YtoblgjledefdbaaGreatDoor.wholeComplete
namespace Go.Proofs.YtoblgjledefdbaaGreatDoor
theorem wholeComplete_holds:Rows.WholeCompleteCardSaid:=wholeComplete.card
#print axioms wholeComplete_holds
end Go.Proofs.YtoblgjledefdbaaGreatDoor
