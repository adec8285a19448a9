/-
  WholeTold. Own work.
-/
import Derived.Test.YtoblgjledefdbaaGreatDoorRows
import Derived.Test.YtoblgjledefdbaaGreatDoorCards
import Derived.Test.YtoblgjledefdbaaGreatDoorTie
import Derived.Deep.DeepHandedRow
import Derived.Lib.LaidTab
import Derived.Stop.LaidErr
import Derived.WalkKit
import Derived.ProofKit
import Derived.OpenShut
import Derived.Below
import Derived.ChangeSame
import Derived.SizedLaws
import Derived.ChangeMaps5
import Derived.SliceStrings
import Derived.Carry
import Derived.Deep.SlicePairs
import Derived.Carry
import Derived.Test.YtoblgjledefdbaaGreatDoorQt20
namespace Go.Proofs.YtoblgjledefdbaaGreatDoor.wholeTold
open Go.ChangeShapes Go.WideShapes Go.ChangeAt Go.RowKit
theorem card:Rows.WholeToldCardSaid :=
 Claim7.holds_tied_plain_at .later [] _ _ _ _ said (fun _ h=>by cases h) (by as_aux_lemma=>kernel_rfl) (fun _ h=>by cases h) wholeTold_row_tie rfl ⟨rfl,rfl⟩ (by as_aux_lemma=>kernel_rfl) rfl QqF (by as_aux_lemma=>kernel_rfl)
end Go.Proofs.YtoblgjledefdbaaGreatDoor.wholeTold
namespace Go.Proofs.YtoblgjledefdbaaGreatDoor
theorem wholeTold_holds:Rows.WholeToldCardSaid:=wholeTold.card
#print axioms wholeTold_holds
end Go.Proofs.YtoblgjledefdbaaGreatDoor
