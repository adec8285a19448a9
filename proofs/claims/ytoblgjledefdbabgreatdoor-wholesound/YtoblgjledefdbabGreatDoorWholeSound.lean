/-
  WholeSound. Own work.
-/
import Derived.Test.YtoblgjledefdbabGreatDoorRows
import Derived.Test.YtoblgjledefdbabGreatDoorCards
import Derived.Test.YtoblgjledefdbabGreatDoorTie
import Derived.Deep.DeepHandedRow
import Derived.Lib.LaidTab
import Derived.Stop.LaidErr
import Derived.Deep.Slices
import Derived.Carry
import Derived.WalkKit
import Derived.ProofKit
import Derived.OpenShut
import Derived.Below
import Derived.ChangeSame
import Derived.SizedLaws
import Derived.ChangeMaps5
import Derived.SliceStrings
import Derived.Carry
import Derived.Test.YtoblgjledefdbabGreatDoorQs35
namespace Go.Proofs.YtoblgjledefdbabGreatDoor.wholeSound
open Go.ChangeShapes Go.WideShapes Go.ChangeAt Go.RowKit
theorem card:Rows.WholeSoundCardSaid :=
 Claim7.holds_tied_plain_at .later [] _ _ _ _ said (fun _ h=>by cases h) (by as_aux_lemma=>kernel_rfl) (fun _ h=>by cases h) wholeSound_row_tie rfl ⟨rfl,rfl⟩ (by as_aux_lemma=>kernel_rfl) rfl QpJ (by as_aux_lemma=>kernel_rfl)
end Go.Proofs.YtoblgjledefdbabGreatDoor.wholeSound
namespace Go.Proofs.YtoblgjledefdbabGreatDoor
theorem wholeSound_holds:Rows.WholeSoundCardSaid:=wholeSound.card
#print axioms wholeSound_holds
end Go.Proofs.YtoblgjledefdbabGreatDoor
