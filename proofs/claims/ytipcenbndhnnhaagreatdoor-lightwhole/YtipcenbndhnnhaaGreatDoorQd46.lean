/-
  Own work: LRow.
-/
import Derived.OpenShut
import Derived.Test.YtipcenbndhnnhaaGreatDoorQd09
namespace Go.Proofs.YtipcenbndhnnhaaGreatDoor
open Go.RowKit
theorem u64_nat {a : Int} (wf : (Lit.int .u64 a).wf = true) : ∃ n : Nat, a = (n : Int) ∧ n < 18446744073709551616 := by
  have := bounds_u64 wf
  exact ⟨a.toNat, by omega, by omega⟩
end Go.Proofs.YtipcenbndhnnhaaGreatDoor
