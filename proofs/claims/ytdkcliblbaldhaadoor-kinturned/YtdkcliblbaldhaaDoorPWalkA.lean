/-
  Walks of package plain: blocks, node, Tree. Own work.
-/
import Derived.Test.YtdkcliblbaldhaaDoorPSpec
import Derived.Test.YtdkcliblbaldhaaDoorHList
import Derived.BigQuiet
namespace Go.Proofs.YtdkcliblbaldhaaDoor
open Go.RowKit
attribute [local go_sem ↓] Go.wp_at_zero Go.wp_at_succ
theorem wrap_u (x : Int) (h0 : 0 ≤ x) (h1 : x < 18446744073709551616) : IntKind.u64.wrap x = x := by
  simp [IntKind.wrap, IntKind.signed, IntKind.bits]; omega
end Go.Proofs.YtdkcliblbaldhaaDoor
