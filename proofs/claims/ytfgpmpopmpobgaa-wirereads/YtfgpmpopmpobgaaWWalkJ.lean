/-
  WireReads, over any number. Own work.
-/
import Derived.Test.YtfgpmpopmpobgaaWWalkI
namespace Go.Proofs.Ytfgpmpopmpobgaa
open Go.RowKit
theorem reads_row (w : World) (n : Int) (h : (Lit.int .u64 n).wf = true) (A B : ByteArray) (hA : A.size ≤ 140737488351232) (hB : B.size ≤ 140737488351232) (ao : Option Addr) (b off len cap : Nat) (l : List (Int × Int)) (hr : Sc w ao b off len l) (hlen : len ≤ maxLen) :
    Calls Try.prog 5 #[.int .u64 n, .string A, .string B, .slice ao len cap] w fun e w' => e = .returned (.bool true) ∧ Below w.heap.size w w' := by
  obtain ⟨p, rfl, hp⟩ := u64_nat h
  exact reads_walk w p hp A B hA hB ao b off len cap l hr (by unfold maxLen at hlen; omega)
end Go.Proofs.Ytfgpmpopmpobgaa
