/-
  RecordReads, over the row's letters. Own work.
-/
import Derived.Test.YtggkjleibhpnfaaNReads
import Derived.OpenShut
namespace Go.Proofs.Ytggkjleibhpnfaa
open Go.RowKit
theorem u64_nat {a : Int} (wf : (Lit.int .u64 a).wf = true) : ∃ n : Nat, a = (n : Int) ∧ n < 18446744073709551616 := by
  have := bounds_u64 wf
  exact ⟨a.toNat, by omega, by omega⟩
theorem reads_row (w : World) (s : ByteArray) (hs : s.size ≤ 140737488351232) (k a : Int) (wf : (Lit.int .u64 a).wf = true) :
    Calls Try.prog 6 #[.string s, .int .i64 k, .int .u64 a] w fun e w' => e = .returned (.bool true) ∧ Below w.heap.size w w' := by
  obtain ⟨n, rfl, hn⟩ := u64_nat wf
  exact reads_walk w s hs k n hn
end Go.Proofs.Ytggkjleibhpnfaa
