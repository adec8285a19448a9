/-
  RecordBack, over the row's letters. Own work.
-/
import Derived.Test.YtggkjleibhpnfaaNBack
import Derived.OpenShut
namespace Go.Proofs.Ytggkjleibhpnfaa
open Go.RowKit
theorem u64_nat {a : Int} (wf : (Lit.int .u64 a).wf = true) : ∃ n : Nat, a = (n : Int) ∧ n < 18446744073709551616 := by
  have := bounds_u64 wf
  exact ⟨a.toNat, by omega, by omega⟩
theorem back_row (w : World) (item : ByteArray) (hi : item.size ≤ 140737488351232) (a : Int) (wf : (Lit.int .u64 a).wf = true) (dg : ByteArray) (hdg : dg.size ≤ 140737488351232) (k : Int) (ma mb mc : Nat) (ha : ma < 18446744073709551616) (hb : mb < 18446744073709551616) (hc : mc < 18446744073709551616) (md : BitVec 32) (tail : ByteArray) (ht : tail.size ≤ 140737488351232) :
    Calls Try.prog 3 #[.string item, .int .u64 a, .string dg, .agg #[.int .i64 k, .int .u64 (ma : Int), .int .u64 (mb : Int), .int .u64 (mc : Int), .int .u32 (md.toNat : Int)], .string tail] w fun e w' => e = .returned (.bool true) ∧ Below w.heap.size w w' := by
  obtain ⟨n, rfl, hn⟩ := u64_nat wf
  exact back_walk w item hi n hn dg hdg k ma mb mc ha hb hc md tail ht
end Go.Proofs.Ytggkjleibhpnfaa
