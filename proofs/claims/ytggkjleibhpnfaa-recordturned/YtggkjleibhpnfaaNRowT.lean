/-
  RecordTurned, over the row's letters. Own work.
-/
import Derived.Test.YtggkjleibhpnfaaNTwA
import Derived.OpenShut
namespace Go.Proofs.Ytggkjleibhpnfaa
open Go.RowKit
theorem u64_nat {a : Int} (wf : (Lit.int .u64 a).wf = true) : ∃ n : Nat, a = (n : Int) ∧ n < 18446744073709551616 := by
  have := bounds_u64 wf
  exact ⟨a.toNat, by omega, by omega⟩
theorem u8_nat {a : Int} (wf : (Lit.int .u8 a).wf = true) : ∃ n : Nat, a = (n : Int) ∧ n < 256 := by
  have := bounds_u8 wf
  exact ⟨a.toNat, by omega, by omega⟩
theorem turned_row (w : World) (item : ByteArray) (hi : item.size ≤ 140737488351232) (a : Int) (wf : (Lit.int .u64 a).wf = true) (dg : ByteArray) (hdg : dg.size ≤ 140737488351232) (k : Int) (ma mb mc : Nat) (ha : ma < 18446744073709551616) (hb : mb < 18446744073709551616) (hc : mc < 18446744073709551616) (md : BitVec 32) (at' : Int) (wat : (Lit.int .i64 at').wf = true) (y : Int) (wy : (Lit.int .u8 y).wf = true) :
    Calls Try.prog 4 #[.string item, .int .u64 a, .string dg, .agg #[.int .i64 k, .int .u64 (ma : Int), .int .u64 (mb : Int), .int .u64 (mc : Int), .int .u32 (md.toNat : Int)], .int .i64 at', .int .u8 y] w fun e w' => e = .returned (.bool true) ∧ Below w.heap.size w w' := by
  obtain ⟨n, rfl, hn⟩ := u64_nat wf
  obtain ⟨b, rfl, hb8⟩ := u8_nat wy
  exact turned_walk w item hi n hn dg hdg k ma mb mc ha hb hc md at' (bounds_i64 wat) b hb8
end Go.Proofs.Ytggkjleibhpnfaa
