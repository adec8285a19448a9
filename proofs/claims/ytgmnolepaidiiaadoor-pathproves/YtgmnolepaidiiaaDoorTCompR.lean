/-
  PathComplete, as its row asks. Own work.
-/
import Derived.Test.YtgmnolepaidiiaaDoorTComp
import Derived.OpenShut
namespace Go.Proofs.YtgmnolepaidiiaaDoor
open Go.RowKit
theorem u64_nat {a : Int} (wf : (Lit.int .u64 a).wf = true) : ∃ n : Nat, a = (n : Int) ∧ n < 18446744073709551616 := by
  have := bounds_u64 wf
  exact ⟨a.toNat, by omega, by omega⟩
theorem complete_row (w : World) (ht : Tb w) (hr : Tr w) (k : Int) (ao : Option Addr) (b off len cap : Nat) (L : List ByteArray) (rd : RdS w ao b off len L) (hm : len ≤ 8796093021952) (a : Int) (wf : (Lit.int .u64 a).wf = true) (s : ByteArray) (hs : s.size ≤ 140737488351232) :
    Calls Tryd.prog 4 #[.int .i64 k, .slice ao len cap, .int .u64 a, .string s] w fun e w' => e = .returned (.bool true) ∧ Below w.heap.size w w' := by
  obtain ⟨n, rfl, hn⟩ := u64_nat wf
  exact complete_walk w ht hr k ao b off len cap L rd (by omega) n hn s (by omega)
end Go.Proofs.YtgmnolepaidiiaaDoor
