/-
  BatchLeast, as its row asks. Own work.
-/
import Derived.Test.YtnbejijpmeklaaaDoorBLeast
import Derived.Test.YtnbejijpmeklaaaDoorBRow
namespace Go.Proofs.YtnbejijpmeklaaaDoor
theorem least_row (w : World) (ht : Tb w) (hr : Tr w) (k : Int) (n : Nat) (la : Option Addr) (lb lo lc : Nat) (L : List ByteArray) (rl : RdS w la lb lo L.length L) (hlc : L.length ≤ lc) (hL : L.length ≤ 8796093021952) (sa : Option Addr) (sb so sc : Nat) (S : List Nat) (rs : RdU w sa sb so S.length S) (hsc : S.length ≤ sc) (hS : S.length ≤ 17592186043904) (hns : sa = none → sc = 0) :
    Calls Tryd.prog 4 #[.agg #[.int .i64 k, .slice la L.length lc, .int .u64 (n : Int), .slice sa S.length sc]] w fun e w' => e = .returned (.bool true) ∧ Go.RowKit.Below w.heap.size w w' :=
  least_walk w k n la lb lo lc L sa sb so sc S ⟨ht, hr, rl, hlc, hL, rs, hsc, hS, hns⟩
end Go.Proofs.YtnbejijpmeklaaaDoor
