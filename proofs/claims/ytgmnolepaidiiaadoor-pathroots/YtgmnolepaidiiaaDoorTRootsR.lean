/-
  PathRoots, as its row asks. Own work.
-/
import Derived.Test.YtgmnolepaidiiaaDoorTRoots
import Derived.Test.YtgmnolepaidiiaaDoorTCompR
namespace Go.Proofs.YtgmnolepaidiiaaDoor
theorem roots_row (w : World) (ht : Tb w) (hr : Tr w) (kd k : Int) (old size : Nat) (sa : Option Addr) (sb so sc : Nat) (S : List Nat) (rs : RdU w sa sb so S.length S) (hns : sa = none → sc = 0) (hS : S.length ≤ 17592186043904) (da : Option Addr) (db dO dc : Nat) (D : List ByteArray) (rd : RdS w da db dO D.length D) (hnd : da = none → dc = 0) (hD : D.length ≤ 8796093021952) (x : ByteArray) :
    Calls Tryd.prog 3 #[.agg #[.int .i64 kd, .int .i64 k, .int .u64 (old : Int), .int .u64 (size : Int), .slice sa S.length sc, .slice da D.length dc], .string x] w fun e w' => e = .returned (.bool true) ∧ Go.RowKit.Below w.heap.size w w' :=
  roots_walk w ht hr kd k old size sa sb so sc S rs hns hS da db dO dc D rd hnd hD x
end Go.Proofs.YtgmnolepaidiiaaDoor
