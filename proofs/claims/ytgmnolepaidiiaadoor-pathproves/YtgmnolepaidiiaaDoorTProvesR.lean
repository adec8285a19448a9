/-
  PathProves, as its row asks. Own work.
-/
import Derived.Test.YtgmnolepaidiiaaDoorTProves
import Derived.Test.YtgmnolepaidiiaaDoorTCompR
namespace Go.Proofs.YtgmnolepaidiiaaDoor
open Go.RowKit
theorem proves_row (w : World) (ht : Tb w) (hr : Tr w) (k : Int) (ao : Option Addr) (b off len cap : Nat) (L : List ByteArray) (rd : RdS w ao b off len L) (hm : len ≤ 8796093021952) (qa : Option Addr) (qb qo qn qc : Nat) (ql : List (Nat × Nat)) (rq : RdA w qa qb qo qn ql) (hq : qn ≤ maxLen) :
    Calls Tryd.prog 5 #[.int .i64 k, .slice ao len cap, .slice qa qn qc] w fun e w' => e = .returned (.bool true) ∧ Below w.heap.size w w' :=
  proves_walk w ht hr k ao b off len cap L rd (by omega) qa qb qo qn qc ql rq (by unfold maxLen at hq; omega)
end Go.Proofs.YtgmnolepaidiiaaDoor
