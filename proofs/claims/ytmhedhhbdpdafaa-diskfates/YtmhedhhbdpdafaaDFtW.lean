/-
  DiskFates. Own work.
-/
import Derived.Test.YtmhedhhbdpdafaaDFtA
import Derived.Test.YtmhedhhbdpdafaaDFtB
import Derived.Test.YtmhedhhbdpdafaaDFtC
namespace Go.Proofs.Ytmhedhhbdpdafaa
open Go.RowKit
theorem fates_walk (w : World) (a0 : Option Addr) (b0 o0 n0 c0 : Nat) (l0 : Nat → OpV) (r0 : RdO w a0 b0 o0 n0 l0) (m0 : n0 ≤ maxLen) (at0 kd0 : Int) (ka : Option Addr) (kb ko kc : Nat) (ks : List Bool) (hk : RdL w ka kb ko ks) (hkl : ks.length ≤ 140737488355328) :
    Calls Try.prog 6 #[.slice a0 n0 c0, .agg #[.int .i64 at0, .int .i64 kd0, .slice ka ks.length kc]] w fun e w' => e = .returned (.bool true) ∧ Below w.heap.size w w' := by
  have h := bentV_le kd0 4
  rcases (show 1 + bentV kd0 4 ≤ 3 ∨ 1 + bentV kd0 4 = 4 ∨ 1 + bentV kd0 4 = 5 by omega) with q | q | q
  · exact fates_walkA w a0 b0 o0 n0 c0 l0 r0 m0 at0 kd0 ka kb ko kc ks hk hkl q
  · exact fates_walkB w a0 b0 o0 n0 c0 l0 r0 m0 at0 kd0 ka kb ko kc ks hk hkl q
  · exact fates_walkC w a0 b0 o0 n0 c0 l0 r0 m0 at0 kd0 ka kb ko kc ks hk hkl q
end Go.Proofs.Ytmhedhhbdpdafaa
