/-
  The reference's walks: RootText, Bagged, Root. Own work.
-/
import Derived.Test.YtgmnolepaidiiaaDoorHRefA
namespace Go.Proofs.YtgmnolepaidiiaaDoor
open Go.RowKit
attribute [local go_sem ↓] Go.wp_at_zero Go.wp_at_succ
theorem strB_cons (x : Int) (l : List Int) : strB [x] ++ strB l = strB (x :: l) := by
  apply ByteArray.ext
  rw [ByteArray.data_append]
  apply Array.toList_inj.1
  rw [Array.toList_append, strB_list, strB_list, strB_list]
  rfl
/-- The last k of n's eight bytes. -/
def tlL (n k : Nat) : List Int := (nbL n 8).drop (8 - k)
theorem tlL_len (n k : Nat) (h : k ≤ 8) : (tlL n k).length = k := by rw [tlL, List.length_drop, nbL_len]; omega
theorem tlL_succ (n k : Nat) (h : k < 8) : ((n / 256 ^ k % 256 : Nat) : Int) :: tlL n k = tlL n (k + 1) := by
  unfold tlL
  have hl : 8 - (k + 1) < (nbL n 8).length := by rw [nbL_len]; omega
  rw [List.drop_eq_getElem_cons hl, show 8 - (k + 1) + 1 = 8 - k by omega]
  congr 1
  have : (nbL n 8)[8 - (k + 1)] = ((n / 256 ^ (7 - (8 - (k + 1))) % 256 : Nat) : Int) := by simp [nbL]
  rw [this, show 7 - (8 - (k + 1)) = k by omega]
theorem wrap_ur (x : Int) (h0 : 0 ≤ x) (h1 : x < 18446744073709551616) : IntKind.u64.wrap x = x := by
  simp [IntKind.wrap, IntKind.signed, IntKind.bits]; omega
end Go.Proofs.YtgmnolepaidiiaaDoor
