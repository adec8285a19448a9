/-
  Items that are taken (off forest's texts). Own work.
-/
import Derived.Test.YtdkcliblbaldhaaDoorJLawA
namespace Go.Proofs.YtdkcliblbaldhaaDoor
open Go.RowKit
/-- The items that are taken. -/
def tk (l : List ByteArray) : List ByteArray := l.filter fun s => decide (s.size ≤ 1048576)
theorem tk_len (l : List ByteArray) : (tk l).length ≤ l.length := List.length_filter_le _ _
theorem tk_size (l : List ByteArray) : ∀ s ∈ tk l, s.size ≤ 1048576 := fun s hs => by
  have := (List.mem_filter.1 hs).2
  simpa using this
theorem tk_yes (l : List ByteArray) (s : ByteArray) (h : s.size ≤ 1048576) : tk (l ++ [s]) = tk l ++ [s] := by simp [tk, h]
theorem tk_no (l : List ByteArray) (s : ByteArray) (h : 1048576 < s.size) : tk (l ++ [s]) = tk l := by simp [tk, h]
theorem tk_self {l : List ByteArray} (h : ∀ s ∈ l, s.size ≤ 1048576) : tk l = l := List.filter_eq_self.2 fun s hs => by simpa using h s hs
theorem take_next {ss : List ByteArray} {j : Nat} (h : j < ss.length) : ss.take (j + 1) = ss.take j ++ [ss.getD j ByteArray.empty] := by
  rw [List.take_add_one, List.getD_eq_getElem?_getD, List.getElem?_eq_getElem h]; rfl
end Go.Proofs.YtdkcliblbaldhaaDoor
