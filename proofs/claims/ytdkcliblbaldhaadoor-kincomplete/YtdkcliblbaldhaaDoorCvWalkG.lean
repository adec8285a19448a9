/-
  Walks of the laws' own helpers: num, alive, within. Own work.
-/
import Derived.Test.YtdkcliblbaldhaaDoorCvWalkF
namespace Go.Proofs.YtdkcliblbaldhaaDoor.Cv
open Pl
open Go.RowKit
attribute [local go_sem ↓] Go.wp_at_zero Go.wp_at_succ
theorem own_lit (w : World) (B : Nat) (cs : Array Value) (l : List (Int × Nat)) (hcs : cs.toList = cB l) (hB : B ≤ w.heap.size) (hl : l.length ≤ 1000) :
    OwnB (w.alloc (.cells cs 82)) B (.slice (some ⟨w.heap.size, 0, none⟩) l.length l.length) l := by
  refine ⟨cB_len l, .inr ⟨w.heap.size, l.length, cs, rfl, hB, heap_new _ _, Nat.le_refl _, by unfold maxLen; omega, ?_, ?_⟩⟩
  · rw [← Array.length_toList, hcs, cB_len]
  · rw [hcs, ← cB_len, List.take_length]
theorem rd_one (w : World) (x : Nat) : Rd (w.alloc (.cells #[.int .u64 (x : Int)] 28)) (some ⟨w.heap.size, 0, none⟩) w.heap.size 0 1 [x] := by
  refine ⟨rfl, fun _ => rfl, fun j hj => ?_⟩
  obtain rfl : j = 0 := by omega
  simp
theorem rd_two (w : World) (x y : Nat) : Rd (w.alloc (.cells #[.int .u64 (x : Int), .int .u64 (y : Int)] 28)) (some ⟨w.heap.size, 0, none⟩) w.heap.size 0 2 [x, y] := by
  refine ⟨rfl, fun _ => rfl, fun j hj => ?_⟩
  match j, hj with
  | 0, _ => simp
  | 1, _ => simp
theorem below_new {w w' : World} {o : Obj} (h : Below (w.alloc o).heap.size (w.alloc o) w') : Below w.heap.size w w' :=
  ((Below.refl _ w).alloc (Nat.le_refl _) o).trans (h.mono (by simp))
end Go.Proofs.YtdkcliblbaldhaaDoor.Cv
