/-
  Walks of package plain: Peaks, Root. Own work.
-/
import Derived.Test.YtdkcliblbaldhaaDoorPWalkA
namespace Go.Proofs.YtdkcliblbaldhaaDoor
open Go.RowKit
attribute [local go_sem ↓] Go.wp_at_zero Go.wp_at_succ
theorem RdS.take {w : World} {ao : Option Addr} {b off len : Nat} {ss : List ByteArray} (h : RdS w ao b off len ss) {n : Nat} (hn : n ≤ len) : RdS w ao b off n (ss.take n) := by
  refine ⟨by rw [List.length_take, h.hl]; omega, fun h0 => h.ptr (by omega), fun j v hv => ?_, fun s hs => h.sz s (List.mem_of_mem_take hs)⟩
  rw [List.map_take, List.getElem?_take] at hv
  split at hv
  · exact h.rng j v hv
  · cases hv
theorem small {c : Nat} (hc : c ≤ 32) {L : List ByteArray} {h : Nat} : ∀ s ∈ pks c L h, s.size ≤ 140737488351232 := fun s hs => by rw [pks_size hc L h s hs]; omega
theorem chk_ok {k : Int} (h1 : 1 ≤ k) (h2 : k ≤ 32) : chk k = 0 := by rw [chk, if_neg (by omega)]
theorem chk_no {k : Int} (h : k < 1 ∨ 32 < k) : chk k = 70 := by rw [chk, if_pos h]
/-- A root lies in two cells. -/
structure Rt (w : World) (g n : Nat) (d : ByteArray) : Prop where
  c0 : w.cell? ⟨g, 0, none⟩ = some (.int .u64 (n : Int))
  c1 : w.cell? ⟨g, 1, none⟩ = some (.string d)
  f0 : w.frozen? ⟨g, 0, none⟩ = false
  f1 : w.frozen? ⟨g, 1, none⟩ = false
theorem Rt.below {w w' : World} {B g n : Nat} {d : ByteArray} (t : Rt w g n d) (hb : Below B w w') (hg : g < B) : Rt w' g n d :=
  ⟨(hb.cell (p := ⟨g, 0, none⟩) hg).trans t.c0, (hb.cell (p := ⟨g, 1, none⟩) hg).trans t.c1, (hb.frozen (p := ⟨g, 0, none⟩) hg).trans t.f0, (hb.frozen (p := ⟨g, 1, none⟩) hg).trans t.f1⟩
theorem rt_new (w : World) (n : Nat) (d : ByteArray) (t : Nat) : Rt (w.alloc (.cells #[.int .u64 (n : Int), .string d] t)) w.heap.size n d := by
  refine ⟨?_, ?_, ?_, ?_⟩ <;> simp
/-- The digest of the root of the first n. -/
def rtD (c : Nat) (L : List ByteArray) (n : Nat) : ByteArray := dg c (rootT n (bagL c (pks c (L.take n) 41)))
end Go.Proofs.YtdkcliblbaldhaaDoor
