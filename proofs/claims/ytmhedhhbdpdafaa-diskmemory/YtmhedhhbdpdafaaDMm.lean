/-
  DiskMemory: what the disk holds. Own work.
-/
import Derived.Test.YtmhedhhbdpdafaaDFt
import Derived.Test.YtmhedhhbdpdafaaDOpen
namespace Go.Proofs.Ytmhedhhbdpdafaa
open Go.RowKit
/-- The files: their names a, b, c .. -/
def whl (d : Nat → List UInt8) (n : Nat) : List (List UInt8 × List UInt8) := (List.range n).map fun i => ([UInt8.ofNat (97 + i)], d i)
theorem whl_len (d : Nat → List UInt8) (n : Nat) : (whl d n).length = n := by simp [whl]
theorem nm_lt {i j : Nat} (h : i < j) (hj : j < 100) : ([UInt8.ofNat (97 + i)] : List UInt8) < [UInt8.ofNat (97 + j)] := by
  rw [List.cons_lt_cons_iff]
  left
  rw [UInt8.lt_iff_toNat_lt, UInt8.toNat_ofNat', UInt8.toNat_ofNat']
  omega
theorem whl_sor (d : Nat → List UInt8) (hd : ∀ i, d i ≠ []) (n : Nat) (hn : n ≤ 100) : Sor (whl d n) := by
  refine ⟨?_, fun x hx => ?_⟩
  · unfold whl
    rw [List.pairwise_map]
    exact List.pairwise_lt_range.imp_of_mem (fun {a b} ha hb h => nm_lt h (by have := List.mem_range.1 hb; omega))
  · obtain ⟨i, _, rfl⟩ := List.mem_map.1 hx
    exact hd i
/-- Behind the Write. -/
def mmL : List (List UInt8 × List UInt8) → List (List UInt8 × FV)
  | [] => [([97], ⟨[63], []⟩)]
  | x :: r => (x.1, ⟨wr x.2 0 [63], x.2⟩) :: allS r
theorem mm_put (d : Nat → List UInt8) (n : Nat) : fput (allS (whl d n)) [97] ⟨wr (fget (allS (whl d n)) [97]).now 0 [63], (fget (allS (whl d n)) [97]).syn⟩ = mmL (whl d n) := by
  cases n with
  | zero => rfl
  | succ n =>
    have e : whl d (n + 1) = ([97], d 0) :: (List.range n).map (fun i => ([UInt8.ofNat (97 + (i + 1))], d (i + 1))) := by
      unfold whl
      rw [List.range_succ_eq_map, List.map_cons, List.map_map]
      rfl
    rw [e]
    generalize (List.range n).map (fun i => ([UInt8.ofNat (97 + (i + 1))], d (i + 1))) = r
    have hg : fget (allS (([97], d 0) :: r)) [97] = ⟨d 0, d 0⟩ := by
      show fget (([97], ⟨d 0, d 0⟩) :: allS r) [97] = _
      rw [fget, if_pos rfl]
    rw [hg]
    show fput (([97], ⟨d 0, d 0⟩) :: allS r) [97] _ = _
    have hz : (⟨wr (d 0) 0 [63], d 0⟩ : FV).gone = false := by
      cases hq : (⟨wr (d 0) 0 [63], d 0⟩ : FV).gone
      · rfl
      · have := gone_len.1 hq
        simp [wr] at this
    rw [fput, if_pos rfl, if_neg (by simp [hz])]
    rfl
theorem mm_tell (l : List (List UInt8 × List UInt8)) (h : ∀ x ∈ l, x.2 ≠ []) : (tell (mmL l)).length = max l.length 1 := by
  cases l with
  | nil => rfl
  | cons x r =>
    have hw : ¬ wr x.2 0 [63] = [] := by simp [wr]
    show (tell ((x.1, ⟨wr x.2 0 [63], x.2⟩) :: allS r)).length = _
    rw [tell, if_neg hw, tell_all r (fun y hy => h y (List.mem_cons_of_mem _ hy))]
    simp only [List.length_cons]
    omega
end Go.Proofs.Ytmhedhhbdpdafaa
