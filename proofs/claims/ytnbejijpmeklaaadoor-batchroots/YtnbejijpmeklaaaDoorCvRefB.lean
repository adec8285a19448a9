/-
  Walks of the reference: within, Mountains, Range. Own work.
-/
import Derived.Test.YtnbejijpmeklaaaDoorCvRefA
namespace Go.Proofs.YtnbejijpmeklaaaDoor.Cv
open Pl
open Go.RowKit
attribute [local go_sem ↓] Go.wp_at_zero Go.wp_at_succ
theorem tin_here {lo hi H K : Nat} (h1 : lo ≤ K * pw H) (h2 : (K + 1) * pw H ≤ hi) : tin lo hi H K = [(H, K)] := by
  cases H with
  | zero => rw [tin, if_pos ⟨h1, h2⟩]
  | succ H => rw [tin, if_pos ⟨h1, h2⟩]
theorem tin_out {lo hi H K : Nat} (h : ¬ (lo ≤ K * pw H ∧ (K + 1) * pw H ≤ hi)) (h2 : (K + 1) * pw H ≤ lo ∨ hi ≤ K * pw H) : tin lo hi H K = [] := by
  cases H with
  | zero => rw [tin, if_neg h]
  | succ H => rw [tin, if_neg h, if_pos h2]
theorem tin_two {lo hi H K : Nat} (h : ¬ (lo ≤ K * pw (H + 1) ∧ (K + 1) * pw (H + 1) ≤ hi)) (h2 : ¬ ((K + 1) * pw (H + 1) ≤ lo ∨ hi ≤ K * pw (H + 1))) : tin lo hi (H + 1) K = tin lo hi H (2 * K) ++ tin lo hi H (2 * K + 1) := by
  rw [tin, if_neg h, if_neg h2]
end Go.Proofs.YtnbejijpmeklaaaDoor.Cv
