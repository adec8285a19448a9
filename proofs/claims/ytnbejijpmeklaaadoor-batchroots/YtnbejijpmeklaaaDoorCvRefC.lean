/-
  Walks of the reference: Mountains, Range; the walk of CoverSpans. Own work.
-/
import Derived.Test.YtnbejijpmeklaaaDoorCvRefB
namespace Go.Proofs.YtnbejijpmeklaaaDoor.Cv
open Pl
open Go.RowKit
attribute [local go_sem ↓] Go.wp_at_zero Go.wp_at_succ
theorem rMountains_any (n : Nat) (w : World) :
    Calls Tryd.prog 72 #[.int .u64 (n : Int)] w fun x w' => ∃ v, x = .returned (.tuple #[v, .int .i64 (errR 0 n n : Nat)]) ∧ OwnB w' w.heap.size v (zl (covR 0 n n)) ∧ Below w.heap.size w w' := by
  by_cases h : 2 ^ 40 < n
  · have e : errR 0 n n = 30 := by rw [errR, if_pos h]
    have ht : decide ((1099511627776 : Int) < (n : Int)) = true := decide_eq_true (by omega)
    rw [covR, e, if_neg (by decide)]
    clear h e
    go_enter Tryd.func72, Tryd.ntmps72
    go_wp2
    go_ret2
    exact ⟨_, rfl, World.ownsRow_nil _ _ _ _, Below.refl _ _⟩
  · have e : errR 0 n n = 0 := by rw [errR, if_neg h, if_neg (by omega), if_neg (by omega)]
    have ht : decide ((1099511627776 : Int) < (n : Int)) = false := decide_eq_false (by omega)
    have HM := fun w' => rmounts_any n w' (by omega)
    rw [covR, e, if_pos rfl, cov_zero n (by omega)]
    clear h e
    go_enter Tryd.func72, Tryd.ntmps72
    go_wp2_with (go_at_call 65; with_reducible refine (HM _).mono ?_; rintro x w1 ⟨v, rfl, h1, h2⟩)
    go_ret2
    exact ⟨_, rfl, h1, h2⟩
theorem row_mem {q : Nat} : ∀ {L : List (Nat × Nat)} {p : Nat}, Row q p L → ∀ b ∈ L, b.1 ≤ 40 ∧ b.2 < pw (40 - b.1) := by
  intro L
  induction L with
  | nil => intro p _ b hb; cases hb
  | cons c L ih =>
    intro p h b hb
    rcases List.mem_cons.1 hb with rfl | hb
    · exact ⟨h.2.1, h.2.2.1⟩
    · exact ih h.2.2.2 b hb
theorem take_flat {t : Nat × Nat → List (Nat × Nat)} (M : List (Nat × Nat)) (k : Nat) (h : k < M.length) : (M.take (k + 1)).flatMap t = (M.take k).flatMap t ++ t (M.getD k (0, 0)) := by
  rw [List.take_succ_eq_append_getElem h, List.flatMap_append, List.getD_eq_getElem?_getD, List.getElem?_eq_getElem h]
  simp
theorem take_flat_len {t : Nat × Nat → List (Nat × Nat)} (M : List (Nat × Nat)) (k : Nat) : ((M.take k).flatMap t).length ≤ (M.flatMap t).length := by
  conv => rhs; rw [← List.take_append_drop k M, List.flatMap_append, List.length_append]
  omega
end Go.Proofs.YtnbejijpmeklaaaDoor.Cv
