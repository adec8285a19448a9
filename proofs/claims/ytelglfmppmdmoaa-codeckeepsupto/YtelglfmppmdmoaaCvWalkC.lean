/-
  Walks of package cover: Range, Mountains, check, Rest, Count. Own work.
-/
import Derived.Test.YtelglfmppmdmoaaCvWalkB
namespace Go.Proofs.Ytelglfmppmdmoaa.Cv
open Pl
open Go.RowKit
attribute [local go_sem ↓] Go.wp_at_zero Go.wp_at_succ
/-- What is wrong with a range; its cover. -/
def errR (lo hi n : Nat) : Nat := if 2 ^ 40 < n then 30 else if n < hi then 31 else if hi < lo then 41 else 0
def covR (lo hi n : Nat) : List (Nat × Nat) := if errR lo hi n = 0 then cov lo hi else []
theorem ia_new (w : World) : IA w.heap.size (fun _ => False) [] (w.alloc (.cells #[.slice none 0 0] 47)) :=
  ⟨⟨.slice none 0 0, heap_new _ _, World.ownsRow_nil _ _ _ _, fun _ _ h => h⟩, fun h => h⟩
theorem range_err (lo hi n e : Nat) (w : World) (he : errR lo hi n = e) (h0 : e ≠ 0) :
    Calls Try.prog 58 #[.int .u64 (lo : Int), .int .u64 (hi : Int), .int .u64 (n : Int)] w fun x w' => ∃ v, x = .returned (.tuple #[v, .int .i64 (e : Int)]) ∧ OwnB w' w.heap.size v [] ∧ Below w.heap.size w w' := by
  unfold errR at he
  by_cases h1 : 2 ^ 40 < n
  · rw [if_pos h1] at he
    subst he
    have ht : decide ((1099511627776 : Int) < (n : Int)) = true := decide_eq_true (by omega)
    clear h0 h1
    go_enter Try.func58, Try.ntmps58
    go_wp2
    go_ret2
    exact ⟨_, rfl, World.ownsRow_nil _ _ _ _, Below.refl _ _⟩
  · rw [if_neg h1] at he
    have ht : decide ((1099511627776 : Int) < (n : Int)) = false := decide_eq_false (by omega)
    by_cases h2 : n < hi
    · rw [if_pos h2] at he
      subst he
      have ht2 : (n : Int) < (hi : Int) := by omega
      clear h0 h1
      go_enter Try.func58, Try.ntmps58
      go_wp2
      go_ret2
      exact ⟨_, rfl, World.ownsRow_nil _ _ _ _, Below.refl _ _⟩
    · rw [if_neg h2] at he
      have ht2 : ¬ (n : Int) < (hi : Int) := by omega
      by_cases h3 : hi < lo
      · rw [if_pos h3] at he
        subst he
        have ht3 : (hi : Int) < (lo : Int) := by omega
        clear h0 h1
        go_enter Try.func58, Try.ntmps58
        go_wp2
        go_ret2
        exact ⟨_, rfl, World.ownsRow_nil _ _ _ _, Below.refl _ _⟩
      · rw [if_neg h3] at he
        exact absurd he.symm h0
theorem range_ok (lo hi n : Nat) (w : World) (hn : n ≤ 2 ^ 40) (hh : hi ≤ n) (hl : lo ≤ hi) :
    Calls Try.prog 58 #[.int .u64 (lo : Int), .int .u64 (hi : Int), .int .u64 (n : Int)] w fun x w' => ∃ v, x = .returned (.tuple #[v, .int .i64 0]) ∧ OwnB w' w.heap.size v (zl (cov lo hi)) ∧ Below w.heap.size w w' := by
  have ht : decide ((1099511627776 : Int) < (n : Int)) = false := decide_eq_false (by omega)
  have ht2 : ¬ (n : Int) < (hi : Int) := by omega
  have ht3 : ¬ (hi : Int) < (lo : Int) := by omega
  have ht2' : ¬ n < hi := by omega
  have ht3' : ¬ hi < lo := by omega
  have HE := each_any (.inl rfl) (give_range w.heap.size) (fun _ => False) [] lo hi (w.alloc (.cells #[.slice none 0 0] 47)) (ia_new w) (fun _ h => h.elim) (by decide) hl (by omega)
  clear hn hh hl
  go_enter Try.func58, Try.ntmps58
  go_upto_region 9 with ((go_at_call 63; with_reducible refine HE.mono ?_; rintro e w1 ⟨rfl, hI, hb, _⟩))
  obtain ⟨⟨v, h1, h2, _⟩, _⟩ := hI
  have c0 := cell_of_one h1
  obtain ⟨ao, m, c, rfl⟩ := own_slice h2
  have HF : Hid (OwnB w1 w.heap.size (.slice ao m c) (zl (cov lo hi)) ∧ Below w.heap.size w w1) := ⟨by
    have := h2.mono (base' := w.heap.size) (by omega)
    simpa using this, ((Below.refl _ w).alloc (Nat.le_refl _) _).trans hb⟩
  clear h1 h2 hb HE
  go_wp2
  go_ret2
  exact ⟨_, rfl, HF.out.1, HF.out.2⟩
theorem range_any (lo hi n : Nat) (w : World) :
    Calls Try.prog 58 #[.int .u64 (lo : Int), .int .u64 (hi : Int), .int .u64 (n : Int)] w fun x w' => ∃ v, x = .returned (.tuple #[v, .int .i64 (errR lo hi n : Nat)]) ∧ OwnB w' w.heap.size v (zl (covR lo hi n)) ∧ Below w.heap.size w w' := by
  by_cases h : errR lo hi n = 0
  · have h' := h
    unfold errR at h'
    split at h'
    · cases h'
    · split at h'
      · cases h'
      · split at h'
        · cases h'
        · rw [h, covR, if_pos h]
          exact range_ok lo hi n w (by omega) (by omega) (by omega)
  · rw [covR, if_neg h]
    exact range_err lo hi n _ w rfl h
end Go.Proofs.Ytelglfmppmdmoaa.Cv
