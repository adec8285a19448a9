/-
  Ones, logarithm and trail of a number as plain functions, and their laws. Own work.
-/
import Derived.Test.YtnfapngjbabdaaaRows
namespace Go.Proofs.Ytnfapngjbabdaaa

/-- The ones among the lowest k bits. -/
def ones : Nat → Nat → Nat
  | 0, _ => 0
  | k + 1, n => n % 2 + ones k (n / 2)
/-- The zeros below the lowest one, k at most. -/
def tr : Nat → Nat → Nat
  | 0, _ => 0
  | k + 1, n => if n % 2 = 1 then 0 else tr k (n / 2) + 1
/-- The number of the highest one; -1: none. -/
def lg : Nat → Nat → Int
  | 0, _ => -1
  | k + 1, n => if n = 0 then -1 else lg k (n / 2) + 1
/-- The least power that is not below. -/
def cl (n : Nat) : Int := lg 64 (n - 1) + 1

theorem div_pow_succ (n k : Nat) : n / 2 ^ (k + 1) = n / 2 ^ k / 2 := by
  rw [Nat.pow_succ, Nat.div_div_eq_div_mul]

theorem ones_zero (k : Nat) : ones k 0 = 0 := by
  induction k with
  | zero => rfl
  | succ k ih => simp [ones, ih]
theorem ones_le (k n : Nat) : ones k n ≤ k := by
  induction k generalizing n with
  | zero => exact Nat.le_refl _
  | succ k ih => have := ih (n / 2); simp only [ones]; omega
theorem tr_le (k n : Nat) : tr k n ≤ k := by
  induction k generalizing n with
  | zero => exact Nat.le_refl _
  | succ k ih => have := ih (n / 2); simp only [tr]; split <;> omega
theorem tr_zero (k : Nat) : tr k 0 = k := by
  induction k with
  | zero => rfl
  | succ k ih => simp [tr, ih]
theorem lg_zero (k : Nat) : lg k 0 = -1 := by
  cases k <;> simp [lg]
theorem lg_of (k n L : Nat) (hL : L < k) (h1 : 2 ^ L ≤ n) (h2 : n < 2 ^ (L + 1)) : lg k n = L := by
  induction k generalizing n L with
  | zero => omega
  | succ k ih =>
    have h0 : n ≠ 0 := by have := Nat.two_pow_pos L; omega
    simp only [lg, if_neg h0]
    cases L with
    | zero =>
      have : n / 2 = 0 := by simp at h1 h2; omega
      rw [this, lg_zero]; rfl
    | succ L =>
      rw [ih (n / 2) L (by omega) (by rw [Nat.pow_succ] at h1; omega) (by rw [Nat.pow_succ] at h2; omega)]
      simp
theorem lg_at (n : Nat) (h0 : n ≠ 0) (k : Nat) (hk : n < 2 ^ k) : ∃ L : Nat, L < k ∧ lg k n = L ∧ 2 ^ L ≤ n ∧ n < 2 ^ (L + 1) := by
  induction k generalizing n with
  | zero => simp at hk; omega
  | succ k ih =>
    by_cases h1 : n / 2 = 0
    · have : n = 1 := by omega
      subst this
      exact ⟨0, by omega, by simp [lg, lg_zero], by simp, by simp⟩
    · obtain ⟨L, hL, e, a, b⟩ := ih (n / 2) h1 (by rw [Nat.pow_succ] at hk; omega)
      refine ⟨L + 1, by omega, ?_, by rw [Nat.pow_succ]; omega, by rw [Nat.pow_succ]; omega⟩
      simp only [lg, if_neg h0, e]; simp
theorem lg_bounds (k n : Nat) : -1 ≤ lg k n ∧ lg k n < k := by
  induction k generalizing n with
  | zero => simp [lg]
  | succ k ih => have := ih (n / 2); simp only [lg]; split <;> omega

theorem mod_pow_succ (n k : Nat) : n % 2 ^ (k + 1) = n % 2 ^ k + 2 ^ k * (n / 2 ^ k % 2) := by
  rw [Nat.pow_succ, Nat.mod_mul]
theorem lg_step_one (n k : Nat) (hk : k < 64) (h : n / 2 ^ k % 2 = 1) : lg 64 (n % 2 ^ (k + 1)) = k := by
  refine lg_of 64 _ k hk ?_ (Nat.mod_lt _ (Nat.two_pow_pos _))
  rw [mod_pow_succ, h]; omega
theorem lg_step_zero (n k : Nat) (h : ¬ n / 2 ^ k % 2 = 1) : n % 2 ^ (k + 1) = n % 2 ^ k := by
  have : n / 2 ^ k % 2 = 0 := by omega
  rw [mod_pow_succ, this]; simp
theorem mod_all (n : Nat) (h : n < 2 ^ 64) : n % 2 ^ 64 = n := Nat.mod_eq_of_lt h

theorem cl_of (n h : Nat) (hh : h ≤ 64) (h1 : n ≤ 2 ^ h) (h2 : h = 0 ∨ 2 ^ (h - 1) < n) : cl n = h := by
  rcases h2 with rfl | h2
  · have : n - 1 = 0 := by simp at h1; omega
    simp [cl, this, lg_zero]
  · cases h with
    | zero => simp at h1 h2; omega
    | succ h =>
      simp only [Nat.add_sub_cancel] at h2
      have := lg_of 64 (n - 1) h (by omega) (by omega) (by have := Nat.two_pow_pos (h+1); omega)
      rw [cl, this]; simp
theorem cl_bounds (n : Nat) : 0 ≤ cl n ∧ cl n ≤ 64 := by
  have := lg_bounds 64 (n - 1); simp only [cl]; omega

theorem ones_pred (k n : Nat) (h0 : n ≠ 0) (h : n < 2 ^ k) : ones k (n - 1) + 1 = ones k n + tr k n := by
  induction k generalizing n with
  | zero => simp at h; omega
  | succ k ih =>
    simp only [ones, tr]
    by_cases h1 : n % 2 = 1
    · rw [if_pos h1]
      have e : (n - 1) / 2 = n / 2 := by omega
      rw [e]; omega
    · rw [if_neg h1]
      have e : (n - 1) / 2 = n / 2 - 1 := by omega
      have := ih (n / 2) (by omega) (by rw [Nat.pow_succ] at h; omega)
      rw [e]; omega
theorem ones_pos (k n : Nat) (h0 : n ≠ 0) (h : n < 2 ^ k) : 0 < ones k n := by
  induction k generalizing n with
  | zero => simp at h; omega
  | succ k ih =>
    simp only [ones]
    by_cases h1 : n / 2 = 0
    · omega
    · have := ih (n / 2) h1 (by rw [Nat.pow_succ] at h; omega)
      omega
theorem ones_pow (k L : Nat) (h : L < k) : ones k (2 ^ L) = 1 := by
  induction k generalizing L with
  | zero => omega
  | succ k ih =>
    cases L with
    | zero => simp [ones, ones_zero]
    | succ L =>
      simp only [ones]
      have e1 : 2 ^ (L + 1) % 2 = 0 := by rw [Nat.pow_succ]; omega
      have e2 : 2 ^ (L + 1) / 2 = 2 ^ L := by rw [Nat.pow_succ]; omega
      rw [e1, e2, ih L (by omega)]
theorem tr_pow (k L : Nat) (h : L < k) : tr k (2 ^ L) = L := by
  induction k generalizing L with
  | zero => omega
  | succ k ih =>
    cases L with
    | zero => simp [tr]
    | succ L =>
      simp only [tr]
      have e1 : ¬ 2 ^ (L + 1) % 2 = 1 := by rw [Nat.pow_succ]; omega
      have e2 : 2 ^ (L + 1) / 2 = 2 ^ L := by rw [Nat.pow_succ]; omega
      rw [if_neg e1, e2, ih L (by omega)]
theorem pow_of_ones (k n L : Nat) (h : n < 2 ^ k) (h1 : ones k n = 1) (hL : 2 ^ L ≤ n) (hL' : n < 2 ^ (L + 1)) : n = 2 ^ L := by
  induction k generalizing n L with
  | zero => simp [ones] at h1
  | succ k ih =>
    simp only [ones] at h1
    cases L with
    | zero => simp at hL hL' ⊢; omega
    | succ L =>
      rw [Nat.pow_succ] at hL hL' h
      have hz : n / 2 ≠ 0 := by have := Nat.two_pow_pos L; omega
      have := ones_pos k (n / 2) hz (by omega)
      have e := ih (n / 2) L (by omega) (by omega) (by omega) (by omega)
      rw [Nat.pow_succ]; omega
/-- The greatest power of a number, and the least that is not below it. -/
theorem cl_ones (n : Nat) (h0 : n ≠ 0) (h : n < 2 ^ 64) : cl n = if ones 64 n = 1 then lg 64 n else lg 64 n + 1 := by
  obtain ⟨L, hL, e, a, b⟩ := lg_at n h0 64 h
  rw [e]
  split
  · rename_i h1
    have := pow_of_ones 64 n L h h1 a b
    refine cl_of n L (by omega) (by omega) ?_
    cases L with
    | zero => exact .inl rfl
    | succ L => right; simp only [Nat.add_sub_cancel]; rw [Nat.pow_succ] at this; have := Nat.two_pow_pos L; omega
  · rename_i h1
    have hne : n ≠ 2 ^ L := by
      rintro rfl
      exact h1 (ones_pow 64 L hL)
    have := cl_of n (L + 1) (by omega) (by omega) (.inr (by simp only [Nat.add_sub_cancel]; omega))
    rw [this]; simp
theorem cl_pow (L : Nat) (h : L < 64) : cl (2 ^ L) = L := by
  refine cl_of _ L (by omega) (Nat.le_refl _) ?_
  cases L with
  | zero => exact .inl rfl
  | succ L => right; simp only [Nat.add_sub_cancel]; rw [Nat.pow_succ]; have := Nat.two_pow_pos L; omega
theorem lg_pow (L : Nat) (h : L < 64) : lg 64 (2 ^ L) = L :=
  lg_of 64 _ L h (Nat.le_refl _) (by rw [Nat.pow_succ]; have := Nat.two_pow_pos L; omega)

/- Steps of the walks. -/
theorem ones_step (k n : Nat) (hk : k < 64) : ones (64 - k) (n / 2 ^ k) = n / 2 ^ k % 2 + ones (64 - (k + 1)) (n / 2 ^ (k + 1)) := by
  rw [show 64 - k = (64 - (k + 1)) + 1 by omega, ones, div_pow_succ]
theorem tr_step (k n : Nat) (hk : k < 64) : tr (64 - k) (n / 2 ^ k) = if n / 2 ^ k % 2 = 1 then 0 else tr (64 - (k + 1)) (n / 2 ^ (k + 1)) + 1 := by
  rw [show 64 - k = (64 - (k + 1)) + 1 by omega, tr, div_pow_succ]
theorem pow_lt_64 (k : Nat) (hk : k < 64) : 2 ^ k < 2 ^ 64 := Nat.pow_lt_pow_right (by decide) hk
end Go.Proofs.Ytnfapngjbabdaaa
