/-
  Numbers in bytes of seven bits, as plain functions. Own work.
-/
import Derived.Laws.IdiomStrings
namespace Go.Proofs.Ytelglfmppmdmoaa
/-- A number's bytes. -/
def num (n : Nat) : List UInt8 := if n < 128 then [UInt8.ofNat n] else UInt8.ofNat (n % 128 + 128) :: num (n / 128)
termination_by n
decreasing_by omega
theorem num_low {n : Nat} (h : n < 128) : num n = [UInt8.ofNat n] := by rw [num, if_pos h]
theorem num_high {n : Nat} (h : 128 ≤ n) : num n = UInt8.ofNat (n % 128 + 128) :: num (n / 128) := by rw [num, if_neg (by omega)]
theorem num_pos (n : Nat) : 0 < (num n).length := by
  by_cases h : n < 128
  · rw [num_low h]; simp
  · rw [num_high (by omega)]; simp
/-- What is read: the number, the error, how many bytes were taken. -/
def scan : List UInt8 → Nat → Nat → Nat × Nat × Nat
  | [], _, _ => (0, 60, 0)
  | b :: r, i, n =>
    if i = 9 ∧ 1 < b.toNat then (0, 61, 0)
    else if b.toNat < 128 then (if b.toNat = 0 ∧ 0 < i then (0, 61, 0) else (n + b.toNat * 128 ^ i, 0, i + 1))
    else scan r (i + 1) (n + (b.toNat % 128) * 128 ^ i)
theorem ofNat_toNat {x : Nat} (h : x < 256) : (UInt8.ofNat x).toNat = x := by
  rw [UInt8.toNat_ofNat']; exact Nat.mod_eq_of_lt h
theorem pow_le9 {i : Nat} (h : i ≤ 9) : 128 ^ i ≤ 128 ^ 9 := Nat.pow_le_pow_right (by decide) h
theorem scan_num (t : List UInt8) : ∀ (m i acc : Nat), acc < 128 ^ i → acc + m * 128 ^ i < 2 ^ 64 → i ≤ 9 → (i = 0 ∨ 0 < m) →
    scan (num m ++ t) i acc = (acc + m * 128 ^ i, 0, i + (num m).length) := by
  intro m
  induction m using Nat.strongRecOn with
  | _ m ih =>
    intro i acc ha hn hi h0
    by_cases h : m < 128
    · rw [num_low h, List.singleton_append, scan, ofNat_toNat (by omega)]
      have h1 : ¬(i = 9 ∧ 1 < m) := by
        rintro ⟨rfl, h1⟩
        have : 2 * 128 ^ 9 ≤ m * 128 ^ 9 := Nat.mul_le_mul_right _ h1
        have e : 2 * 128 ^ 9 = 2 ^ 64 := by decide
        omega
      rw [if_neg h1, if_pos h, if_neg (by omega)]
      rfl
    · rw [num_high (by omega), List.cons_append, scan, ofNat_toNat (by omega)]
      have h1 : i ≠ 9 := by
        rintro rfl
        have : 128 * 128 ^ 9 ≤ m * 128 ^ 9 := Nat.mul_le_mul_right _ (by omega)
        have e : 2 ^ 64 ≤ 128 * 128 ^ 9 := by decide
        omega
      rw [if_neg (by omega), if_neg (by omega)]
      have hs : acc + (m % 128 + 128) % 128 * 128 ^ i + m / 128 * 128 ^ (i + 1) = acc + m * 128 ^ i := by
        rw [Nat.add_mod_right, Nat.mod_mod, Nat.pow_succ, Nat.mul_comm (128 ^ i), ← Nat.mul_assoc, Nat.add_assoc, ← Nat.add_mul, Nat.mod_add_div']
      have hlt : acc + (m % 128 + 128) % 128 * 128 ^ i < 128 ^ (i + 1) := by
        rw [Nat.add_mod_right, Nat.mod_mod, Nat.pow_succ]
        have : m % 128 * 128 ^ i ≤ 127 * 128 ^ i := Nat.mul_le_mul_right _ (by omega)
        omega
      rw [ih (m / 128) (by omega) (i + 1) _ hlt (by rw [hs]; exact hn) (by omega) (.inr (by omega)), hs, List.length_cons]
      exact congrArg (fun x => (acc + m * 128 ^ i, 0, x)) (by omega)
theorem scan_back : ∀ (l : List UInt8) (i acc n k : Nat), acc < 128 ^ i → i ≤ 9 → scan l i acc = (n, 0, k) →
    ∃ m, n = acc + m * 128 ^ i ∧ num m = l.take (k - i) ∧ i < k ∧ k ≤ 10 ∧ k - i ≤ l.length ∧ (0 < i → 0 < m) ∧ n < 2 ^ 64 := by
  intro l
  induction l with
  | nil => intro i acc n k _ _ h; simp [scan] at h
  | cons b r ih =>
    intro i acc n k ha hi h
    rw [scan] at h
    by_cases h1 : i = 9 ∧ 1 < b.toNat
    · rw [if_pos h1] at h; simp at h
    · rw [if_neg h1] at h
      by_cases h2 : b.toNat < 128
      · rw [if_pos h2] at h
        by_cases h3 : b.toNat = 0 ∧ 0 < i
        · rw [if_pos h3] at h; simp at h
        · rw [if_neg h3] at h
          simp only [Prod.mk.injEq, true_and] at h
          obtain ⟨rfl, rfl⟩ := h
          refine ⟨b.toNat, rfl, ?_, by omega, by omega, by simp, by omega, ?_⟩
          · rw [num_low h2, Nat.add_sub_cancel_left]
            simp
          · have e9 : (128 : Nat) ^ 9 = 9223372036854775808 := by decide
            rcases Nat.lt_or_ge i 9 with h9 | h9
            · have hp : 128 ^ (i + 1) ≤ 128 ^ 9 := pow_le9 (by omega)
              have : b.toNat * 128 ^ i ≤ 127 * 128 ^ i := Nat.mul_le_mul_right _ (by omega)
              rw [Nat.pow_succ] at hp
              omega
            · obtain rfl : i = 9 := by omega
              have : b.toNat * 128 ^ 9 ≤ 1 * 128 ^ 9 := Nat.mul_le_mul_right _ (by omega)
              omega
      · rw [if_neg h2] at h
        have h9 : i ≠ 9 := by omega
        have hlt : acc + b.toNat % 128 * 128 ^ i < 128 ^ (i + 1) := by
          rw [Nat.pow_succ]
          have : b.toNat % 128 * 128 ^ i ≤ 127 * 128 ^ i := Nat.mul_le_mul_right _ (by omega)
          omega
        obtain ⟨m, rfl, h4, h5, h6, h7, h8, h10⟩ := ih (i + 1) _ n k hlt (by omega) h
        have hm := h8 (by omega)
        have hb := b.toNat_lt
        refine ⟨b.toNat % 128 + 128 * m, ?_, ?_, by omega, h6, by simp; omega, by omega, h10⟩
        · rw [Nat.add_mul, Nat.pow_succ, Nat.mul_comm (128 ^ i), ← Nat.mul_assoc, Nat.mul_comm m, Nat.add_assoc]
        · rw [num_high (by omega), show (b.toNat % 128 + 128 * m) / 128 = m by omega, h4, show (b.toNat % 128 + 128 * m) % 128 + 128 = b.toNat by omega,
            show k - i = (k - (i + 1)) + 1 by omega, List.take_succ_cons]
          simp
theorem scan_cut : ∀ (m i acc j : Nat), acc + m * 128 ^ i < 2 ^ 64 → i ≤ 9 → j < (num m).length → scan ((num m).take j) i acc = (0, 60, 0) := by
  intro m
  induction m using Nat.strongRecOn with
  | _ m ih =>
    intro i acc j hn hi hj
    by_cases h : m < 128
    · rw [num_low h] at hj ⊢
      obtain rfl : j = 0 := by simpa using hj
      rfl
    · rw [num_high (by omega)] at hj ⊢
      cases j with
      | zero => rfl
      | succ j =>
        rw [List.take_succ_cons, scan, ofNat_toNat (by omega)]
        have h1 : i ≠ 9 := by
          rintro rfl
          have : 128 * 128 ^ 9 ≤ m * 128 ^ 9 := Nat.mul_le_mul_right _ (by omega)
          have e : 2 ^ 64 ≤ 128 * 128 ^ 9 := by decide
          omega
        rw [if_neg (by omega), if_neg (by omega)]
        have hs : acc + (m % 128 + 128) % 128 * 128 ^ i + m / 128 * 128 ^ (i + 1) = acc + m * 128 ^ i := by
          rw [Nat.add_mod_right, Nat.mod_mod, Nat.pow_succ, Nat.mul_comm (128 ^ i), ← Nat.mul_assoc, Nat.add_assoc, ← Nat.add_mul, Nat.mod_add_div']
        exact ih (m / 128) (by omega) (i + 1) _ j (by rw [hs]; exact hn) (by omega) (by simpa using hj)
/-- An error is one of two, and nothing is read then. -/
theorem scan_err : ∀ (l : List UInt8) (i acc : Nat), (scan l i acc).2.1 = 0 ∨ scan l i acc = (0, 60, 0) ∨ scan l i acc = (0, 61, 0) := by
  intro l
  induction l with
  | nil => intro i acc; exact .inr (.inl rfl)
  | cons b r ih =>
    intro i acc
    rw [scan]
    split
    · exact .inr (.inr rfl)
    · split
      · split
        · exact .inr (.inr rfl)
        · exact .inl rfl
      · exact ih _ _
/-- The number fits. -/
theorem num_len {n : Nat} (h : n < 2 ^ 64) : (num n).length ≤ 10 := by
  have := scan_num [] n 0 0 (by decide) (by simpa using h) (by omega) (.inl rfl)
  obtain ⟨m, h1, h2, h3, h4, h5, _⟩ := scan_back _ 0 0 _ _ (by decide) (by omega) this
  omega
end Go.Proofs.Ytelglfmppmdmoaa
