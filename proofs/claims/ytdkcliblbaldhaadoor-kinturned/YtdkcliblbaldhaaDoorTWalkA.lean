/-
  Walks of package path: wayOf, blocks. Own work.
-/
import Derived.Test.YtdkcliblbaldhaaDoorTGrow
import Derived.Test.YtdkcliblbaldhaaDoorTSpec
namespace Go.Proofs.YtdkcliblbaldhaaDoor
open Go.RowKit
open Cv (RdC zl)
attribute [local go_sem ↓] Go.wp_at_zero Go.wp_at_succ
theorem getD_zl (M : List (Nat × Nat)) (j : Nat) (hj : j < M.length) : (zl M).getD j (0, 0) = (((M.getD j (0, 0)).1 : Int), (M.getD j (0, 0)).2) := by
  unfold zl
  rw [List.getD_eq_getElem?_getD, List.getD_eq_getElem?_getD, List.getElem?_map, List.getElem?_eq_getElem hj]
  rfl
theorem wy_find {n i H : Nat} {A B : List (Nat × Nat)} (hw : Wy n i A H B) {j h : Nat} (hj : j < (Cv.dnL 41 0 n).length) (he : (Cv.dnL 41 0 n).getD j (0, 0) = (h, i / 2 ^ h)) : j = A.length ∧ h = H := by
  rw [hw.all] at hj he
  rw [List.getD_eq_getElem?_getD] at he
  rcases Nat.lt_trichotomy j A.length with hlt | heq | hgt
  · rw [List.getElem?_append_left hlt, List.getElem?_eq_getElem hlt] at he
    have := hw.no_left (List.getElem_mem hlt)
    rw [show A[j] = (h, i / 2 ^ h) from he] at this
    exact absurd this (Nat.lt_irrefl _)
  · subst heq
    rw [List.getElem?_append_right (Nat.le_refl _), Nat.sub_self] at he
    exact ⟨rfl, (congrArg Prod.fst (show (H, i / 2 ^ H) = (h, i / 2 ^ h) from he)).symm⟩
  · rw [List.length_append, List.length_cons] at hj
    obtain ⟨t, rfl⟩ : ∃ t, j = A.length + (t + 1) := ⟨j - A.length - 1, by omega⟩
    have ht : t < B.length := by omega
    rw [List.getElem?_append_right (by omega), show A.length + (t + 1) - A.length = t + 1 by omega, List.getElem?_cons_succ, List.getElem?_eq_getElem ht] at he
    have := hw.no_right (List.getElem_mem ht)
    rw [show B[t] = (h, i / 2 ^ h) from he] at this
    exact absurd this (Nat.lt_irrefl _)
theorem wy_at {n i H : Nat} {A B : List (Nat × Nat)} (hw : Wy n i A H B) : A.length < (Cv.dnL 41 0 n).length ∧ (Cv.dnL 41 0 n).getD A.length (0, 0) = (H, i / 2 ^ H) := by
  rw [hw.all]
  refine ⟨by simp, ?_⟩
  rw [List.getD_eq_getElem?_getD, List.getElem?_append_right (Nat.le_refl _), Nat.sub_self]
  rfl
theorem fit40 {b : Nat × Nat} {n : Nat} (h : (b.2 + 1) * 2 ^ b.1 ≤ n) (hn : n ≤ 2 ^ 40) : Fitb (b.1 : Int) b.2 ∧ b.1 ≤ 40 ∧ b.2 < 2 ^ 40 := by
  have hp := Nat.two_pow_pos b.1
  have h1 : 2 ^ b.1 ≤ (b.2 + 1) * 2 ^ b.1 := Nat.le_mul_of_pos_left _ (by omega)
  have h2 : b.2 + 1 ≤ (b.2 + 1) * 2 ^ b.1 := Nat.le_mul_of_pos_right _ hp
  have h3 : b.1 < 2 ^ b.1 := Nat.lt_two_pow_self
  have h4 : b.1 ≤ 40 := Cv.pw40 (h := b.1) (by show 2 ^ b.1 ≤ _; omega)
  exact ⟨⟨⟨by omega, by omega⟩, by omega⟩, h4, by omega⟩
theorem mount40 (n : Nat) (hn : n ≤ 2 ^ 40) : Cv.errR 0 n n = 0 ∧ Cv.covR 0 n n = Cv.dnL 41 0 n := by
  have h : Cv.errR 0 n n = 0 := by rw [Cv.errR, if_neg (by omega), if_neg (by omega), if_neg (by omega)]
  exact ⟨h, by rw [Cv.covR, if_pos h, Cv.cov_zero n hn]⟩
/-- Cells of a part of a list of blocks. -/
theorem cB_drop : ∀ (l : List (Int × Nat)) (t : Nat), Cv.cB (l.drop t) = (Cv.cB l).drop (2 * t)
  | l, 0 => by simp
  | [], t + 1 => by simp [Cv.cB]
  | b :: r, t + 1 => by
    rw [List.drop_succ_cons, cB_drop r t, show 2 * (t + 1) = 2 * t + 1 + 1 by omega, Cv.cB, List.drop_succ_cons, List.drop_succ_cons]
theorem sb_xor (q : Nat) : Nat.xor q 1 = sb q := by
  unfold sb
  have h1 : Nat.xor q 1 = q ^^^ 1 := rfl
  rw [h1]
  apply Nat.eq_of_testBit_eq
  intro t
  rw [Nat.testBit_xor]
  cases t with
  | zero =>
    have h0 : ∀ x, Nat.testBit x 0 = decide (x % 2 = 1) := fun x => Nat.testBit_zero x
    rw [h0, h0, h0]
    by_cases h : q % 2 = 1
    · rw [if_pos h]
      have : (q - 1) % 2 = 0 := by omega
      simp [h, this]
    · rw [if_neg h]
      have : (q + 1) % 2 = 1 := by omega
      simp [h, this]
  | succ t =>
    rw [Nat.testBit_succ, Nat.testBit_succ, Nat.testBit_succ]
    by_cases h : q % 2 = 1
    · rw [if_pos h, show (q - 1) / 2 = q / 2 by omega]; simp
    · rw [if_neg h, show (q + 1) / 2 = q / 2 by omega]; simp
end Go.Proofs.YtdkcliblbaldhaaDoor
