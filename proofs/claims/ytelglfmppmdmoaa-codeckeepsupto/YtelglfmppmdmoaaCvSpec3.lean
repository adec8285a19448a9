/-
  Covers: how many blocks a rest has; sets made of numbers. Own work.
-/
import Derived.Test.YtelglfmppmdmoaaCvSpec2
namespace Go.Proofs.Ytelglfmppmdmoaa.Cv
open Pl
theorem part_len (H K : Nat) : ∀ M : List Nat, (∀ i ∈ M, inb (H + 1) K i = true) → (M.filter (inb H (2 * K))).length + (M.filter (inb H (2 * K + 1))).length = M.length := by
  have e1 := half_lo H K
  have e2 := half_mid H K
  have e3 := half_hi H K
  intro M
  induction M with
  | nil => intro _; rfl
  | cons i M ih =>
    intro h
    have h1 := inb_iff.1 (h i List.mem_cons_self)
    have h2 := ih (fun j hj => h j (List.mem_cons_of_mem _ hj))
    by_cases hm : i < (2 * K + 1) * pw H
    · have a1 : inb H (2 * K) i = true := inb_iff.2 ⟨by omega, hm⟩
      have a2 : inb H (2 * K + 1) i = false := by
        cases hb : inb H (2 * K + 1) i with
        | false => rfl
        | true => have := (inb_iff.1 hb).1; omega
      rw [List.filter_cons_of_pos a1, List.filter_cons_of_neg (by rw [a2]; decide), List.length_cons, List.length_cons]; omega
    · have a1 : inb H (2 * K + 1) i = true := inb_iff.2 ⟨by omega, by omega⟩
      have a2 : inb H (2 * K) i = false := by
        cases hb : inb H (2 * K) i with
        | false => rfl
        | true => have := (inb_iff.1 hb).2; omega
      rw [List.filter_cons_of_pos a1, List.filter_cons_of_neg (by rw [a2]; decide), List.length_cons, List.length_cons]; omega
theorem filter_twice (S : List Nat) (H K : Nat) : ∀ i ∈ S.filter (inb H K), inb H K i = true := fun _ hi => (List.mem_filter.1 hi).2
theorem tno_count : ∀ H K (S : List Nat), ((S.filter (inb H K)).length = 0 → (tno H K S).length = 1) ∧ ((S.filter (inb H K)).length ≠ 0 → (tno H K S).length ≤ (S.filter (inb H K)).length * H) := by
  intro H
  induction H with
  | zero =>
    intro K S
    refine ⟨fun h => by rw [tno, if_pos h]; rfl, fun h => by rw [tno, if_neg h]; simp⟩
  | succ H ih =>
    intro K S
    refine ⟨fun h => by rw [tno, if_pos h]; rfl, fun h => ?_⟩
    rw [tno, if_neg h, List.length_append]
    have hp := part_len H K (S.filter (inb (H + 1) K)) (filter_twice S (H + 1) K)
    obtain ⟨l0, l1⟩ := ih (2 * K) (S.filter (inb (H + 1) K))
    obtain ⟨r0, r1⟩ := ih (2 * K + 1) (S.filter (inb (H + 1) K))
    generalize ((S.filter (inb (H + 1) K)).filter (inb H (2 * K))).length = a at *
    generalize ((S.filter (inb (H + 1) K)).filter (inb H (2 * K + 1))).length = b at *
    generalize (tno H (2 * K) (S.filter (inb (H + 1) K))).length = x at *
    generalize (tno H (2 * K + 1) (S.filter (inb (H + 1) K))).length = y at *
    generalize (S.filter (inb (H + 1) K)).length = c at *
    subst hp
    rw [Nat.mul_add, Nat.mul_one, Nat.add_mul]
    by_cases ha : a = 0
    · have := l0 ha
      have hb : b ≠ 0 := by omega
      have := r1 hb
      subst ha
      omega
    · have := l1 ha
      by_cases hb : b = 0
      · have := r0 hb
        subst hb
        omega
      · have := r1 hb
        omega
theorem from_part (S : List Nat) (x p k h : Nat) (hk : k * pw h = x) (hp : x + p = (k + 1) * pw h) : (S.filter (inb h k)).length + (S.filter (fun i => decide (x + p ≤ i))).length = (S.filter (fun i => decide (x ≤ i))).length := by
  have hp0 : 0 < p := by have := blk_lt h k; omega
  induction S with
  | nil => rfl
  | cons i S ih =>
    by_cases h1 : x + p ≤ i
    · have a1 : inb h k i = false := by
        cases hb : inb h k i with
        | false => rfl
        | true => have := (inb_iff.1 hb).2; omega
      rw [List.filter_cons_of_neg (by rw [a1]; decide), List.filter_cons_of_pos (by simpa using h1), List.filter_cons_of_pos (by simp; omega), List.length_cons, List.length_cons]; omega
    · by_cases h2 : x ≤ i
      · have a1 : inb h k i = true := inb_iff.2 ⟨by omega, by omega⟩
        rw [List.filter_cons_of_pos a1, List.filter_cons_of_neg (by simpa using h1), List.filter_cons_of_pos (by simpa using h2), List.length_cons, List.length_cons]; omega
      · have a1 : inb h k i = false := by
          cases hb : inb h k i with
          | false => rfl
          | true => have := (inb_iff.1 hb).1; omega
        rw [List.filter_cons_of_neg (by rw [a1]; decide), List.filter_cons_of_neg (by simpa using h1), List.filter_cons_of_neg (by simpa using h2)]; exact ih
theorem pw_inj {a b : Nat} (h : pw a ≤ pw b) : a ≤ b := by
  by_cases hab : a ≤ b
  · exact hab
  · have h1 : pw (b + 1) ≤ pw a := pw_le (by omega)
    have h2 := pw_succ b
    have h3 := pw_pos b
    omega
theorem forest_count (n C : Nat) (S : List Nat) (hC : n ≤ pw C) : ∀ h x, (∃ c, x = c * pw h) → n - x < pw h → x ≤ n → ((dnL h x n).flatMap (fun b => tno b.1 b.2 S)).length ≤ (S.filter (fun i => decide (x ≤ i))).length * C + (dnL h x n).length := by
  intro h
  induction h with
  | zero => intro x _ _ _; simp [dnL]
  | succ h ih =>
    intro x h1 h2 h3
    obtain ⟨c, hc⟩ := h1
    have hp := pw_pos h
    have hps := pw_succ h
    rw [mul_half] at hc
    rw [dnL]
    split
    · rename_i hfit
      have hk : x / pw h = 2 * c := by rw [hc]; exact Nat.mul_div_cancel _ hp
      have e1 : (2 * c + 1) * pw h = x + pw h := by rw [Nat.add_mul, Nat.one_mul, ← hc]
      rw [hk, List.flatMap_cons, List.length_append, List.length_cons]
      have t2 := ih (x + pw h) ⟨2 * c + 1, e1.symm⟩ (by omega) (by omega)
      have hpart := from_part S x (pw h) (2 * c) h hc.symm e1.symm
      obtain ⟨a0, a1⟩ := tno_count h (2 * c) S
      have hhC : h ≤ C := pw_inj (by omega)
      dsimp only
      generalize (S.filter (inb h (2 * c))).length = a at *
      generalize (S.filter (fun i => decide (x + pw h ≤ i))).length = b at *
      generalize (S.filter (fun i => decide (x ≤ i))).length = d at *
      subst hpart
      rw [Nat.add_mul]
      by_cases ha : a = 0
      · have := a0 ha
        subst ha
        omega
      · have h5 := a1 ha
        have h6 : a * h ≤ a * C := Nat.mul_le_mul_left _ hhC
        omega
    · exact ih x ⟨2 * c, hc⟩ (by omega) h3
theorem rst_count (n C : Nat) (S : List Nat) (hn : n ≤ 2 ^ 40) (hc : Chain 0 S n) (hC : n ≤ pw C) : (rst 0 n S).length ≤ S.length * C + 40 := by
  rw [rest_ref n S hn hc]
  have h1 := forest_count n C S hC 41 0 ⟨0, by simp⟩ (by have : pw 41 = 2 ^ 41 := rfl
                                                         omega) (Nat.zero_le _)
  have h2 := cov_forty n hn
  rw [cov_zero n hn] at h2
  have h3 : (S.filter (fun i => decide (0 ≤ i))).length * C ≤ S.length * C := Nat.mul_le_mul_right _ (List.length_filter_le _ _)
  omega
theorem til_skip {A : Nat → Prop} {q p : Nat} {L : List (Nat × Nat)} (h : Til A q p L) (hp : ¬ A p) (hq : p < q) : Til A q (p + 1) L := by
  cases L with
  | nil => exact ⟨hq, fun i h1 h2 => h.2 i (by omega) h2⟩
  | cons b L =>
    obtain ⟨a1, a2, a3, a4, a5, a6⟩ := h
    have hlt := blk_lt b.1 b.2
    have hne : p ≠ b.2 * pw b.1 := fun e => hp (a4 p (by omega) (by omega))
    exact ⟨by omega, a2, fun i h1 h2 => a3 i (by omega) h2, a4, a5, a6⟩
theorem chain_jump {L : List Nat} {a b n : Nat} (h : Chain a L n) (hb : b ≤ n) (hno : ∀ s ∈ L, a ≤ s → s < b → False) : Chain b L n := by
  cases L with
  | nil => exact hb
  | cons s r =>
    refine ⟨?_, h.2⟩
    by_cases hs : b ≤ s
    · exact hs
    · exact (hno s List.mem_cons_self h.1 (by omega)).elim
theorem chain_insert : ∀ (j : Nat) (S : List Nat) (a x n : Nat), Chain a S n → a ≤ x → x < n → (∀ t, t < j → t < S.length → S.getD t 0 < x) → (j < S.length → x < S.getD j 0) → Chain a (S.take j ++ x :: S.drop j) n := by
  intro j
  induction j with
  | zero =>
    intro S a x n h ha hx _ h2
    refine ⟨ha, ?_⟩
    cases S with
    | nil => exact hx
    | cons s r => exact ⟨by have := h2 (by simp); simp at this; omega, h.2⟩
  | succ j ih =>
    intro S a x n h ha hx h1 h2
    cases S with
    | nil => exact ⟨ha, hx⟩
    | cons s r =>
      have hs := h1 0 (by omega) (by simp)
      simp at hs
      refine ⟨h.1, ih r (s + 1) x n h.2 (by omega) hx (fun t ht htl => ?_) (fun hj => ?_)⟩
      · have := h1 (t + 1) (by omega) (by simp; omega); simpa using this
      · have := h2 (by simp; omega); simpa using this
theorem chain_drop : ∀ {S : List Nat} {a n : Nat} (_ : Chain a S n) (j : Nat), j < S.length → S.getD j 0 < n ∧ a ≤ S.getD j 0 ∧ ∀ t, t < j → S.getD t 0 < S.getD j 0 := by
  intro S
  induction S with
  | nil => intro a n _ j hj; simp at hj
  | cons s r ih =>
    intro a n h j hj
    have hle := chain_le h.2
    cases j with
    | zero => exact ⟨by simp; omega, by simpa using h.1, fun t ht => absurd ht (Nat.not_lt_zero t)⟩
    | succ j =>
      obtain ⟨g1, g2, g3⟩ := ih h.2 j (by simp at hj; omega)
      have h1 := h.1
      refine ⟨by simpa using g1, by simp; simp at g2; omega, fun t ht => ?_⟩
      cases t with
      | zero => simp; simp at g2; omega
      | succ t => have := g3 t (by omega); simpa using this
theorem chain_inc {S : List Nat} {n : Nat} (h : Chain 0 S n) (h0 : S ≠ []) (hn : n ≤ 2 ^ 40) : errS n S = 0 := by
  have hl : 0 < S.length := List.length_pos_iff.2 h0
  have hi : Inc S := ⟨hl, fun i hi => (chain_drop h (i + 1) hi).2.2 i (by omega)⟩
  have hlast := (chain_drop h (S.length - 1) (by omega)).1
  rw [errS, if_neg (by omega), if_neg (by rw [(incB_iff S).2 hi]; decide), if_neg (by omega)]
end Go.Proofs.Ytelglfmppmdmoaa.Cv
