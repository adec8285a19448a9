/-
  The walk of NumBits. Own work.
-/
import Derived.Test.YtnfapngjbabdaaaWalkB
namespace Go.Proofs.Ytnfapngjbabdaaa
open Go.RowKit
attribute [local go_sem ↓] Go.wp_at_zero Go.wp_at_succ

/-- The highest one, where one of the bits from k on is one. -/
def fst (n k : Nat) : Int := if n / 2 ^ k = 0 then -1 else lg 64 n
/-- The lowest one of the bits from k on. -/
def lst (n k : Nat) : Int := if n / 2 ^ k = 0 then -1 else ((k + tr (64 - k) (n / 2 ^ k) : Nat) : Int)
theorem fst_bounds (n k : Nat) : -1 ≤ fst n k ∧ fst n k < 64 := by
  have := lg_bounds 64 n; simp only [fst]; split <;> omega
theorem fst_neg {n k : Nat} (hn : n < 2 ^ 64) : fst n k < 0 ↔ n / 2 ^ k = 0 := by
  simp only [fst]
  split
  · simp_all
  · rename_i h
    have h0 : n ≠ 0 := by rintro rfl; simp at h
    obtain ⟨L, _, e, _⟩ := lg_at n h0 64 hn
    rw [e]; omega
theorem left_one {n k : Nat} (h : n / 2 ^ k % 2 = 1) : n % 2 ^ (k + 1) - 2 ^ k = n % 2 ^ k ∧ 2 ^ k ≤ n % 2 ^ (k + 1) := by
  rw [mod_pow_succ, h]; omega
theorem left_zero {n k : Nat} (h : ¬ n / 2 ^ k % 2 = 1) : n % 2 ^ (k + 1) = n % 2 ^ k ∧ n % 2 ^ (k + 1) < 2 ^ k := by
  have := lg_step_zero n k h
  rw [this]; exact ⟨rfl, Nat.mod_lt _ (Nat.two_pow_pos _)⟩
theorem fst_one {n k : Nat} (hk : k < 64) (h : n / 2 ^ k % 2 = 1) (h0 : n / 2 ^ (k + 1) = 0) : fst n k = k := by
  have h1 : n / 2 ^ k ≠ 0 := by omega
  rw [fst, if_neg h1]
  have h2 : n < 2 ^ (k + 1) := by
    rcases Nat.lt_or_ge n (2 ^ (k + 1)) with h | h
    · exact h
    · have := Nat.div_pos h (Nat.two_pow_pos _); omega
  have h3 : 2 ^ k ≤ n := by
    rcases Nat.lt_or_ge n (2 ^ k) with h | h
    · exact absurd (Nat.div_eq_of_lt h) h1
    · exact h
  exact lg_of 64 n k hk h3 h2
theorem fst_more {n k : Nat} (h0 : n / 2 ^ (k + 1) ≠ 0) : fst n k = fst n (k + 1) := by
  have h1 : n / 2 ^ k ≠ 0 := by rw [div_pow_succ] at h0; omega
  rw [fst, fst, if_neg h1, if_neg h0]
theorem fst_zero {n k : Nat} (h : ¬ n / 2 ^ k % 2 = 1) : fst n k = fst n (k + 1) := by
  have e : n / 2 ^ (k + 1) = n / 2 ^ k / 2 := div_pow_succ n k
  simp only [fst]
  by_cases h0 : n / 2 ^ k = 0
  · rw [if_pos h0, if_pos (by omega)]
  · rw [if_neg h0, if_neg (by omega)]
theorem lst_one {n k : Nat} (hk : k < 64) (h : n / 2 ^ k % 2 = 1) : lst n k = k := by
  have h1 : n / 2 ^ k ≠ 0 := by omega
  rw [lst, if_neg h1, tr_step k n hk, if_pos h]; simp
theorem lst_zero {n k : Nat} (hk : k < 64) (h : ¬ n / 2 ^ k % 2 = 1) : lst n k = lst n (k + 1) := by
  have e : n / 2 ^ (k + 1) = n / 2 ^ k / 2 := div_pow_succ n k
  simp only [lst]
  by_cases h0 : n / 2 ^ k = 0
  · rw [if_pos h0, if_pos (by omega)]
  · rw [if_neg h0, if_neg (by omega), tr_step k n hk, if_neg h]; omega
theorem at_end {n : Nat} (h0 : n ≠ 0) : fst n 0 = lg 64 n ∧ lst n 0 = (tr 64 n : Nat) := by
  simp [fst, lst, h0]
theorem at_top {n : Nat} (hn : n < 2 ^ 64) : n / 2 ^ 64 = 0 := Nat.div_eq_of_lt hn

theorem bits_zero (w : World) :
    Calls Try.prog 3 #[.int .u64 0] w fun e w' => e = .returned (.bool true) ∧ w' = w := by
  have HA := alive_any w
  have H1 : Calls Try.prog 7 #[.int .u64 0] w fun e w' => e = .returned (.int .i64 0) ∧ w' = w := ones_any 0 w (by decide)
  have H2 : Calls Try.prog 8 #[.int .u64 0] w fun e w' => e = .returned (.int .i64 (-1)) ∧ w' = w := log_any 0 w (by decide)
  have H3 : Calls Try.prog 9 #[.int .u64 0] w fun e w' => e = .returned (.int .i64 0) ∧ w' = w := ceil_any 0 w (by decide)
  have H4 : Calls Try.prog 10 #[.int .u64 0] w fun e w' => e = .returned (.int .i64 64) ∧ w' = w := trail_any 0 w (by decide)
  go_enter Try.func3, Try.ntmps3
  go_wp2_with (first
    | (go_at_call 6; with_reducible refine HA.mono ?_; rintro e w' ⟨rfl, rfl⟩)
    | (go_at_call 7; with_reducible refine H1.mono ?_; rintro e w' ⟨rfl, rfl⟩)
    | (go_at_call 8; with_reducible refine H2.mono ?_; rintro e w' ⟨rfl, rfl⟩)
    | (go_at_call 9; with_reducible refine H3.mono ?_; rintro e w' ⟨rfl, rfl⟩)
    | (go_at_call 10; with_reducible refine H4.mono ?_; rintro e w' ⟨rfl, rfl⟩))
  go_ret
  exact ⟨rfl, rfl⟩
theorem bits_more (n : Nat) (w : World) (h0 : n ≠ 0) (hn : n < 2 ^ 64) :
    Calls Try.prog 3 #[.int .u64 n] w fun e w' => e = .returned (.bool true) ∧ w' = w := by
  have HA := alive_any w
  have e0 : ((n : Int) == 0) = false := by simp; omega
  go_enter Try.func3, Try.ntmps3
  go_wp2_with (go_at_call 6; with_reducible refine HA.mono ?_; rintro e w' ⟨rfl, rfl⟩)
  go_loopg [3, 4, 5, 6, 7] 64 (fun g l f z c i wr => ∃ k : Nat, k ≤ 64 ∧ g = k ∧ i = .int .i64 ((k : Int) - 1) ∧ l = .int .u64 (n % 2 ^ k : Nat) ∧ f = .int .i64 (fst n k) ∧ z = .int .i64 (lst n k) ∧ c = .int .i64 (ones (64 - k) (n / 2 ^ k) : Nat) ∧ w' = wr)
  case atStart =>
    go_light
    have := at_top hn
    exact ⟨64, Nat.le_refl _, rfl, rfl, by rw [mod_all n hn], by simp [fst, this], by simp [lst, this], rfl, rfl⟩
  case round =>
    obtain ⟨k, hk, hg, rfl, rfl, rfl, rfl, rfl, rfl⟩ := hrel
    obtain rfl := hg.symm
    cases k with
    | zero =>
      obtain ⟨a1, a2⟩ := at_end h0
      have a3 : n % 2 ^ 0 = 0 := by rw [Nat.pow_zero, Nat.mod_one]
      have a4 : ones (64 - 0) (n / 2 ^ 0) = ones 64 n := by simp
      have a5 : ((0 : Nat) : Int) - 1 = -1 := rfl
      rw [a1, a2, a3, a4, a5]
      have H1 := ones_any n w' hn
      have H2 := log_any n w' hn
      have H3 := trail_any n w' hn
      have H4 := ceil_any n w' hn
      have H5 := ones_any (n - 1) w' (by omega)
      have b1 := ones_pred 64 n h0 hn
      have b2 := cl_ones n h0 hn
      have b3 := ones_le 64 n
      have b4 := tr_le 64 n
      have b5 := lg_bounds 64 n
      have b6 := ones_pos 64 n h0 hn
      clear a1 a2 a3 a4 a5
      obtain ⟨m, hm⟩ : ∃ m : Nat, n - 1 = m := ⟨_, rfl⟩
      have e1 : IntKind.u64.wrap ((n : Int) - 1) = (m : Int) := by rw [IntKind.wrap_u64]; omega
      rw [hm] at H5 b1
      revert H1 H2 H3 H4 b2 b3 b4 b5 b6 H5 b1
      generalize ones 64 n = o
      generalize ones 64 m = o1
      generalize tr 64 n = t
      generalize lg 64 n = L
      generalize cl n = c
      intro H1 H2 H3 H4 b2 b3 b4 b5 b6 b1 H5
      have e2 : IntKind.i64.wrap ((o : Int) - 1) = (o : Int) - 1 := by simp [IntKind.wrap, IntKind.bits, IntKind.signed]; omega
      have e3 : IntKind.i64.wrap ((o : Int) - 1 + t) = (o1 : Int) := by simp [IntKind.wrap, IntKind.bits, IntKind.signed]; omega
      have e4 : IntKind.i64.wrap (L + 1) = L + 1 := by simp [IntKind.wrap, IntKind.bits, IntKind.signed]; omega
      clear hm b1 b3 b4 b5 b6 hn hk
      by_cases ho : o = 1
      · rw [if_pos ho] at b2
        subst b2
        have e5 : ((o : Int) == 1) = true := by simp; omega
        clear ho
        go_wp2_with (first
          | (go_at_call 7; with_reducible refine H1.mono ?_; rintro e w' ⟨rfl, rfl⟩)
          | (go_at_call 8; with_reducible refine H2.mono ?_; rintro e w' ⟨rfl, rfl⟩)
          | (go_at_call 10; with_reducible refine H3.mono ?_; rintro e w' ⟨rfl, rfl⟩)
          | (go_at_call 9; with_reducible refine H4.mono ?_; rintro e w' ⟨rfl, rfl⟩)
          | (go_at_call 7; with_reducible refine H5.mono ?_; rintro e w' ⟨rfl, rfl⟩))
        go_ret
        exact ⟨rfl, rfl⟩
      · rw [if_neg ho] at b2
        subst b2
        have e5 : ((o : Int) == 1) = false := by simp; omega
        clear ho
        go_wp2_with (first
          | (go_at_call 7; with_reducible refine H1.mono ?_; rintro e w' ⟨rfl, rfl⟩)
          | (go_at_call 8; with_reducible refine H2.mono ?_; rintro e w' ⟨rfl, rfl⟩)
          | (go_at_call 10; with_reducible refine H3.mono ?_; rintro e w' ⟨rfl, rfl⟩)
          | (go_at_call 9; with_reducible refine H4.mono ?_; rintro e w' ⟨rfl, rfl⟩)
          | (go_at_call 7; with_reducible refine H5.mono ?_; rintro e w' ⟨rfl, rfl⟩))
        go_ret
        exact ⟨rfl, rfl⟩
    | succ k =>
      have hk1 : k < 64 := by omega
      rw [show ((k + 1 : Nat) : Int) - 1 = (k : Int) by omega]
      have hk0 : (0 : Int) ≤ (k : Int) := Int.natCast_nonneg _
      have hk2 : (k : Int) < 64 := by omega
      have HP := pow_yes k w' hk1
      have HS := ones_step k n hk1
      have b1 := ones_le (64 - (k + 1)) (n / 2 ^ (k + 1))
      have b2 := fst_bounds n (k + 1)
      have b3 := @fst_neg n (k + 1) hn
      have hl : n % 2 ^ (k + 1) < 2 ^ 64 := Nat.lt_of_le_of_lt (Nat.mod_le _ _) hn
      obtain ⟨p, hp⟩ : ∃ p : Nat, 2 ^ k = p := ⟨_, rfl⟩
      by_cases hb : n / 2 ^ k % 2 = 1
      · obtain ⟨c1, c2⟩ := left_one hb
        have c3 := lst_one hk1 hb
        rw [hb] at HS
        obtain ⟨l, hl2⟩ : ∃ l : Nat, n % 2 ^ (k + 1) = l := ⟨_, rfl⟩
        obtain ⟨r, hr⟩ : ∃ r : Nat, n % 2 ^ k = r := ⟨_, rfl⟩
        rw [hl2] at c1 c2 hl ⊢
        rw [hr] at c1
        rw [hp] at c1 c2 HP
        have e1 : IntKind.u64.wrap ((l : Int) - p) = (r : Int) := by rw [IntKind.wrap_u64]; omega
        have e2 : (p : Int) ≤ (l : Int) := by omega
        by_cases hf : n / 2 ^ (k + 1) = 0
        · have c4 := fst_one hk1 hb hf
          have e3 := b3.mpr hf
          clear c1 c2 b3 hl hl2 hp hb hf hn
          generalize fst n (k + 1) = f at *
          generalize lst n (k + 1) = z at *
          generalize ones (64 - (k + 1)) (n / 2 ^ (k + 1)) = c at *
          have d1 : (0 : Int) ≤ (c : Int) := Int.natCast_nonneg _
          have d2 : (c : Int) ≤ 64 := by omega
          go_wp2_with (go_at_call 11; with_reducible refine HP.mono ?_; rintro e w' ⟨rfl, rfl⟩)
          go_roundg k
          case rel =>
            go_light
            refine ⟨k, by omega, rfl, by go_num, by rw [hr], by rw [c4], by rw [c3], ?_, rfl⟩
            rw [HS]; go_num
          case measure => go_light; omega
        · have c4 := fst_more hf
          have e3 : ¬ fst n (k + 1) < 0 := fun h => hf (b3.mp h)
          clear c1 c2 b3 hl hl2 hp hb hf hn
          generalize fst n (k + 1) = f at *
          generalize lst n (k + 1) = z at *
          generalize ones (64 - (k + 1)) (n / 2 ^ (k + 1)) = c at *
          have d1 : (0 : Int) ≤ (c : Int) := Int.natCast_nonneg _
          have d2 : (c : Int) ≤ 64 := by omega
          go_wp2_with (go_at_call 11; with_reducible refine HP.mono ?_; rintro e w' ⟨rfl, rfl⟩)
          go_roundg k
          case rel =>
            go_light
            refine ⟨k, by omega, rfl, by go_num, by rw [hr], by rw [c4], by rw [c3], ?_, rfl⟩
            rw [HS]; go_num
          case measure => go_light; omega
      · obtain ⟨c1, c2⟩ := left_zero hb
        have c3 := lst_zero hk1 hb
        have c4 := fst_zero hb
        have hz : n / 2 ^ k % 2 = 0 := by omega
        rw [hz, Nat.zero_add] at HS
        rw [hp] at c2 HP
        obtain ⟨l, hl2⟩ : ∃ l : Nat, n % 2 ^ (k + 1) = l := ⟨_, rfl⟩
        rw [hl2] at c1 c2 hl ⊢
        have e2 : ¬ (p : Int) ≤ (l : Int) := by omega
        have c5 := c1.symm
        clear c1 c2 b3 hl hl2 hp hb hn hz
        generalize fst n (k + 1) = f at *
        generalize lst n (k + 1) = z at *
        generalize ones (64 - (k + 1)) (n / 2 ^ (k + 1)) = c at *
        go_wp2_with (go_at_call 11; with_reducible refine HP.mono ?_; rintro e w' ⟨rfl, rfl⟩)
        go_roundg k
        case rel =>
          go_light
          exact ⟨k, by omega, rfl, by go_num, by rw [c5], by rw [c4], by rw [c3], by rw [HS], rfl⟩
        case measure => go_light; omega
theorem bits_any (n : Nat) (w : World) (hn : n < 2 ^ 64) :
    Calls Try.prog 3 #[.int .u64 n] w fun e w' => e = .returned (.bool true) ∧ w' = w := by
  by_cases h0 : n = 0
  · subst h0
    exact bits_zero w
  · exact bits_more n w h0 hn
end Go.Proofs.Ytnfapngjbabdaaa
