/-
  Walks of package num. Own work.
-/
import Derived.Test.YtnfapngjbabdaaaProg
import Derived.Test.YtnfapngjbabdaaaSpec
import Derived.WalkKit
import Derived.WalkSpells
import Derived.Outline
import Derived.KernelRfl
import Derived.Deep.LoopGhost
import Derived.Deep.DrawnRows
import Derived.Deep.Light
import Derived.Laws.Bits64b
namespace Go.Proofs.Ytnfapngjbabdaaa
open Go.RowKit
attribute [local go_sem ↓] Go.wp_at_zero Go.wp_at_succ

theorem bit_eq (n k : Nat) (hn : n < 2 ^ 64) : (bits BinOp.and IntKind.u64 ((n : Int) / 2 ^ k) 1 == 1) = decide (n / 2 ^ k % 2 = 1) := by
  have e : ((n : Int) / 2 ^ k) = ((n / 2 ^ k : Nat) : Int) := by simp
  rw [e]
  have hm : n / 2 ^ k < 18446744073709551616 := Nat.lt_of_le_of_lt (Nat.div_le_self _ _) hn
  revert hm
  generalize n / 2 ^ k = m
  intro hm
  have := bits_and_u64_nat m 1 hm (by decide)
  rw [show (1 : Int) = ((1 : Nat) : Int) from rfl, this, Nat.and_one_is_mod]
  by_cases h : m % 2 = 1
  · simp [h]
  · have : m % 2 = 0 := by omega
    simp [this]
theorem isOne_any (n k : Nat) (w : World) (hn : n < 2 ^ 64) (hk : k < 64) :
    Calls Try.prog 19 #[.int .u64 n, .int .i64 k] w fun e w' => e = .returned (.bool (decide (n / 2 ^ k % 2 = 1))) ∧ w' = w := by
  have hk0 : (0 : Int) ≤ (k : Int) := Int.natCast_nonneg _
  go_enter Try.func19, Try.ntmps19
  go_wp2
  go_ret
  refine ⟨?_, rfl⟩
  rw [← bit_eq n k hn]
  rfl

theorem pow_yes (h : Nat) (w : World) (hh : h < 64) :
    Calls Try.prog 11 #[.int .i64 h] w fun e w' => e = .returned (.tuple #[.int .u64 (2 ^ h : Nat), .bool true]) ∧ w' = w := by
  have hk0 : (0 : Int) ≤ (h : Int) := Int.natCast_nonneg _
  have hk1 : (h : Int) < 64 := by omega
  obtain ⟨p, hp⟩ : ∃ p : Nat, 2 ^ h = p := ⟨_, rfl⟩
  have e1 : IntKind.u64.wrap ((2 : Int) ^ h) = (p : Int) := by
    have := pow_lt_64 h hh
    have e : ((2 : Int) ^ h) = (p : Int) := by rw [← hp]; simp
    rw [hp] at this
    rw [e, IntKind.wrap_u64]; omega
  rw [hp]
  clear hp
  go_enter Try.func11, Try.ntmps11
  go_wp2
  go_ret2
  exact ⟨rfl, rfl⟩
theorem pow_no (h : Int) (w : World) (hh : h < 0 ∨ 64 ≤ h) :
    Calls Try.prog 11 #[.int .i64 h] w fun e w' => e = .returned (.tuple #[.int .u64 0, .bool false]) ∧ w' = w := by
  rcases hh with hh | hh
  all_goals
    go_enter Try.func11, Try.ntmps11
    go_wp2
    go_ret2
  · exact ⟨rfl, rfl⟩
  · exact ⟨rfl, rfl⟩
theorem add_yes (a b : Nat) (w : World) (hh : a + b < 2 ^ 64) :
    Calls Try.prog 12 #[.int .u64 a, .int .u64 b] w fun e w' => e = .returned (.tuple #[.int .u64 (a + b : Nat), .bool true]) ∧ w' = w := by
  obtain ⟨s, hs⟩ : ∃ s : Nat, a + b = s := ⟨_, rfl⟩
  have e1 : IntKind.u64.wrap ((a : Int) + b) = (s : Int) := by simp [IntKind.wrap, IntKind.bits, IntKind.signed]; omega
  have e2 : ¬ (s : Int) < (a : Int) := by omega
  rw [hs]
  clear hh hs
  go_enter Try.func12, Try.ntmps12
  go_wp2
  go_ret2
  exact ⟨rfl, rfl⟩
theorem add_no (a b : Nat) (w : World) (ha : a < 2 ^ 64) (hb : b < 2 ^ 64) (hh : 2 ^ 64 ≤ a + b) :
    Calls Try.prog 12 #[.int .u64 a, .int .u64 b] w fun e w' => e = .returned (.tuple #[.int .u64 0, .bool false]) ∧ w' = w := by
  obtain ⟨s, hs⟩ : ∃ s : Nat, a + b - 2 ^ 64 = s := ⟨_, rfl⟩
  have e1 : IntKind.u64.wrap ((a : Int) + b) = (s : Int) := by simp [IntKind.wrap, IntKind.bits, IntKind.signed]; omega
  have e2 : (s : Int) < (a : Int) := by omega
  clear ha hb hh hs
  go_enter Try.func12, Try.ntmps12
  go_wp2
  go_ret2
  exact ⟨rfl, rfl⟩
theorem ones_any (n : Nat) (w : World) (hn : n < 2 ^ 64) :
    Calls Try.prog 7 #[.int .u64 n] w fun e w' => e = .returned (.int .i64 (ones 64 n : Nat)) ∧ w' = w := by
  go_enter Try.func7, Try.ntmps7
  go_wp2
  go_loopg [3, 5] 64 (fun g c i wr => ∃ k m : Nat, k ≤ 64 ∧ g = 64 - k ∧ i = .int .i64 k ∧ c = .int .i64 m ∧ m ≤ k ∧ m + ones (64 - k) (n / 2 ^ k) = ones 64 n ∧ w = wr)
  case atStart =>
    go_light
    exact ⟨0, 0, Nat.zero_le _, rfl, rfl, rfl, Nat.zero_le _, by simp, rfl⟩
  case round =>
    obtain ⟨k, m, hk, rfl, rfl, rfl, hm, hs, rfl⟩ := hrel
    have hk0 : (0 : Int) ≤ (k : Int) := Int.natCast_nonneg _
    have hm0 : (0 : Int) ≤ (m : Int) := Int.natCast_nonneg _
    have hm1 : (m : Int) ≤ 64 := by omega
    by_cases hlt : k < 64
    · have hk8 : (k : Int) < 64 := by omega
      have HS := ones_step k n hlt
      have HC := isOne_any n k w hn hlt
      by_cases hb : n / 2 ^ k % 2 = 1
      · rw [decide_eq_true hb] at HC
        go_wp2_with (go_at_call 19; refine HC.mono ?_; rintro e w' ⟨rfl, rfl⟩)
        go_roundg (64 - (k + 1))
        case rel =>
          go_light
          exact ⟨k + 1, m + 1, by omega, rfl, by go_num, by go_num, by omega, by omega, rfl⟩
        case measure => go_light; omega
      · rw [decide_eq_false hb] at HC
        go_wp2_with (go_at_call 19; refine HC.mono ?_; rintro e w' ⟨rfl, rfl⟩)
        go_roundg (64 - (k + 1))
        case rel =>
          go_light
          exact ⟨k + 1, m, by omega, rfl, by go_num, rfl, by omega, by omega, rfl⟩
        case measure => go_light; omega
    · obtain rfl : k = 64 := by omega
      clear hk hlt
      go_wp2
      go_ret
      refine ⟨?_, rfl⟩
      rw [← hs]
      rfl
theorem log_any (n : Nat) (w : World) (hn : n < 2 ^ 64) :
    Calls Try.prog 8 #[.int .u64 n] w fun e w' => e = .returned (.int .i64 (lg 64 n)) ∧ w' = w := by
  go_enter Try.func8, Try.ntmps8
  go_wp2
  go_loopg [3, 5] 64 (fun g c i wr => ∃ k : Nat, k ≤ 64 ∧ g = 64 - k ∧ i = .int .i64 k ∧ c = .int .i64 (lg 64 (n % 2 ^ k)) ∧ w = wr)
  case atStart =>
    go_light
    exact ⟨0, Nat.zero_le _, rfl, rfl, by rw [Nat.pow_zero, Nat.mod_one]; rfl, rfl⟩
  case round =>
    obtain ⟨k, hk, rfl, rfl, rfl, rfl⟩ := hrel
    have hk0 : (0 : Int) ≤ (k : Int) := Int.natCast_nonneg _
    by_cases hlt : k < 64
    · have hk8 : (k : Int) < 64 := by omega
      have HC := isOne_any n k w hn hlt
      by_cases hb : n / 2 ^ k % 2 = 1
      · have HS := lg_step_one n k hlt hb
        rw [decide_eq_true hb] at HC
        go_wp2_with (go_at_call 19; refine HC.mono ?_; rintro e w' ⟨rfl, rfl⟩)
        go_roundg (64 - (k + 1))
        case rel =>
          go_light
          exact ⟨k + 1, by omega, rfl, by go_num, by rw [HS], rfl⟩
        case measure => go_light; omega
      · have HS := lg_step_zero n k hb
        rw [decide_eq_false hb] at HC
        go_wp2_with (go_at_call 19; refine HC.mono ?_; rintro e w' ⟨rfl, rfl⟩)
        go_roundg (64 - (k + 1))
        case rel =>
          go_light
          exact ⟨k + 1, by omega, rfl, by go_num, by rw [HS], rfl⟩
        case measure => go_light; omega
    · obtain rfl : k = 64 := by omega
      clear hk hlt
      rw [mod_all n hn] at *
      go_wp2
      go_ret
      exact ⟨rfl, rfl⟩
theorem trail_any (n : Nat) (w : World) (hn : n < 2 ^ 64) :
    Calls Try.prog 10 #[.int .u64 n] w fun e w' => e = .returned (.int .i64 (tr 64 n : Nat)) ∧ w' = w := by
  go_enter Try.func10, Try.ntmps10
  go_wp2
  go_loopg [4] 64 (fun g i wr => ∃ k : Nat, k ≤ 64 ∧ g = 64 - k ∧ i = .int .i64 k ∧ k + tr (64 - k) (n / 2 ^ k) = tr 64 n ∧ w = wr)
  case atStart =>
    go_light
    exact ⟨0, Nat.zero_le _, rfl, rfl, by simp, rfl⟩
  case round =>
    obtain ⟨k, hk, rfl, rfl, hs, rfl⟩ := hrel
    have hk0 : (0 : Int) ≤ (k : Int) := Int.natCast_nonneg _
    by_cases hlt : k < 64
    · have hk8 : (k : Int) < 64 := by omega
      have HC := isOne_any n k w hn hlt
      have HS := tr_step k n hlt
      by_cases hb : n / 2 ^ k % 2 = 1
      · rw [if_pos hb] at HS
        rw [decide_eq_true hb] at HC
        go_wp2_with (go_at_call 19; refine HC.mono ?_; rintro e w' ⟨rfl, rfl⟩)
        go_ret
        refine ⟨?_, rfl⟩
        rw [← hs, HS]
        rfl
      · rw [if_neg hb] at HS
        rw [decide_eq_false hb] at HC
        go_wp2_with (go_at_call 19; refine HC.mono ?_; rintro e w' ⟨rfl, rfl⟩)
        go_roundg (64 - (k + 1))
        case rel =>
          go_light
          exact ⟨k + 1, by omega, rfl, by go_num, by omega, rfl⟩
        case measure => go_light; omega
    · obtain rfl : k = 64 := by omega
      clear hk hlt
      go_wp2
      go_ret
      refine ⟨?_, rfl⟩
      rw [← hs]
      rfl
theorem ceil_zero (w : World) :
    Calls Try.prog 9 #[.int .u64 0] w fun e w' => e = .returned (.int .i64 0) ∧ w' = w := by
  go_enter Try.func9, Try.ntmps9
  go_wp2
  go_ret
  exact ⟨rfl, rfl⟩
theorem ceil_more (n : Nat) (w : World) (h0 : n ≠ 0) (hn : n < 2 ^ 64) :
    Calls Try.prog 9 #[.int .u64 n] w fun e w' => e = .returned (.int .i64 (cl n)) ∧ w' = w := by
  have HC := log_any (n - 1) w (by omega)
  have e0 : ¬ (n : Int) = 0 := by omega
  obtain ⟨m, hm⟩ : ∃ m : Nat, n - 1 = m := ⟨_, rfl⟩
  have e1 : IntKind.u64.wrap ((n : Int) - 1) = (m : Int) := by simp [IntKind.wrap, IntKind.bits, IntKind.signed]; omega
  have e2 : IntKind.i64.wrap (lg 64 m + 1) = lg 64 m + 1 := by
    have := lg_bounds 64 m
    simp [IntKind.wrap, IntKind.bits, IntKind.signed]; omega
  rw [hm] at HC
  rw [cl, hm]
  clear hm hn h0
  generalize lg 64 m = L at *
  go_enter Try.func9, Try.ntmps9
  go_wp2_with (go_at_call 8; refine HC.mono ?_; rintro e w' ⟨rfl, rfl⟩)
  go_ret
  exact ⟨rfl, rfl⟩
theorem ceil_any (n : Nat) (w : World) (hn : n < 2 ^ 64) :
    Calls Try.prog 9 #[.int .u64 n] w fun e w' => e = .returned (.int .i64 (cl n)) ∧ w' = w := by
  by_cases h0 : n = 0
  · subst h0
    exact ceil_zero w
  · exact ceil_more n w h0 hn
end Go.Proofs.Ytnfapngjbabdaaa
