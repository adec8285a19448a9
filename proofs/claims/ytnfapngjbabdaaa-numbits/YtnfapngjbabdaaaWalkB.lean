/-
  Walks of alive and NumAsks. Own work.
-/
import Derived.Test.YtnfapngjbabdaaaRefA
namespace Go.Proofs.Ytnfapngjbabdaaa
open Go.RowKit
attribute [local go_sem ↓] Go.wp_at_zero Go.wp_at_succ

theorem u64_of {a : Int} (h : (Lit.int .u64 a).wf = true) : 0 ≤ a ∧ a < 18446744073709551616 := by
  simp [Lit.wf, IntKind.min, IntKind.max, IntKind.bits, IntKind.signed] at h
  omega
theorem i64_of {a : Int} (h : (Lit.int .i64 a).wf = true) : -9223372036854775808 ≤ a ∧ a < 9223372036854775808 := by
  simp [Lit.wf, IntKind.min, IntKind.max, IntKind.bits, IntKind.signed] at h
  omega
theorem alive_any (w : World) :
    Calls Try.prog 6 #[] w fun e w' => e = .returned (.bool true) ∧ w' = w := by
  have H1 : Calls Try.prog 11 #[.int .i64 40] w fun e w' => e = .returned (.tuple #[.int .u64 1099511627776, .bool true]) ∧ w' = w := pow_yes 40 w (by decide)
  have H2 : Calls Try.prog 12 #[.int .u64 9223372036854775808, .int .u64 9223372036854775808] w fun e w' => e = .returned (.tuple #[.int .u64 0, .bool false]) ∧ w' = w := add_no 9223372036854775808 9223372036854775808 w (by decide) (by decide) (by decide)
  have H3 : Calls Try.prog 12 #[.int .u64 18446744073709551615, .int .u64 0] w fun e w' => e = .returned (.tuple #[.int .u64 18446744073709551615, .bool true]) ∧ w' = w := add_yes 18446744073709551615 0 w (by decide)
  have H4 : Calls Try.prog 7 #[.int .u64 13] w fun e w' => e = .returned (.int .i64 3) ∧ w' = w := ones_any 13 w (by decide)
  have H5 : Calls Try.prog 8 #[.int .u64 13] w fun e w' => e = .returned (.int .i64 3) ∧ w' = w := log_any 13 w (by decide)
  have H6 : Calls Try.prog 8 #[.int .u64 0] w fun e w' => e = .returned (.int .i64 (-1)) ∧ w' = w := log_any 0 w (by decide)
  have H7 : Calls Try.prog 9 #[.int .u64 13] w fun e w' => e = .returned (.int .i64 4) ∧ w' = w := ceil_any 13 w (by decide)
  have H8 : Calls Try.prog 9 #[.int .u64 8] w fun e w' => e = .returned (.int .i64 3) ∧ w' = w := ceil_any 8 w (by decide)
  have H9 : Calls Try.prog 10 #[.int .u64 12] w fun e w' => e = .returned (.int .i64 2) ∧ w' = w := trail_any 12 w (by decide)
  have HA : Calls Try.prog 10 #[.int .u64 0] w fun e w' => e = .returned (.int .i64 64) ∧ w' = w := trail_any 0 w (by decide)
  go_enter Try.func6, Try.ntmps6
  go_wp2_with (first
    | (go_at_call 11; with_reducible refine H1.mono ?_; rintro e w' ⟨rfl, rfl⟩)
    | (go_at_call 12; with_reducible refine H2.mono ?_; rintro e w' ⟨rfl, rfl⟩)
    | (go_at_call 12; with_reducible refine H3.mono ?_; rintro e w' ⟨rfl, rfl⟩)
    | (go_at_call 7; with_reducible refine H4.mono ?_; rintro e w' ⟨rfl, rfl⟩)
    | (go_at_call 8; with_reducible refine H5.mono ?_; rintro e w' ⟨rfl, rfl⟩)
    | (go_at_call 8; with_reducible refine H6.mono ?_; rintro e w' ⟨rfl, rfl⟩)
    | (go_at_call 9; with_reducible refine H7.mono ?_; rintro e w' ⟨rfl, rfl⟩)
    | (go_at_call 9; with_reducible refine H8.mono ?_; rintro e w' ⟨rfl, rfl⟩)
    | (go_at_call 10; with_reducible refine H9.mono ?_; rintro e w' ⟨rfl, rfl⟩)
    | (go_at_call 10; with_reducible refine HA.mono ?_; rintro e w' ⟨rfl, rfl⟩))
  go_ret
  exact ⟨rfl, rfl⟩
theorem asks_core (n b h o L c t p s : Int) (ok fits : Bool) (w : World)
    (HA : Calls Try.prog 6 #[] w fun e w' => e = .returned (.bool true) ∧ w' = w)
    (H1 : Calls Try.prog 11 #[.int .i64 h] w fun e w' => e = .returned (.tuple #[.int .u64 p, .bool ok]) ∧ w' = w)
    (R1 : Calls Try.prog 13 #[.int .i64 h] w fun e w' => e = .returned (.tuple #[.int .u64 p, .bool ok]) ∧ w' = w)
    (H2 : Calls Try.prog 12 #[.int .u64 n, .int .u64 b] w fun e w' => e = .returned (.tuple #[.int .u64 s, .bool fits]) ∧ w' = w)
    (R2 : Calls Try.prog 14 #[.int .u64 n, .int .u64 b] w fun e w' => e = .returned (.tuple #[.int .u64 s, .bool fits]) ∧ w' = w)
    (H3 : Calls Try.prog 7 #[.int .u64 n] w fun e w' => e = .returned (.int .i64 o) ∧ w' = w)
    (R3 : Calls Try.prog 15 #[.int .u64 n] w fun e w' => e = .returned (.int .i64 o) ∧ w' = w)
    (H4 : Calls Try.prog 8 #[.int .u64 n] w fun e w' => e = .returned (.int .i64 L) ∧ w' = w)
    (R4 : Calls Try.prog 16 #[.int .u64 n] w fun e w' => e = .returned (.int .i64 L) ∧ w' = w)
    (H5 : Calls Try.prog 9 #[.int .u64 n] w fun e w' => e = .returned (.int .i64 c) ∧ w' = w)
    (R5 : Calls Try.prog 17 #[.int .u64 n] w fun e w' => e = .returned (.int .i64 c) ∧ w' = w)
    (H6 : Calls Try.prog 10 #[.int .u64 n] w fun e w' => e = .returned (.int .i64 t) ∧ w' = w)
    (R6 : Calls Try.prog 18 #[.int .u64 n] w fun e w' => e = .returned (.int .i64 t) ∧ w' = w) :
    Calls Try.prog 5 #[.int .u64 n, .int .u64 b, .int .i64 h] w fun e w' => e = .returned (.bool true) ∧ w' = w := by
  go_enter Try.func5, Try.ntmps5
  go_wp2_with (first
    | (go_at_call 6; with_reducible refine HA.mono ?_; rintro e w' ⟨rfl, rfl⟩)
    | (go_at_call 11; with_reducible refine H1.mono ?_; rintro e w' ⟨rfl, rfl⟩)
    | (go_at_call 13; with_reducible refine R1.mono ?_; rintro e w' ⟨rfl, rfl⟩)
    | (go_at_call 12; with_reducible refine H2.mono ?_; rintro e w' ⟨rfl, rfl⟩)
    | (go_at_call 14; with_reducible refine R2.mono ?_; rintro e w' ⟨rfl, rfl⟩)
    | (go_at_call 7; with_reducible refine H3.mono ?_; rintro e w' ⟨rfl, rfl⟩)
    | (go_at_call 15; with_reducible refine R3.mono ?_; rintro e w' ⟨rfl, rfl⟩)
    | (go_at_call 8; with_reducible refine H4.mono ?_; rintro e w' ⟨rfl, rfl⟩)
    | (go_at_call 16; with_reducible refine R4.mono ?_; rintro e w' ⟨rfl, rfl⟩)
    | (go_at_call 9; with_reducible refine H5.mono ?_; rintro e w' ⟨rfl, rfl⟩)
    | (go_at_call 17; with_reducible refine R5.mono ?_; rintro e w' ⟨rfl, rfl⟩)
    | (go_at_call 10; with_reducible refine H6.mono ?_; rintro e w' ⟨rfl, rfl⟩)
    | (go_at_call 18; with_reducible refine R6.mono ?_; rintro e w' ⟨rfl, rfl⟩))
  go_ret
  exact ⟨rfl, rfl⟩
theorem asks_any (n b : Nat) (h : Int) (w : World) (hn : n < 2 ^ 64) (hb : b < 2 ^ 64) :
    Calls Try.prog 5 #[.int .u64 n, .int .u64 b, .int .i64 h] w fun e w' => e = .returned (.bool true) ∧ w' = w := by
  have HP : ∃ p ok, (Calls Try.prog 11 #[.int .i64 h] w fun e w' => e = .returned (.tuple #[.int .u64 p, .bool ok]) ∧ w' = w)
      ∧ (Calls Try.prog 13 #[.int .i64 h] w fun e w' => e = .returned (.tuple #[.int .u64 p, .bool ok]) ∧ w' = w) := by
    by_cases hh : h < 0 ∨ 64 ≤ h
    · exact ⟨_, _, pow_no h w hh, refPow_no h w hh⟩
    · obtain ⟨k, rfl⟩ := Int.eq_ofNat_of_zero_le (show 0 ≤ h by omega)
      exact ⟨_, _, pow_yes k w (by omega), refPow_yes k w (by omega)⟩
  have HS : ∃ p ok, (Calls Try.prog 12 #[.int .u64 n, .int .u64 b] w fun e w' => e = .returned (.tuple #[.int .u64 p, .bool ok]) ∧ w' = w)
      ∧ (Calls Try.prog 14 #[.int .u64 n, .int .u64 b] w fun e w' => e = .returned (.tuple #[.int .u64 p, .bool ok]) ∧ w' = w) := by
    by_cases hh : n + b < 2 ^ 64
    · exact ⟨_, _, add_yes n b w hh, refAdd_yes n b w hh⟩
    · exact ⟨_, _, add_no n b w hn hb (by omega), refAdd_no n b w hb (by omega)⟩
  obtain ⟨p, ok, H1, R1⟩ := HP
  obtain ⟨s, fits, H2, R2⟩ := HS
  exact asks_core n b h _ _ _ _ p s ok fits w (alive_any w) H1 R1 H2 R2 (ones_any n w hn) (refOnes_any n w hn) (log_any n w hn) (refLog_any n w hn)
    (ceil_any n w hn) (refCeil_any n w hn) (trail_any n w hn) (refTrail_any n w hn)
end Go.Proofs.Ytnfapngjbabdaaa
