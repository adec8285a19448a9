/-
  Walks of packages num and place: what reckons alone. Own work.
-/
import Derived.Test.YtelglfmppmdmoaaProg
import Derived.Test.YtelglfmppmdmoaaPlSpec
import Derived.WalkKit
import Derived.WalkSpells
import Derived.Outline
import Derived.KernelRfl
import Derived.Deep.LoopGhost
import Derived.Deep.DrawnRows
import Derived.Deep.Light
import Derived.Laws.Bits64b
import Derived.Handy
namespace Go.Proofs.Ytelglfmppmdmoaa.Pl
open Go.RowKit
attribute [local go_sem ↓] Go.wp_at_zero Go.wp_at_succ

theorem bit_eq (n k : Nat) (hn : n < 2 ^ 64) : (bits BinOp.and IntKind.u64 ((n : Int) / 2 ^ k) 1 == 1) = decide (n / 2 ^ k % 2 = 1) := by
  have e : ((n : Int) / 2 ^ k) = ((n / 2 ^ k : Nat) : Int) := by simp
  rw [e]
  have hm : n / 2 ^ k < 18446744073709551616 := Nat.lt_of_le_of_lt (Nat.div_le_self _ _) hn
  revert hm
  generalize n / 2 ^ k = m
  intro hm
  have := bits_and_u64_nat m 1 hm (by decide)
  rw [show (1 : Int) = ((1 : Nat) : Int) from rfl, this, Nat.and_one_is_mod]
  by_cases h : m % 2 = 1
  · simp [h]
  · have : m % 2 = 0 := by omega
    simp [this]
theorem isOne_any (n k : Nat) (w : World) (hn : n < 2 ^ 64) (hk : k < 64) :
    Calls Try.prog 64 #[.int .u64 n, .int .i64 k] w fun e w' => e = .returned (.bool (decide (n / 2 ^ k % 2 = 1))) ∧ w' = w := by
  have hk0 : (0 : Int) ≤ (k : Int) := Int.natCast_nonneg _
  go_enter Try.func64, Try.ntmps64
  go_wp2
  go_ret
  refine ⟨?_, rfl⟩
  rw [← bit_eq n k hn]
  rfl
theorem ones_any (n : Nat) (w : World) (hn : n < 2 ^ 64) :
    Calls Try.prog 57 #[.int .u64 n] w fun e w' => e = .returned (.int .i64 (ones 64 n : Nat)) ∧ w' = w := by
  go_enter Try.func57, Try.ntmps57
  go_wp2
  go_loopg [3, 5] 64 (fun g c i wr => ∃ k m : Nat, k ≤ 64 ∧ g = 64 - k ∧ i = .int .i64 k ∧ c = .int .i64 m ∧ m ≤ k ∧ m + ones (64 - k) (n / 2 ^ k) = ones 64 n ∧ w = wr)
  case atStart =>
    go_light
    exact ⟨0, 0, Nat.zero_le _, rfl, rfl, rfl, Nat.zero_le _, by simp, rfl⟩
  case round =>
    obtain ⟨k, m, hk, rfl, rfl, rfl, hm, hs, rfl⟩ := hrel
    have hk0 : (0 : Int) ≤ (k : Int) := Int.natCast_nonneg _
    have hm0 : (0 : Int) ≤ (m : Int) := Int.natCast_nonneg _
    have hm1 : (m : Int) ≤ 64 := by omega
    by_cases hlt : k < 64
    · have hk8 : (k : Int) < 64 := by omega
      have HS := ones_step k n hlt
      have HC := isOne_any n k w hn hlt
      by_cases hb : n / 2 ^ k % 2 = 1
      · rw [decide_eq_true hb] at HC
        go_wp2_with (go_at_call 64; refine HC.mono ?_; rintro e w' ⟨rfl, rfl⟩)
        go_roundg (64 - (k + 1))
        case rel =>
          go_light
          exact ⟨k + 1, m + 1, by omega, rfl, by go_num, by go_num, by omega, by omega, rfl⟩
        case measure => go_light; omega
      · rw [decide_eq_false hb] at HC
        go_wp2_with (go_at_call 64; refine HC.mono ?_; rintro e w' ⟨rfl, rfl⟩)
        go_roundg (64 - (k + 1))
        case rel =>
          go_light
          exact ⟨k + 1, m, by omega, rfl, by go_num, rfl, by omega, by omega, rfl⟩
        case measure => go_light; omega
    · obtain rfl : k = 64 := by omega
      clear hk hlt
      go_wp2
      go_ret
      refine ⟨?_, rfl⟩
      rw [← hs]
      rfl
theorem pw_40 (h : Nat) (hh : h ≤ 40) : pw h ≤ 1099511627776 := pw_le hh
/-- A block as a value. -/
abbrev bv (h k : Nat) : Value := .agg #[.int .i64 (h : Int), .int .u64 (k : Int)]
end Go.Proofs.Ytelglfmppmdmoaa.Pl
