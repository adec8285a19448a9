/-
  Walks of package num: Log, Ceil, Add. Own work.
-/
import Derived.Test.YtelglfmppmdmoaaPlWalkA
import Derived.Test.YtelglfmppmdmoaaCoSpec
namespace Go.Proofs.Ytelglfmppmdmoaa
open Go.RowKit
open Pl (isOne_any pw)
attribute [local go_sem ↓] Go.wp_at_zero Go.wp_at_succ
theorem mod_step (n k : Nat) : n % 2 ^ (k + 1) = n % 2 ^ k + 2 ^ k * (n / 2 ^ k % 2) := by rw [Nat.pow_succ, Nat.mod_mul]
theorem log_any (n : Nat) (w : World) (hn : n < 2 ^ 64) :
    Calls Try.prog 46 #[.int .u64 (n : Int)] w fun e w' => ∃ c : Nat, e = .returned (.int .i64 ((c : Int) - 1)) ∧ n < 2 ^ c ∧ c ≤ 64 ∧ (0 < c → 2 ^ (c - 1) ≤ n) ∧ w = w' := by
  go_enter Try.func46, Try.ntmps46
  go_wp2
  go_loopg [3, 4, 5] 64 (fun g r i4 i wr => ∃ k c : Nat, k ≤ 64 ∧ g = 64 - k ∧ i = .int .i64 (k : Int) ∧ r = .int .i64 ((c : Int) - 1) ∧ c ≤ k ∧ n % 2 ^ k < 2 ^ c ∧ (0 < c → 2 ^ (c - 1) ≤ n % 2 ^ k) ∧ w = wr)
  case atStart =>
    go_light
    exact ⟨0, 0, Nat.zero_le _, rfl, rfl, rfl, Nat.zero_le _, by simp [Nat.mod_one], fun h => absurd h (Nat.lt_irrefl 0), rfl⟩
  case round =>
    obtain ⟨k, c, hk, rfl, rfl, rfl, hc, hs, hs2, rfl⟩ := hrel
    have hk0 : (0 : Int) ≤ (k : Int) := Int.natCast_nonneg _
    by_cases hlt : k < 64
    · have hk8 : (k : Int) < 64 := by omega
      have HM := mod_step n k
      have HC := isOne_any n k w hn hlt
      have hlt2 : n % 2 ^ k < 2 ^ k := Nat.mod_lt _ (Nat.two_pow_pos k)
      by_cases hb : n / 2 ^ k % 2 = 1
      · rw [decide_eq_true hb] at HC
        rw [hb, Nat.mul_one] at HM
        have HX : Hid (n % 2 ^ (k + 1) < 2 ^ (k + 1) ∧ 2 ^ k ≤ n % 2 ^ (k + 1)) := ⟨Nat.mod_lt _ (Nat.two_pow_pos _), by omega⟩
        clear hs hs2 hc HM hlt2
        go_wp2_with (go_at_call 64; refine HC.mono ?_; rintro e w' ⟨rfl, rfl⟩)
        go_roundg (64 - (k + 1))
        case rel =>
          go_light
          exact ⟨k + 1, k + 1, by omega, rfl, by go_num, by congr 1; omega, Nat.le_refl _, HX.out.1, fun _ => HX.out.2, rfl⟩
        case measure => go_light; omega
      · rw [decide_eq_false hb] at HC
        have hb0 : n / 2 ^ k % 2 = 0 := by omega
        rw [hb0, Nat.mul_zero, Nat.add_zero] at HM
        have HX : Hid (n % 2 ^ (k + 1) < 2 ^ c ∧ c ≤ k + 1 ∧ (0 < c → 2 ^ (c - 1) ≤ n % 2 ^ (k + 1))) := ⟨by rw [HM]; exact hs, by omega, by rw [HM]; exact hs2⟩
        clear hs hs2 hc HM hlt2
        go_wp2_with (go_at_call 64; refine HC.mono ?_; rintro e w' ⟨rfl, rfl⟩)
        go_roundg (64 - (k + 1))
        case rel =>
          go_light
          exact ⟨k + 1, c, by omega, rfl, by go_num, rfl, HX.out.2.1, HX.out.1, HX.out.2.2, rfl⟩
        case measure => go_light; omega
    · obtain rfl : k = 64 := by omega
      have HX : Hid (n < 2 ^ c ∧ c ≤ 64 ∧ (0 < c → 2 ^ (c - 1) ≤ n)) := by
        rw [Nat.mod_eq_of_lt hn] at hs hs2
        exact ⟨hs, hc, hs2⟩
      clear hs hs2 hc hlt
      go_wp2
      go_ret
      exact ⟨c, rfl, HX.out.1, HX.out.2.1, HX.out.2.2, rfl⟩
/-- The highest one. -/
theorem log_at (n H : Nat) (w : World) (hn : n < 2 ^ 64) (h1 : 2 ^ H ≤ n) (h2 : n < 2 ^ (H + 1)) :
    Calls Try.prog 46 #[.int .u64 (n : Int)] w fun e w' => e = .returned (.int .i64 (H : Int)) ∧ w' = w := by
  refine (log_any n w hn).mono ?_
  rintro e w' ⟨c, rfl, g1, g2, g3, rfl⟩
  have hc : c = H + 1 := by
    have a1 : H < c := by
      apply Classical.byContradiction
      intro h
      have := Nat.pow_le_pow_right (n := 2) (by decide) (show c ≤ H by omega)
      omega
    have a2 : c - 1 < H + 1 := by
      apply Classical.byContradiction
      intro h
      have := Nat.pow_le_pow_right (n := 2) (by decide) (show H + 1 ≤ c - 1 by omega)
      have := g3 (by omega)
      omega
    omega
  subst hc
  exact ⟨by congr 2; omega, rfl⟩
theorem ceil_any (n : Nat) (w : World) (hn : n ≤ 2 ^ 40) (h0 : 0 < n) :
    Calls Try.prog 24 #[.int .u64 (n : Int)] w fun e w' => ∃ c : Nat, e = .returned (.int .i64 (c : Int)) ∧ n ≤ pw c ∧ c ≤ 64 ∧ w = w' := by
  have hz : ¬ (n : Int) = 0 := by omega
  obtain ⟨p, rfl⟩ : ∃ p, n = p + 1 := ⟨n - 1, by omega⟩
  have e1 : ((p + 1 : Nat) : Int) - 1 = (p : Int) := by omega
  have e2 : IntKind.u64.wrap (p : Int) = (p : Int) := by rw [IntKind.wrap_u64]; omega
  have HL := fun w' => log_any p w' (by omega)
  clear hn h0
  go_enter Try.func24, Try.ntmps24
  go_wp2_with (go_at_call 46; with_reducible refine (HL _).mono ?_; rintro e w1 ⟨c, rfl, hc1, hc2, _, rfl⟩)
  go_ret
  refine ⟨c, by simp, hc1, hc2, rfl⟩
theorem add_yes (a b : Nat) (w : World) (h : a + b < 18446744073709551616) :
    Calls Try.prog 68 #[.int .u64 (a : Int), .int .u64 (b : Int)] w fun e w' => e = .returned (.tuple #[.int .u64 ((a + b : Nat) : Int), .bool true]) ∧ w' = w := by
  have e1 : IntKind.u64.wrap ((a : Int) + (b : Int)) = ((a + b : Nat) : Int) := by rw [IntKind.wrap_u64]; omega
  have e2 : ¬ ((a + b : Nat) : Int) < (a : Int) := by omega
  generalize a + b = c at *
  go_enter Try.func68, Try.ntmps68
  go_wp2
  go_ret2
  exact ⟨rfl, rfl⟩
theorem add_no (a b : Nat) (w : World) (ha : a < 18446744073709551616) (hb : b < 18446744073709551616) (h : ¬ a + b < 18446744073709551616) :
    Calls Try.prog 68 #[.int .u64 (a : Int), .int .u64 (b : Int)] w fun e w' => e = .returned (.tuple #[.int .u64 0, .bool false]) ∧ w' = w := by
  obtain ⟨c, hc⟩ : ∃ c, a + b - 18446744073709551616 = c := ⟨_, rfl⟩
  have e1 : IntKind.u64.wrap ((a : Int) + (b : Int)) = (c : Int) := by rw [IntKind.wrap_u64]; omega
  have e2 : (c : Int) < (a : Int) := by omega
  clear hc ha hb h
  go_enter Try.func68, Try.ntmps68
  go_wp2
  go_ret2
  exact ⟨rfl, rfl⟩
end Go.Proofs.Ytelglfmppmdmoaa
