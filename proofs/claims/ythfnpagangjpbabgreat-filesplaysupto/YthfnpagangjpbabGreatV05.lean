/-
  Own work: Spec, WalkA, WalkB.
-/
import Derived.Test.YthfnpagangjpbabGreatRows
import Derived.Test.YthfnpagangjpbabGreatProg
import Derived.WalkKit
import Derived.WalkSpells
import Derived.Outline
import Derived.KernelRfl
import Derived.Deep.LoopGhost
import Derived.Deep.DrawnRows
import Derived.Deep.Light
import Derived.Laws.Bits64b
import Derived.Handy
import Derived.BigQuiet
namespace Go.Proofs.YthfnpagangjpbabGreat.Pl
def ones : Nat → Nat → Nat
  | 0, _ => 0
  | k + 1, n => n % 2 + ones k (n / 2)
theorem div_pow_succ (n k : Nat) : n / 2 ^ (k + 1) = n / 2 ^ k / 2 := by
  rw [Nat.pow_succ, Nat.div_div_eq_div_mul]
theorem ones_zero (k : Nat) : ones k 0 = 0 := by
  induction k with
  | zero => rfl
  | succ k ih => simp [ones, ih]
theorem ones_le (k n : Nat) : ones k n ≤ k := by
  induction k generalizing n with
  | zero => exact Nat.le_refl _
  | succ k ih => have := ih (n / 2); simp only [ones]; omega
theorem ones_step (k n : Nat) (hk : k < 64) : ones (64 - k) (n / 2 ^ k) = n / 2 ^ k % 2 + ones (64 - (k + 1)) (n / 2 ^ (k + 1)) := by
  rw [show 64 - k = (64 - (k + 1)) + 1 by omega, ones, div_pow_succ]
def N (n : Nat) : Nat := 2 * n - ones 64 n
def pw (h : Nat) : Nat := 2 ^ h
def at' (h k : Nat) : Nat := 2 * pw h * (k + 1) - 2 - ones 64 k
def fr (h k : Nat) : Nat := 2 * pw h * k - ones 64 k
def down : Nat → Nat → Nat → Nat × Nat
  | 0, k, _ => (0, k)
  | h + 1, k, a => if a = 4 * pw h - 2 then (h + 1, k) else if a < 2 * pw h - 1 then down h (2 * k) a else down h (2 * k + 1) (a - (2 * pw h - 1))
theorem pw_succ (h : Nat) : pw (h + 1) = 2 * pw h := by simp [pw, Nat.pow_succ, Nat.mul_comm]
theorem pw_zero : pw 0 = 1 := rfl
theorem pw_pos (h : Nat) : 0 < pw h := Nat.two_pow_pos h
theorem pw_add (a b : Nat) : pw (a + b) = pw a * pw b := Nat.pow_add 2 a b
theorem pw_le {a b : Nat} (h : a ≤ b) : pw a ≤ pw b := Nat.pow_le_pow_right (by decide) h
theorem ones_self (j k : Nat) : ones j k ≤ k := by
  induction j generalizing k with
  | zero => exact Nat.zero_le _
  | succ j ih => have := ih (k / 2); simp only [ones]; omega
theorem ones_more (j k : Nat) (h : k < 2 ^ j) : ones (j + 1) k = ones j k := by
  induction j generalizing k with
  | zero => simp at h; subst h; rfl
  | succ j ih =>
    rw [ones, ih (k / 2) (by rw [Nat.pow_succ] at h; omega)]; rfl
theorem ones_two (k : Nat) (h : k < 2 ^ 63) : ones 64 (2 * k) = ones 64 k := by
  rw [ones_more 63 k h, ones]
  have e1 : 2 * k % 2 = 0 := by omega
  have e2 : 2 * k / 2 = k := by omega
  rw [e1, e2]; omega
theorem ones_odd (k : Nat) (h : k < 2 ^ 63) : ones 64 (2 * k + 1) = ones 64 k + 1 := by
  rw [ones_more 63 k h, ones]
  have e1 : (2 * k + 1) % 2 = 1 := by omega
  have e2 : (2 * k + 1) / 2 = k := by omega
  rw [e1, e2]; omega
theorem ones_shift (h k : Nat) (hb : k * pw h < 2 ^ 63) : ones 64 (k * pw h) = ones 64 k := by
  induction h with
  | zero => simp [pw]
  | succ h ih =>
    rw [pw_succ] at hb ⊢
    have e : k * (2 * pw h) = 2 * (k * pw h) := by rw [Nat.mul_left_comm]
    rw [e] at hb ⊢
    rw [ones_two _ (by omega), ih (by omega)]
theorem ones_last (h k : Nat) (hb : (k + 1) * pw h < 2 ^ 63) : ones 64 ((k + 1) * pw h - 1) = ones 64 k + h := by
  induction h with
  | zero => simp [pw]
  | succ h ih =>
    rw [pw_succ] at hb ⊢
    have e : (k + 1) * (2 * pw h) = 2 * ((k + 1) * pw h) := by rw [Nat.mul_left_comm]
    have hp : 0 < (k + 1) * pw h := Nat.mul_pos (by omega) (pw_pos h)
    rw [e] at hb ⊢
    have e2 : 2 * ((k + 1) * pw h) - 1 = 2 * ((k + 1) * pw h - 1) + 1 := by omega
    rw [e2, ones_odd _ (by omega), ih (by omega)]; omega
theorem at_eq (h k : Nat) : at' h k + 2 + ones 64 k = 2 * pw h * (k + 1) := by
  have h1 := ones_self 64 k
  have h2 : 1 * (2 * (k + 1)) ≤ pw h * (2 * (k + 1)) := Nat.mul_le_mul_right _ (pw_pos h)
  have e : 2 * pw h * (k + 1) = pw h * (2 * (k + 1)) := by rw [Nat.mul_comm 2, Nat.mul_assoc]
  simp only [at']
  rw [e]; omega
theorem fr_eq (h k : Nat) : fr h k + ones 64 k = 2 * pw h * k := by
  have h1 := ones_self 64 k
  have h2 : 1 * (2 * k) ≤ pw h * (2 * k) := Nat.mul_le_mul_right _ (pw_pos h)
  have e : 2 * pw h * k = pw h * (2 * k) := by rw [Nat.mul_comm 2, Nat.mul_assoc]
  simp only [fr]
  rw [e]; omega
theorem at_fr (h k : Nat) : at' h k = fr h k + (2 * pw h - 2) := by
  have h1 := at_eq h k
  have h2 := fr_eq h k
  have h3 := pw_pos h
  rw [Nat.mul_add, Nat.mul_one] at h1; omega
theorem N_eq (n : Nat) : N n + ones 64 n = 2 * n := by
  have := ones_self 64 n; simp only [N]; omega
theorem N_at (h k : Nat) (hb : (k + 1) * pw h < 2 ^ 63) : N ((k + 1) * pw h - 1) + h = at' h k := by
  have h1 := at_eq h k
  have h2 := N_eq ((k + 1) * pw h - 1)
  have h3 := ones_last h k hb
  have hp : 0 < (k + 1) * pw h := Nat.mul_pos (by omega) (pw_pos h)
  have e : 2 * pw h * (k + 1) = 2 * ((k + 1) * pw h) := by rw [Nat.mul_assoc, Nat.mul_comm (pw h)]
  omega
theorem N_fr (h k : Nat) (hb : k * pw h < 2 ^ 63) : N (k * pw h) = fr h k := by
  have h1 := fr_eq h k
  have h2 := N_eq (k * pw h)
  have h3 := ones_shift h k hb
  have e : 2 * pw h * k = 2 * (k * pw h) := by rw [Nat.mul_assoc, Nat.mul_comm (pw h)]
  omega
theorem fr_left (h k : Nat) (hk : k < 2 ^ 63) : fr h (2 * k) = fr (h + 1) k := by
  have h1 := fr_eq (h + 1) k
  have h2 := fr_eq h (2 * k)
  have h3 := ones_two k hk
  have e : 2 * pw (h + 1) * k = 2 * pw h * (2 * k) := by rw [pw_succ, Nat.mul_assoc 2 (2 * pw h) k, Nat.mul_assoc 2 (pw h) (2 * k), Nat.mul_assoc 2 (pw h) k, Nat.mul_left_comm (pw h) 2 k]
  omega
theorem fr_right (h k : Nat) (hk : k < 2 ^ 63) : fr h (2 * k + 1) = fr (h + 1) k + (2 * pw h - 1) := by
  have h1 := fr_left h k hk
  have h2 := fr_eq h (2 * k)
  have h3 := fr_eq h (2 * k + 1)
  have h4 := ones_two k hk
  have h5 := ones_odd k hk
  have h6 := pw_pos h
  rw [Nat.mul_add, Nat.mul_one] at h3
  omega
theorem may_big {h k : Nat} (hk : k < pw (40 - h)) : k < 2 ^ 40 :=
  Nat.lt_of_lt_of_le hk (pw_le (by omega))
def blk (p : Nat) : Nat × Nat := down 40 0 p
theorem at_next (h k : Nat) (hk : k < 2 ^ 63) (ho : k % 2 = 1) : at' h (k - 1) + 1 = fr h k := by
  have e : k = 2 * (k / 2) + 1 := by omega
  have h1 := fr_right h (k / 2) (by omega)
  have h2 := fr_left h (k / 2) (by omega)
  have h3 := at_fr h (k - 1)
  have h4 := pw_pos h
  rw [← e] at h1
  rw [show 2 * (k / 2) = k - 1 by omega] at h2
  omega
def trl : Nat → Nat → Nat
  | 0, _ => 0
  | f + 1, n => if n % 2 = 1 then trl f (n / 2) + 1 else 0
theorem ones_end (t n : Nat) (h : n % pw t = pw t - 1) : n + 1 = (n / pw t + 1) * pw t := by
  have h1 := Nat.div_add_mod n (pw t)
  have h2 := pw_pos t
  rw [Nat.add_mul, Nat.one_mul, Nat.mul_comm (n / pw t)]; omega
theorem ones_end_succ (t n : Nat) (h : n % pw t = pw t - 1) (ho : n / pw t % 2 = 1) : n % pw (t + 1) = pw (t + 1) - 1 := by
  have h2 := pw_pos t
  have e : n % pw (t + 1) = n % pw t + pw t * (n / pw t % 2) := by rw [pw_succ, Nat.mul_comm, Nat.mod_mul]
  rw [e, h, ho, pw_succ]; omega
theorem ones_end_le (t n : Nat) (h : n % pw t = pw t - 1) (hn : n < 2 ^ 40) : t ≤ 40 := by
  have h1 : pw t - 1 ≤ n := by rw [← h]; exact Nat.mod_le _ _
  have h2 := pw_pos t
  by_cases ht : t ≤ 40
  · exact ht
  · have : pw 41 ≤ pw t := pw_le (by omega)
    have : pw 41 = 2 ^ 41 := rfl
    omega
theorem new_at (t n : Nat) (h : n % pw t = pw t - 1) (hn : n < 2 ^ 40) : at' t (n / pw t) = N n + t ∧ n / pw t < pw (40 - t) ∧ t ≤ 40 := by
  have e := ones_end t n h
  have ht := ones_end_le t n h hn
  have hx := N_at t (n / pw t) (by rw [← e]; omega)
  rw [← e, Nat.add_sub_cancel] at hx
  refine ⟨hx.symm, ?_, ht⟩
  rw [Nat.div_lt_iff_lt_mul (pw_pos t), ← pw_add, show 40 - t + t = 40 by omega]
  exact hn
theorem new_N (t n : Nat) (h : n % pw t = pw t - 1) (ho : ¬ n / pw t % 2 = 1) (hn : n < 2 ^ 40) : N (n + 1) = N n + t + 1 := by
  have e := ones_end t n h
  obtain ⟨h1, h2, ht⟩ := new_at t n h hn
  have hb := may_big h2
  have h4 := N_fr t (n / pw t + 1) (by rw [← e]; omega)
  rw [← e] at h4
  have h5 := at_next t (n / pw t + 1) (by omega) (by omega)
  rw [Nat.add_sub_cancel] at h5
  omega
theorem trl_step (f n : Nat) (h : n % 2 = 1) : trl (f + 1) n = trl f (n / 2) + 1 := by rw [trl, if_pos h]
theorem trl_none (f n : Nat) (h : ¬ n % 2 = 1) : trl (f + 1) n = 0 := by rw [trl, if_neg h]
end Go.Proofs.YthfnpagangjpbabGreat.Pl
namespace Go.Proofs.YthfnpagangjpbabGreat.Pl
open Go.RowKit
attribute [local go_sem ↓] Go.wp_at_zero Go.wp_at_succ
theorem bit_eq (n k : Nat) (hn : n < 2 ^ 64) : (bits BinOp.and IntKind.u64 ((n : Int) / 2 ^ k) 1 == 1) = decide (n / 2 ^ k % 2 = 1) := by
  have e : ((n : Int) / 2 ^ k) = ((n / 2 ^ k : Nat) : Int) := by simp
  rw [e]
  have hm : n / 2 ^ k < 18446744073709551616 := Nat.lt_of_le_of_lt (Nat.div_le_self _ _) hn
  revert hm
  generalize n / 2 ^ k = m
  intro hm
  have := bits_and_u64_nat m 1 hm (by decide)
  rw [show (1 : Int) = ((1 : Nat) : Int) from rfl, this, Nat.and_one_is_mod]
  by_cases h : m % 2 = 1
  · simp [h]
  · have : m % 2 = 0 := by omega
    simp [this]
theorem isOne_any (n k : Nat) (w : World) (hn : n < 2 ^ 64) (hk : k < 64) :
    Calls Tryz.prog 154 #[.int .u64 n, .int .i64 k] w fun e w' => e = .returned (.bool (decide (n / 2 ^ k % 2 = 1))) ∧ w' = w := by
  have hk0 : (0 : Int) ≤ (k : Int) := Int.natCast_nonneg _
  go_enter Tryz.func154, Tryz.ntmps154
  go_wp2
  go_ret
  refine ⟨?_, rfl⟩
  rw [← bit_eq n k hn]
  rfl
theorem ones_any (n : Nat) (w : World) (hn : n < 2 ^ 64) :
    Calls Tryz.prog 146 #[.int .u64 n] w fun e w' => e = .returned (.int .i64 (ones 64 n : Nat)) ∧ w' = w := by
  go_enter Tryz.func146, Tryz.ntmps146
  go_wp2
  go_loopg [3, 5] 64 (fun g c i wr => ∃ k m : Nat, k ≤ 64 ∧ g = 64 - k ∧ i = .int .i64 k ∧ c = .int .i64 m ∧ m ≤ k ∧ m + ones (64 - k) (n / 2 ^ k) = ones 64 n ∧ w = wr)
  case atStart =>
    go_light
    exact ⟨0, 0, Nat.zero_le _, rfl, rfl, rfl, Nat.zero_le _, by simp, rfl⟩
  case round =>
    obtain ⟨k, m, hk, rfl, rfl, rfl, hm, hs, rfl⟩ := hrel
    have hk0 : (0 : Int) ≤ (k : Int) := Int.natCast_nonneg _
    have hm0 : (0 : Int) ≤ (m : Int) := Int.natCast_nonneg _
    have hm1 : (m : Int) ≤ 64 := by omega
    by_cases hlt : k < 64
    · have hk8 : (k : Int) < 64 := by omega
      have HS := ones_step k n hlt
      have HC := isOne_any n k w hn hlt
      by_cases hb : n / 2 ^ k % 2 = 1
      · rw [decide_eq_true hb] at HC
        go_wp2_with (go_at_call 154; refine HC.mono ?_; rintro e w' ⟨rfl, rfl⟩)
        go_roundg (64 - (k + 1))
        case rel =>
          go_light
          exact ⟨k + 1, m + 1, by omega, rfl, by go_num, by go_num, by omega, by omega, rfl⟩
        case measure => go_light; omega
      · rw [decide_eq_false hb] at HC
        go_wp2_with (go_at_call 154; refine HC.mono ?_; rintro e w' ⟨rfl, rfl⟩)
        go_roundg (64 - (k + 1))
        case rel =>
          go_light
          exact ⟨k + 1, m, by omega, rfl, by go_num, rfl, by omega, by omega, rfl⟩
        case measure => go_light; omega
    · obtain rfl : k = 64 := by omega
      clear hk hlt
      go_wp2
      go_ret
      refine ⟨?_, rfl⟩
      rw [← hs]
      rfl
theorem count_any (n : Nat) (w : World) (hn : n ≤ 2 ^ 40) :
    Calls Tryz.prog 124 #[.int .u64 n] w fun e w' => e = .returned (.int .u64 (N n : Nat)) ∧ w' = w := by
  have HC := ones_any n w (by omega)
  have h1 := ones_self 64 n
  have h2 := ones_le 64 n
  have h3 := N_eq n
  generalize N n = x at *
  generalize ones 64 n = y at *
  obtain ⟨d, hd⟩ : ∃ d : Nat, 2 * n = d := ⟨_, rfl⟩
  have e1 : IntKind.u64.wrap (2 * (n : Int)) = (d : Int) := by rw [IntKind.wrap_u64]; omega
  have e2 : IntKind.u64.wrap (y : Int) = (y : Int) := by rw [IntKind.wrap_u64]; omega
  have e3 : IntKind.u64.wrap ((d : Int) - (y : Int)) = (x : Int) := by rw [IntKind.wrap_u64]; omega
  clear hn h1 h2 h3 hd
  go_enter Tryz.func124, Tryz.ntmps124
  go_wp2_with (go_at_call 146; refine HC.mono ?_; rintro e w' ⟨rfl, rfl⟩)
  go_ret
  exact ⟨rfl, rfl⟩
end Go.Proofs.YthfnpagangjpbabGreat.Pl
namespace Go.Proofs.YthfnpagangjpbabGreat.Pl
open Go.RowKit
attribute [local go_sem ↓] Go.wp_at_zero Go.wp_at_succ
theorem below_drewN {B : Nat} {a w : World} (h : Below B a w) (n : Nat) : Below B a (w.drewN n) := ⟨h.os, h.tape, h.output, h.size, h.block⟩
theorem nodes_yes (n : Nat) (w : World) (hn : n ≤ 2 ^ 40) :
    Calls Tryz.prog 82 #[.int .u64 n] w fun e w' => e = .returned (.tuple #[.int .u64 (N n : Nat), .bool true]) ∧ w' = w := by
  have HC := count_any n w hn
  have ht : ¬ (1099511627776 : Int) < (n : Int) := by omega
  generalize N n = x at *
  clear hn
  go_enter Tryz.func82, Tryz.ntmps82
  go_wp2_with (go_at_call 124; refine HC.mono ?_; rintro e w' ⟨rfl, rfl⟩)
  go_ret2
  exact ⟨rfl, rfl⟩
end Go.Proofs.YthfnpagangjpbabGreat.Pl
