/-
  Walks of the document's own answers. Own work.
-/
import Derived.Test.YtnfapngjbabdaaaWalkA
namespace Go.Proofs.Ytnfapngjbabdaaa
open Go.RowKit
attribute [local go_sem ↓] Go.wp_at_zero Go.wp_at_succ

theorem div_small {y k d : Nat} (h : y < 2 ^ (64 - k)) (hd : y / 2 = d) : d < 2 ^ 64 := by
  have : 2 ^ (64 - k) ≤ 2 ^ 64 := Nat.pow_le_pow_right (by decide) (by omega)
  omega
theorem refPow_no (h : Int) (w : World) (hh : h < 0 ∨ 64 ≤ h) :
    Calls Try.prog 13 #[.int .i64 h] w fun e w' => e = .returned (.tuple #[.int .u64 0, .bool false]) ∧ w' = w := by
  rcases hh with hh | hh
  · go_enter Try.func13, Try.ntmps13
    go_wp2
    go_ret2
    exact ⟨rfl, rfl⟩
  · have h1 : 63 < h := by omega
    clear hh
    go_enter Try.func13, Try.ntmps13
    go_wp2
    go_ret2
    exact ⟨rfl, rfl⟩
theorem refPow_yes (h : Nat) (w : World) (hh : h < 64) :
    Calls Try.prog 13 #[.int .i64 h] w fun e w' => e = .returned (.tuple #[.int .u64 (2 ^ h : Nat), .bool true]) ∧ w' = w := by
  have hk0 : (0 : Int) ≤ (h : Int) := Int.natCast_nonneg _
  have hk1 : (h : Int) ≤ 63 := by omega
  go_enter Try.func13, Try.ntmps13
  go_wp2
  go_loopg [4, 5] h (fun g p i wr => ∃ k m : Nat, k ≤ h ∧ g = h - k ∧ i = .int .i64 k ∧ p = .int .u64 m ∧ m = 2 ^ k ∧ w = wr)
  case atStart =>
    go_light
    exact ⟨0, 1, Nat.zero_le _, rfl, rfl, rfl, rfl, rfl⟩
  case round =>
    obtain ⟨k, m, hk, rfl, rfl, rfl, hm, rfl⟩ := hrel
    have hi0 : (0 : Int) ≤ (k : Int) := Int.natCast_nonneg _
    by_cases hlt : k < h
    · have hk8 : (k : Int) < (h : Int) := by omega
      obtain ⟨m2, hm2⟩ : ∃ m2 : Nat, 2 * m = m2 := ⟨_, rfl⟩
      have e1 : IntKind.u64.wrap (2 * (m : Int)) = (m2 : Int) := by
        have := pow_lt_64 (k + 1) (by omega)
        rw [Nat.pow_succ] at this
        rw [IntKind.wrap_u64]; omega
      have e2 : m2 = 2 ^ (k + 1) := by rw [Nat.pow_succ]; omega
      clear hm hm2
      go_wp2
      go_roundg (h - (k + 1))
      case rel =>
        go_light
        exact ⟨k + 1, m2, by omega, rfl, by go_num, by rw [e2]; simp, e2, rfl⟩
      case measure => go_light; omega
    · obtain rfl : k = h := by omega
      clear hk hlt
      subst hm
      go_wp2
      go_ret2
      exact ⟨rfl, rfl⟩
theorem refAdd_yes (a b : Nat) (w : World) (hh : a + b < 2 ^ 64) :
    Calls Try.prog 14 #[.int .u64 a, .int .u64 b] w fun e w' => e = .returned (.tuple #[.int .u64 (a + b : Nat), .bool true]) ∧ w' = w := by
  obtain ⟨s, hs⟩ : ∃ s : Nat, a + b = s := ⟨_, rfl⟩
  obtain ⟨r, hr⟩ : ∃ r : Nat, 18446744073709551615 - b = r := ⟨_, rfl⟩
  have e0 : IntKind.u64.wrap (18446744073709551615 - (b : Int)) = (r : Int) := by rw [IntKind.wrap_u64]; omega
  have e1 : IntKind.u64.wrap ((a : Int) + b) = (s : Int) := by rw [IntKind.wrap_u64]; omega
  have e2 : ¬ (r : Int) < (a : Int) := by omega
  rw [hs]
  clear hh hs hr
  go_enter Try.func14, Try.ntmps14
  go_wp2
  go_ret2
  exact ⟨rfl, rfl⟩
theorem refAdd_no (a b : Nat) (w : World) (hb : b < 2 ^ 64) (hh : 2 ^ 64 ≤ a + b) :
    Calls Try.prog 14 #[.int .u64 a, .int .u64 b] w fun e w' => e = .returned (.tuple #[.int .u64 0, .bool false]) ∧ w' = w := by
  obtain ⟨r, hr⟩ : ∃ r : Nat, 18446744073709551615 - b = r := ⟨_, rfl⟩
  have e0 : IntKind.u64.wrap (18446744073709551615 - (b : Int)) = (r : Int) := by rw [IntKind.wrap_u64]; omega
  have e2 : (r : Int) < (a : Int) := by omega
  clear hb hh hr
  go_enter Try.func14, Try.ntmps14
  go_wp2
  go_ret2
  exact ⟨rfl, rfl⟩
theorem refOnes_any (n : Nat) (w : World) (hn : n < 2 ^ 64) :
    Calls Try.prog 15 #[.int .u64 n] w fun e w' => e = .returned (.int .i64 (ones 64 n : Nat)) ∧ w' = w := by
  go_enter Try.func15, Try.ntmps15
  go_wp2
  go_loopg [0, 3] 64 (fun g x c wr => ∃ k m y : Nat, k ≤ 64 ∧ g = 64 - k ∧ x = .int .u64 y ∧ c = .int .i64 m ∧ m ≤ k ∧ y < 2 ^ (64 - k) ∧ m + ones (64 - k) y = ones 64 n ∧ w = wr)
  case atStart =>
    go_light
    exact ⟨0, 0, n, Nat.zero_le _, rfl, rfl, rfl, Nat.zero_le _, hn, by simp, rfl⟩
  case round =>
    obtain ⟨k, m, y, hk, rfl, rfl, rfl, hm, hy, hs, rfl⟩ := hrel
    have hy0 : (0 : Int) ≤ (y : Int) := Int.natCast_nonneg _
    have hm0 : (0 : Int) ≤ (m : Int) := Int.natCast_nonneg _
    by_cases hlt : 0 < y
    · have hy1 : (0 : Int) < (y : Int) := by omega
      have hk1 : k < 64 := by
        rcases Nat.lt_or_ge k 64 with h | h
        · exact h
        · rw [show 64 - k = 0 by omega] at hy; simp at hy; omega
      have hm1 : (m : Int) < 64 := by omega
      have HS : ones (64 - k) y = y % 2 + ones (64 - (k + 1)) (y / 2) := by
        rw [show 64 - k = (64 - (k + 1)) + 1 by omega, ones]
      have HY : y / 2 < 2 ^ (64 - (k + 1)) := by
        rw [show 64 - k = (64 - (k + 1)) + 1 by omega, Nat.pow_succ] at hy; omega
      obtain ⟨d, hd⟩ : ∃ d : Nat, y / 2 = d := ⟨_, rfl⟩
      obtain ⟨r, hr⟩ : ∃ r : Nat, y % 2 = r := ⟨_, rfl⟩
      have e1 : (y : Int) / 2 = (d : Int) := by omega
      have e5 : IntKind.u64.wrap (d : Int) = (d : Int) := by have := div_small hy hd; rw [IntKind.wrap_u64]; omega
      have e2 : (y : Int) % 2 = (r : Int) := by omega
      have e3 : (0 : Int) ≤ (r : Int) := by omega
      have e4 : (r : Int) < 2 := by omega
      rw [hd] at HS HY
      rw [hr] at HS
      clear hy hn
      go_wp2
      go_roundg (64 - (k + 1))
      case rel =>
        go_light
        exact ⟨k + 1, m + r, d, by omega, rfl, rfl, by go_num, by omega, HY, by omega, rfl⟩
      case measure => go_light; omega
    · obtain rfl : y = 0 := by omega
      rw [ones_zero] at hs
      clear hk hlt hy
      go_wp2
      go_ret
      refine ⟨?_, rfl⟩
      rw [← hs]
      rfl
theorem refLog_any (n : Nat) (w : World) (hn : n < 2 ^ 64) :
    Calls Try.prog 16 #[.int .u64 n] w fun e w' => e = .returned (.int .i64 (lg 64 n)) ∧ w' = w := by
  go_enter Try.func16, Try.ntmps16
  go_wp2
  go_loopg [0, 3] 64 (fun g x c wr => ∃ k y : Nat, ∃ i : Int, k ≤ 64 ∧ g = 64 - k ∧ x = .int .u64 y ∧ c = .int .i64 i ∧ i = (k : Int) - 1 ∧ y < 2 ^ (64 - k) ∧ i + 1 + lg (64 - k) y = lg 64 n ∧ w = wr)
  case atStart =>
    go_light
    exact ⟨0, n, -1, Nat.zero_le _, rfl, rfl, rfl, rfl, hn, by simp, rfl⟩
  case round =>
    obtain ⟨k, y, i, hk, rfl, rfl, rfl, hi, hy, hs, rfl⟩ := hrel
    have hy0 : (0 : Int) ≤ (y : Int) := Int.natCast_nonneg _
    by_cases hlt : 0 < y
    · have hy1 : (0 : Int) < (y : Int) := by omega
      have hk1 : k < 64 := by
        rcases Nat.lt_or_ge k 64 with h | h
        · exact h
        · rw [show 64 - k = 0 by omega] at hy; simp at hy; omega
      have hm1 : i < 64 := by omega
      have hm0 : -1 ≤ i := by omega
      have HS : lg (64 - k) y = lg (64 - (k + 1)) (y / 2) + 1 := by
        rw [show 64 - k = (64 - (k + 1)) + 1 by omega, lg, if_neg (by omega)]
      have HY : y / 2 < 2 ^ (64 - (k + 1)) := by
        rw [show 64 - k = (64 - (k + 1)) + 1 by omega, Nat.pow_succ] at hy; omega
      obtain ⟨d, hd⟩ : ∃ d : Nat, y / 2 = d := ⟨_, rfl⟩
      have e1 : (y : Int) / 2 = (d : Int) := by omega
      have e5 : IntKind.u64.wrap (d : Int) = (d : Int) := by have := div_small hy hd; rw [IntKind.wrap_u64]; omega
      rw [hd] at HS HY
      clear hy hn
      go_wp2
      go_roundg (64 - (k + 1))
      case rel =>
        go_light
        exact ⟨k + 1, d, i + 1, by omega, rfl, rfl, by go_num, by omega, HY, by omega, rfl⟩
      case measure => go_light; omega
    · obtain rfl : y = 0 := by omega
      rw [lg_zero] at hs
      have hs' : i = lg 64 n := by omega
      clear hk hlt hy hs
      subst hs'
      go_wp2
      go_ret
      exact ⟨rfl, rfl⟩
theorem refTrail_zero (w : World) :
    Calls Try.prog 18 #[.int .u64 0] w fun e w' => e = .returned (.int .i64 64) ∧ w' = w := by
  go_enter Try.func18, Try.ntmps18
  go_wp2
  go_ret
  exact ⟨rfl, rfl⟩
theorem refTrail_more (n : Nat) (w : World) (h0 : n ≠ 0) (hn : n < 2 ^ 64) :
    Calls Try.prog 18 #[.int .u64 n] w fun e w' => e = .returned (.int .i64 (tr 64 n : Nat)) ∧ w' = w := by
  have e0 : ¬ (n : Int) = 0 := by omega
  go_enter Try.func18, Try.ntmps18
  go_wp2
  go_loopg [0, 3] 64 (fun g x c wr => ∃ k y : Nat, k ≤ 64 ∧ g = 64 - k ∧ x = .int .u64 y ∧ c = .int .i64 k ∧ y ≠ 0 ∧ y < 2 ^ (64 - k) ∧ k + tr (64 - k) y = tr 64 n ∧ w = wr)
  case atStart =>
    go_light
    exact ⟨0, n, Nat.zero_le _, rfl, rfl, rfl, h0, hn, by simp, rfl⟩
  case round =>
    obtain ⟨k, y, hk, rfl, rfl, rfl, hz, hy, hs, rfl⟩ := hrel
    have hy0 : (0 : Int) ≤ (y : Int) := Int.natCast_nonneg _
    have hk0 : (0 : Int) ≤ (k : Int) := Int.natCast_nonneg _
    have hk1 : k < 64 := by
      rcases Nat.lt_or_ge k 64 with h | h
      · exact h
      · rw [show 64 - k = 0 by omega] at hy; simp at hy; omega
    have hk2 : (k : Int) < 64 := by omega
    have HS : tr (64 - k) y = if y % 2 = 1 then 0 else tr (64 - (k + 1)) (y / 2) + 1 := by
      rw [show 64 - k = (64 - (k + 1)) + 1 by omega, tr]
    by_cases hlt : y % 2 = 1
    · have e1 : (y : Int) % 2 = 1 := by omega
      rw [if_pos hlt] at HS
      rw [HS] at hs
      clear hy hn
      go_wp2
      go_ret
      refine ⟨?_, rfl⟩
      rw [← hs]
      rfl
    · have e1 : (y : Int) % 2 = 0 := by omega
      rw [if_neg hlt] at HS
      have HY : y / 2 < 2 ^ (64 - (k + 1)) := by
        rw [show 64 - k = (64 - (k + 1)) + 1 by omega, Nat.pow_succ] at hy; omega
      obtain ⟨d, hd⟩ : ∃ d : Nat, y / 2 = d := ⟨_, rfl⟩
      have e2 : (y : Int) / 2 = (d : Int) := by omega
      have e5 : IntKind.u64.wrap (d : Int) = (d : Int) := by have := div_small hy hd; rw [IntKind.wrap_u64]; omega
      have hd0 : d ≠ 0 := by omega
      rw [hd] at HS HY
      clear hy hn hd
      go_wp2
      go_roundg (64 - (k + 1))
      case rel =>
        go_light
        exact ⟨k + 1, d, by omega, rfl, rfl, by go_num, hd0, HY, by omega, rfl⟩
      case measure => go_light; omega
theorem refTrail_any (n : Nat) (w : World) (hn : n < 2 ^ 64) :
    Calls Try.prog 18 #[.int .u64 n] w fun e w' => e = .returned (.int .i64 (tr 64 n : Nat)) ∧ w' = w := by
  by_cases h0 : n = 0
  · subst h0
    exact refTrail_zero w
  · exact refTrail_more n w h0 hn
theorem refCeil_any (n : Nat) (w : World) (hn : n < 2 ^ 64) :
    Calls Try.prog 17 #[.int .u64 n] w fun e w' => e = .returned (.int .i64 (cl n)) ∧ w' = w := by
  go_enter Try.func17, Try.ntmps17
  go_wp2
  go_loopg [3, 4] 64 (fun g p i wr => ∃ k : Nat, ∃ m : Int, k ≤ 64 ∧ g = 64 - k ∧ i = .int .i64 k ∧ p = .int .u64 m ∧ (k < 64 → m = ((2 ^ k : Nat) : Int)) ∧ (k = 0 ∨ 2 ^ (k - 1) < n) ∧ w = wr)
  case atStart =>
    go_light
    exact ⟨0, 1, Nat.zero_le _, rfl, rfl, rfl, fun _ => rfl, .inl rfl, rfl⟩
  case round =>
    obtain ⟨k, m, hk, rfl, rfl, rfl, hm, hs, rfl⟩ := hrel
    have hi0 : (0 : Int) ≤ (k : Int) := Int.natCast_nonneg _
    by_cases hlt : k < 64
    · have hk8 : (k : Int) < 64 := by omega
      have hm' := hm hlt
      by_cases hle : n ≤ 2 ^ k
      · have e1 : (n : Int) ≤ m := by rw [hm']; exact Int.ofNat_le.mpr hle
        have e2 := cl_of n k hk hle hs
        clear hm hm' hs hn hle
        go_wp2
        go_ret
        refine ⟨?_, rfl⟩
        rw [e2]
        rfl
      · have e1 : ¬ (n : Int) ≤ m := by rw [hm']; intro h; exact hle (Int.ofNat_le.mp h)
        have e2 : k + 1 < 64 → IntKind.u64.wrap (2 * m) = ((2 ^ (k + 1) : Nat) : Int) := by
          intro h
          have := pow_lt_64 (k + 1) h
          rw [Nat.pow_succ] at this ⊢
          rw [IntKind.wrap_u64, hm']; omega
        have e3 : 2 ^ k < n := by omega
        clear hm hm' hs hle
        go_wp2
        go_roundg (64 - (k + 1))
        case rel =>
          go_light
          exact ⟨k + 1, IntKind.u64.wrap (2 * m), by omega, rfl, by go_num, rfl, e2, .inr e3, rfl⟩
        case measure => go_light; omega
    · obtain rfl : k = 64 := by omega
      have e2 := cl_of n 64 hk (by omega) hs
      clear hk hlt hm hs
      go_wp2
      go_ret
      refine ⟨?_, rfl⟩
      rw [e2]
      rfl
end Go.Proofs.Ytnfapngjbabdaaa
