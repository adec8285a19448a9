/-
  Walks of packages num and place: what reckons alone. Own work.
-/
import Derived.Test.YtabdobdopcfllaaDoorProg
import Derived.Test.YtabdobdopcfllaaDoorPlSpec
import Derived.WalkKit
import Derived.WalkSpells
import Derived.Outline
import Derived.KernelRfl
import Derived.Deep.LoopGhost
import Derived.Deep.DrawnRows
import Derived.Deep.Light
import Derived.Laws.Bits64b
import Derived.Handy
namespace Go.Proofs.YtabdobdopcfllaaDoor.Pl
open Go.RowKit
attribute [local go_sem ↓] Go.wp_at_zero Go.wp_at_succ

theorem bit_eq (n k : Nat) (hn : n < 2 ^ 64) : (bits BinOp.and IntKind.u64 ((n : Int) / 2 ^ k) 1 == 1) = decide (n / 2 ^ k % 2 = 1) := by
  have e : ((n : Int) / 2 ^ k) = ((n / 2 ^ k : Nat) : Int) := by simp
  rw [e]
  have hm : n / 2 ^ k < 18446744073709551616 := Nat.lt_of_le_of_lt (Nat.div_le_self _ _) hn
  revert hm
  generalize n / 2 ^ k = m
  intro hm
  have := bits_and_u64_nat m 1 hm (by decide)
  rw [show (1 : Int) = ((1 : Nat) : Int) from rfl, this, Nat.and_one_is_mod]
  by_cases h : m % 2 = 1
  · simp [h]
  · have : m % 2 = 0 := by omega
    simp [this]
theorem isOne_any (n k : Nat) (w : World) (hn : n < 2 ^ 64) (hk : k < 64) :
    Calls Tryd.prog 56 #[.int .u64 n, .int .i64 k] w fun e w' => e = .returned (.bool (decide (n / 2 ^ k % 2 = 1))) ∧ w' = w := by
  have hk0 : (0 : Int) ≤ (k : Int) := Int.natCast_nonneg _
  go_enter Tryd.func56, Tryd.ntmps56
  go_wp2
  go_ret
  refine ⟨?_, rfl⟩
  rw [← bit_eq n k hn]
  rfl
theorem ones_any (n : Nat) (w : World) (hn : n < 2 ^ 64) :
    Calls Tryd.prog 60 #[.int .u64 n] w fun e w' => e = .returned (.int .i64 (ones 64 n : Nat)) ∧ w' = w := by
  go_enter Tryd.func60, Tryd.ntmps60
  go_wp2
  go_loopg [3, 5] 64 (fun g c i wr => ∃ k m : Nat, k ≤ 64 ∧ g = 64 - k ∧ i = .int .i64 k ∧ c = .int .i64 m ∧ m ≤ k ∧ m + ones (64 - k) (n / 2 ^ k) = ones 64 n ∧ w = wr)
  case atStart =>
    go_light
    exact ⟨0, 0, Nat.zero_le _, rfl, rfl, rfl, Nat.zero_le _, by simp, rfl⟩
  case round =>
    obtain ⟨k, m, hk, rfl, rfl, rfl, hm, hs, rfl⟩ := hrel
    have hk0 : (0 : Int) ≤ (k : Int) := Int.natCast_nonneg _
    have hm0 : (0 : Int) ≤ (m : Int) := Int.natCast_nonneg _
    have hm1 : (m : Int) ≤ 64 := by omega
    by_cases hlt : k < 64
    · have hk8 : (k : Int) < 64 := by omega
      have HS := ones_step k n hlt
      have HC := isOne_any n k w hn hlt
      by_cases hb : n / 2 ^ k % 2 = 1
      · rw [decide_eq_true hb] at HC
        go_wp2_with (go_at_call 56; refine HC.mono ?_; rintro e w' ⟨rfl, rfl⟩)
        go_roundg (64 - (k + 1))
        case rel =>
          go_light
          exact ⟨k + 1, m + 1, by omega, rfl, by go_num, by go_num, by omega, by omega, rfl⟩
        case measure => go_light; omega
      · rw [decide_eq_false hb] at HC
        go_wp2_with (go_at_call 56; refine HC.mono ?_; rintro e w' ⟨rfl, rfl⟩)
        go_roundg (64 - (k + 1))
        case rel =>
          go_light
          exact ⟨k + 1, m, by omega, rfl, by go_num, rfl, by omega, by omega, rfl⟩
        case measure => go_light; omega
    · obtain rfl : k = 64 := by omega
      clear hk hlt
      go_wp2
      go_ret
      refine ⟨?_, rfl⟩
      rw [← hs]
      rfl
theorem pw_40 (h : Nat) (hh : h ≤ 40) : pw h ≤ 1099511627776 := pw_le hh
theorem tree_any (h : Nat) (w : World) (hh : h ≤ 40) :
    Calls Tryd.prog 39 #[.int .i64 h] w fun e w' => e = .returned (.int .u64 (2 * pw h - 1 : Nat)) ∧ w' = w := by
  have hk0 : (0 : Int) ≤ (h : Int) := Int.natCast_nonneg _
  have hk1 : (h : Int) < 64 := by omega
  have hp := pw_40 h hh
  have hq := pw_pos h
  obtain ⟨p, hp1⟩ : ∃ p : Nat, 2 * pw h - 1 = p := ⟨_, rfl⟩
  have e1 : IntKind.u64.wrap (2 * (2 : Int) ^ h) = (p : Int) + 1 := by
    have e : ((2 : Int) ^ h) = (pw h : Int) := by simp [pw]
    rw [e, IntKind.wrap_u64]; omega
  have e2 : IntKind.u64.wrap (p : Int) = (p : Int) := by rw [IntKind.wrap_u64]; omega
  rw [hp1]
  clear hp hq hp1
  go_enter Tryd.func39, Tryd.ntmps39
  go_wp2
  go_ret
  exact ⟨rfl, rfl⟩
theorem count_any (n : Nat) (w : World) (hn : n ≤ 2 ^ 40) :
    Calls Tryd.prog 36 #[.int .u64 n] w fun e w' => e = .returned (.int .u64 (N n : Nat)) ∧ w' = w := by
  have HC := ones_any n w (by omega)
  have h1 := ones_self 64 n
  have h2 := ones_le 64 n
  have h3 := N_eq n
  generalize N n = x at *
  generalize ones 64 n = y at *
  obtain ⟨d, hd⟩ : ∃ d : Nat, 2 * n = d := ⟨_, rfl⟩
  have e1 : IntKind.u64.wrap (2 * (n : Int)) = (d : Int) := by rw [IntKind.wrap_u64]; omega
  have e2 : IntKind.u64.wrap (y : Int) = (y : Int) := by rw [IntKind.wrap_u64]; omega
  have e3 : IntKind.u64.wrap ((d : Int) - (y : Int)) = (x : Int) := by rw [IntKind.wrap_u64]; omega
  clear hn h1 h2 h3 hd
  go_enter Tryd.func36, Tryd.ntmps36
  go_wp2_with (go_at_call 60; refine HC.mono ?_; rintro e w' ⟨rfl, rfl⟩)
  go_ret
  exact ⟨rfl, rfl⟩

/-- A block as a value. -/
abbrev bv (h k : Nat) : Value := .agg #[.int .i64 (h : Int), .int .u64 (k : Int)]
theorem all_any (w : World) : Calls Tryd.prog 37 #[] w fun e w' => e = .returned (bv 40 0) ∧ Below w.heap.size w w' := by
  go_enter Tryd.func37, Tryd.ntmps37
  go_wp2
  go_returns
  exact ⟨rfl, by go_grown⟩
theorem halves_any (h k : Nat) (w : World) (hh : h < 40) (hk : k < 2 ^ 40) : Calls Tryd.prog 40 #[bv (h + 1) k] w fun e w' => e = .returned (.tuple #[bv h (2 * k), bv h (2 * k + 1)]) ∧ Below w.heap.size w w' := by
  go_enter Tryd.func40, Tryd.ntmps40
  go_wp2
  go_region
  go_wp2
  go_returns
  exact ⟨by go_num, by go_grown⟩
end Go.Proofs.YtabdobdopcfllaaDoor.Pl
