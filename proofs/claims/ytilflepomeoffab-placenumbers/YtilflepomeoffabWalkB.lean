/-
  Walks of package place: at, Of, Nodes, Leaf. Own work.
-/
import Derived.Test.YtilflepomeoffabWalkA
import Derived.BigQuiet
namespace Go.Proofs.Ytilflepomeoffab
open Go.RowKit
attribute [local go_sem ↓] Go.wp_at_zero Go.wp_at_succ
theorem below_drewN {B : Nat} {a w : World} (h : Below B a w) (n : Nat) : Below B a (w.drewN n) := ⟨h.os, h.tape, h.output, h.size, h.block⟩
theorem at_any (h k : Nat) (w : World) (hh : h ≤ 40) (hk : k < pw (40 - h)) :
    Calls Try.prog 24 #[bv h k] w fun e w' => e = .returned (.int .u64 (at' h k : Nat)) ∧ Below w.heap.size w w' := by
  have hb := may_mul hh hk
  have hb2 := may_big hk
  have hx := N_at h k (by omega)
  have hy := at_lt h k hh hk
  have hp : 0 < (k + 1) * pw h := Nat.mul_pos (by omega) (pw_pos h)
  obtain ⟨l, hl⟩ : ∃ l : Nat, (k + 1) * pw h - 1 = l := ⟨_, rfl⟩
  rw [hl] at hx
  have HC := fun w' => count_any l w' (by omega)
  generalize N l = c at *
  generalize at' h k = r at *
  have hk0 : (0 : Int) ≤ (h : Int) := Int.natCast_nonneg _
  have hk1 : (h : Int) < 64 := by omega
  have e0 : IntKind.u64.wrap ((k : Int) + 1) = (k : Int) + 1 := by rw [IntKind.wrap_u64]; omega
  have e1 : IntKind.u64.wrap (((k : Int) + 1) * (2 : Int) ^ h) = (l : Int) + 1 := by
    have e : (((k : Int) + 1) * (2 : Int) ^ h) = (((k + 1) * pw h : Nat) : Int) := by simp [pw]
    rw [e, IntKind.wrap_u64]; omega
  have e2 : IntKind.u64.wrap (l : Int) = (l : Int) := by rw [IntKind.wrap_u64]; omega
  have e3 : IntKind.u64.wrap (h : Int) = (h : Int) := by rw [IntKind.wrap_u64]; omega
  simp only [most] at hy
  have e4 : IntKind.u64.wrap ((c : Int) + (h : Int)) = (r : Int) := by rw [IntKind.wrap_u64]; omega
  clear hb hb2 hx hy hp hl hk hh
  go_enter Try.func24, Try.ntmps24
  go_wp2
  go_quiet ((go_at_call 29; refine Calls.quiet_of_same (HC _)))
  go_wp2
  go_ret
  exact ⟨rfl, below_drewN (by go_grown) _⟩
theorem nodes_yes (n : Nat) (w : World) (hn : n ≤ 2 ^ 40) :
    Calls Try.prog 14 #[.int .u64 n] w fun e w' => e = .returned (.tuple #[.int .u64 (N n : Nat), .bool true]) ∧ w' = w := by
  have HC := count_any n w hn
  have ht : ¬ (1099511627776 : Int) < (n : Int) := by omega
  generalize N n = x at *
  clear hn
  go_enter Try.func14, Try.ntmps14
  go_wp2_with (go_at_call 29; refine HC.mono ?_; rintro e w' ⟨rfl, rfl⟩)
  go_ret2
  exact ⟨rfl, rfl⟩
theorem nodes_no (n : Nat) (w : World) (hn : 2 ^ 40 < n) :
    Calls Try.prog 14 #[.int .u64 n] w fun e w' => e = .returned (.tuple #[.int .u64 0, .bool false]) ∧ w' = w := by
  have ht : (1099511627776 : Int) < (n : Int) := by omega
  clear hn
  go_enter Try.func14, Try.ntmps14
  go_wp2
  go_ret2
  exact ⟨rfl, rfl⟩
theorem leaf_yes (n : Nat) (w : World) (hn : n < 2 ^ 40) :
    Calls Try.prog 16 #[.int .u64 n] w fun e w' => e = .returned (.tuple #[.int .u64 (N n : Nat), .bool true]) ∧ w' = w := by
  have HC := count_any n w (by omega)
  have ht : ¬ (1099511627776 : Int) ≤ (n : Int) := by omega
  generalize N n = x at *
  clear hn
  go_enter Try.func16, Try.ntmps16
  go_wp2_with (go_at_call 29; refine HC.mono ?_; rintro e w' ⟨rfl, rfl⟩)
  go_ret2
  exact ⟨rfl, rfl⟩
theorem leaf_no (n : Nat) (w : World) (hn : 2 ^ 40 ≤ n) :
    Calls Try.prog 16 #[.int .u64 n] w fun e w' => e = .returned (.tuple #[.int .u64 0, .bool false]) ∧ w' = w := by
  have ht : (1099511627776 : Int) ≤ (n : Int) := by omega
  clear hn
  go_enter Try.func16, Try.ntmps16
  go_wp2
  go_ret2
  exact ⟨rfl, rfl⟩
/-- A block that may be; any numbers. -/
def May (h : Int) (k : Nat) : Prop := 0 ≤ h ∧ h ≤ 40 ∧ k < pw (40 - h.toNat)
theorem shr_pw (h : Nat) (hh : h ≤ 40) : (1099511627776 : Int) / 2 ^ h = (pw (40 - h) : Int) := by
  have e : (1099511627776 : Int) = ((pw (40 - h) * pw h : Nat) : Int) := by rw [← pw_add, show 40 - h + h = 40 by omega]; rfl
  have e2 : ((2 : Int) ^ h) = (pw h : Int) := by simp [pw]
  rw [e, e2, ← Int.natCast_ediv, Nat.mul_div_cancel _ (pw_pos h)]
theorem of_yes (h k : Nat) (w : World) (hh : h ≤ 40) (hk : k < pw (40 - h)) :
    Calls Try.prog 18 #[bv h k] w fun e w' => e = .returned (.tuple #[.int .u64 (at' h k : Nat), .bool true]) ∧ Below w.heap.size w w' := by
  have HC := fun w' => at_any h k w' hh hk
  have hk0 : (0 : Int) ≤ (h : Int) := Int.natCast_nonneg _
  have hk1 : (h : Int) ≤ 40 := by omega
  have d1 : decide ((h : Int) < 0) = false := decide_eq_false (by omega)
  have d2 : decide ((40 : Int) < (h : Int)) = false := decide_eq_false (by omega)
  have e1 := shr_pw h hh
  generalize pw (40 - h) = z at *
  have d3 : decide (z ≤ k) = false := decide_eq_false (by omega)
  generalize at' h k = r at *
  clear hh hk
  go_enter Try.func18, Try.ntmps18
  go_wp2
  go_quiet (fail)
  go_wp2_with (go_at_call 24; refine (HC _).mono ?_; rintro e w' ⟨rfl, hb⟩)
  go_ret2
  exact ⟨rfl, Below.trans (below_drewN (by go_grown) _) (hb.mono (by simp))⟩
/-- A block as a value, its height any number. -/
abbrev bz (h : Int) (k : Nat) : Value := .agg #[.int .i64 h, .int .u64 (k : Int)]
theorem of_neg (h : Int) (k : Nat) (w : World) (hh : h < 0) :
    Calls Try.prog 18 #[bz h k] w fun e w' => e = .returned (.tuple #[.int .u64 0, .bool false]) ∧ Below w.heap.size w w' := by
  have d1 : decide (h < 0) = true := decide_eq_true hh
  clear hh
  go_enter Try.func18, Try.ntmps18
  go_wp2
  go_quiet (fail)
  go_wp2
  go_ret2
  exact ⟨rfl, below_drewN (by go_grown) _⟩
theorem of_big (h : Int) (k : Nat) (w : World) (hh : 40 < h) :
    Calls Try.prog 18 #[bz h k] w fun e w' => e = .returned (.tuple #[.int .u64 0, .bool false]) ∧ Below w.heap.size w w' := by
  have d1 : decide (h < 0) = false := decide_eq_false (by omega)
  have d2 : decide ((40 : Int) < h) = true := decide_eq_true hh
  clear hh
  go_enter Try.func18, Try.ntmps18
  go_wp2
  go_quiet (fail)
  go_wp2
  go_ret2
  exact ⟨rfl, below_drewN (by go_grown) _⟩
theorem of_wide (h k : Nat) (w : World) (hh : h ≤ 40) (hk : pw (40 - h) ≤ k) :
    Calls Try.prog 18 #[bv h k] w fun e w' => e = .returned (.tuple #[.int .u64 0, .bool false]) ∧ Below w.heap.size w w' := by
  have hk0 : (0 : Int) ≤ (h : Int) := Int.natCast_nonneg _
  have hk1 : (h : Int) ≤ 40 := by omega
  have d1 : decide ((h : Int) < 0) = false := decide_eq_false (by omega)
  have d2 : decide ((40 : Int) < (h : Int)) = false := decide_eq_false (by omega)
  have e1 := shr_pw h hh
  generalize pw (40 - h) = z at *
  have d3 : decide (z ≤ k) = true := decide_eq_true (by omega)
  clear hh hk
  go_enter Try.func18, Try.ntmps18
  go_wp2
  go_quiet (fail)
  go_wp2
  go_ret2
  exact ⟨rfl, below_drewN (by go_grown) _⟩
theorem of_no (h : Int) (k : Nat) (w : World) (hm : ¬ May h k) :
    Calls Try.prog 18 #[bz h k] w fun e w' => e = .returned (.tuple #[.int .u64 0, .bool false]) ∧ Below w.heap.size w w' := by
  by_cases h1 : h < 0
  · exact of_neg h k w h1
  · by_cases h2 : 40 < h
    · exact of_big h k w h2
    · obtain ⟨j, rfl⟩ : ∃ j : Nat, h = (j : Int) := ⟨h.toNat, by omega⟩
      refine of_wide j k w (by omega) ?_
      by_cases h3 : k < pw (40 - j)
      · exact absurd ⟨by omega, by omega, by simpa using h3⟩ hm
      · omega
theorem of_may (h : Int) (k : Nat) (w : World) (hm : May h k) :
    Calls Try.prog 18 #[bz h k] w fun e w' => e = .returned (.tuple #[.int .u64 (at' h.toNat k : Nat), .bool true]) ∧ Below w.heap.size w w' := by
  obtain ⟨h1, h2, h3⟩ := hm
  obtain ⟨j, rfl⟩ : ∃ j : Nat, h = (j : Int) := ⟨h.toNat, by omega⟩
  exact of_yes j k w (by omega) (by simpa using h3)
end Go.Proofs.Ytilflepomeoffab
