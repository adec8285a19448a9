/-
  Walks of package place: at, Of, Nodes, Leaf. Own work.
-/
import Derived.Test.YtabdobdopcfllaaDoorPlWalkA
import Derived.BigQuiet
namespace Go.Proofs.YtabdobdopcfllaaDoor.Pl
open Go.RowKit
attribute [local go_sem ↓] Go.wp_at_zero Go.wp_at_succ
theorem below_drewN {B : Nat} {a w : World} (h : Below B a w) (n : Nat) : Below B a (w.drewN n) := ⟨h.os, h.tape, h.output, h.size, h.block⟩
theorem at_any (h k : Nat) (w : World) (hh : h ≤ 40) (hk : k < pw (40 - h)) :
    Calls Tryd.prog 38 #[bv h k] w fun e w' => e = .returned (.int .u64 (at' h k : Nat)) ∧ Below w.heap.size w w' := by
  have hb := may_mul hh hk
  have hb2 := may_big hk
  have hx := N_at h k (by omega)
  have hy := at_lt h k hh hk
  have hp : 0 < (k + 1) * pw h := Nat.mul_pos (by omega) (pw_pos h)
  obtain ⟨l, hl⟩ : ∃ l : Nat, (k + 1) * pw h - 1 = l := ⟨_, rfl⟩
  rw [hl] at hx
  have HC := fun w' => count_any l w' (by omega)
  generalize N l = c at *
  generalize at' h k = r at *
  have hk0 : (0 : Int) ≤ (h : Int) := Int.natCast_nonneg _
  have hk1 : (h : Int) < 64 := by omega
  have e0 : IntKind.u64.wrap ((k : Int) + 1) = (k : Int) + 1 := by rw [IntKind.wrap_u64]; omega
  have e1 : IntKind.u64.wrap (((k : Int) + 1) * (2 : Int) ^ h) = (l : Int) + 1 := by
    have e : (((k : Int) + 1) * (2 : Int) ^ h) = (((k + 1) * pw h : Nat) : Int) := by simp [pw]
    rw [e, IntKind.wrap_u64]; omega
  have e2 : IntKind.u64.wrap (l : Int) = (l : Int) := by rw [IntKind.wrap_u64]; omega
  have e3 : IntKind.u64.wrap (h : Int) = (h : Int) := by rw [IntKind.wrap_u64]; omega
  simp only [most] at hy
  have e4 : IntKind.u64.wrap ((c : Int) + (h : Int)) = (r : Int) := by rw [IntKind.wrap_u64]; omega
  clear hb hb2 hx hy hp hl hk hh
  go_enter Tryd.func38, Tryd.ntmps38
  go_wp2
  go_quiet ((go_at_call 36; refine Calls.quiet_of_same (HC _)))
  go_wp2
  go_ret
  exact ⟨rfl, below_drewN (by go_grown) _⟩
theorem nodes_yes (n : Nat) (w : World) (hn : n ≤ 2 ^ 40) :
    Calls Tryd.prog 17 #[.int .u64 n] w fun e w' => e = .returned (.tuple #[.int .u64 (N n : Nat), .bool true]) ∧ w' = w := by
  have HC := count_any n w hn
  have ht : ¬ (1099511627776 : Int) < (n : Int) := by omega
  generalize N n = x at *
  clear hn
  go_enter Tryd.func17, Tryd.ntmps17
  go_wp2_with (go_at_call 36; refine HC.mono ?_; rintro e w' ⟨rfl, rfl⟩)
  go_ret2
  exact ⟨rfl, rfl⟩
theorem nodes_no (n : Nat) (w : World) (hn : 2 ^ 40 < n) :
    Calls Tryd.prog 17 #[.int .u64 n] w fun e w' => e = .returned (.tuple #[.int .u64 0, .bool false]) ∧ w' = w := by
  have ht : (1099511627776 : Int) < (n : Int) := by omega
  clear hn
  go_enter Tryd.func17, Tryd.ntmps17
  go_wp2
  go_ret2
  exact ⟨rfl, rfl⟩
/-- A block that may be; any numbers. -/
def May (h : Int) (k : Nat) : Prop := 0 ≤ h ∧ h ≤ 40 ∧ k < pw (40 - h.toNat)
theorem shr_pw (h : Nat) (hh : h ≤ 40) : (1099511627776 : Int) / 2 ^ h = (pw (40 - h) : Int) := by
  have e : (1099511627776 : Int) = ((pw (40 - h) * pw h : Nat) : Int) := by rw [← pw_add, show 40 - h + h = 40 by omega]; rfl
  have e2 : ((2 : Int) ^ h) = (pw h : Int) := by simp [pw]
  rw [e, e2, ← Int.natCast_ediv, Nat.mul_div_cancel _ (pw_pos h)]
/-- A block as a value, its height any number. -/
abbrev bz (h : Int) (k : Nat) : Value := .agg #[.int .i64 h, .int .u64 (k : Int)]
end Go.Proofs.YtabdobdopcfllaaDoor.Pl
