/-
  Walks of the laws' own helpers: may, bent. Own work.
-/
import Derived.Test.YtilflepomeoffaaWalkG
namespace Go.Proofs.Ytilflepomeoffaa
open Go.RowKit
attribute [local go_sem ↓] Go.wp_at_zero Go.wp_at_succ
theorem may_neg (h : Int) (k : Nat) (w : World) (hh : h < 0) :
    Calls Try.prog 14 #[bz h k] w fun e w' => e = .returned (.bool false) ∧ Below w.heap.size w w' := by
  have d1 : decide ((0 : Int) ≤ h) = false := decide_eq_false (by omega)
  clear hh
  go_enter Try.func14, Try.ntmps14
  go_wp2
  go_ret
  exact ⟨rfl, by go_grown⟩
theorem may_big' (h : Int) (k : Nat) (w : World) (hh : 40 < h) :
    Calls Try.prog 14 #[bz h k] w fun e w' => e = .returned (.bool false) ∧ Below w.heap.size w w' := by
  have d1 : decide ((0 : Int) ≤ h) = true := decide_eq_true (by omega)
  have d2 : decide (h ≤ 40) = false := decide_eq_false (by omega)
  clear hh
  go_enter Try.func14, Try.ntmps14
  go_wp2
  go_ret
  exact ⟨rfl, by go_grown⟩
theorem may_else (h k : Nat) (w : World) (hh : h ≤ 40) :
    Calls Try.prog 14 #[bv h k] w fun e w' => e = .returned (.bool (decide (k < pw (40 - h)))) ∧ Below w.heap.size w w' := by
  have hk0 : (0 : Int) ≤ (h : Int) := Int.natCast_nonneg _
  have hk1 : (h : Int) ≤ 40 := by omega
  have d1 : decide ((0 : Int) ≤ (h : Int)) = true := decide_eq_true (by omega)
  have d2 : decide ((h : Int) ≤ 40) = true := decide_eq_true (by omega)
  have e0 : IntKind.u64.wrap (h : Int) = (h : Int) := by rw [IntKind.wrap_u64]; omega
  have e1 := shr_pw h hh
  generalize pw (40 - h) = z at *
  clear hh
  go_enter Try.func14, Try.ntmps14
  go_wp2
  go_ret
  exact ⟨rfl, by go_grown⟩
theorem may_no (h : Int) (k : Nat) (w : World) (hm : ¬ May h k) :
    Calls Try.prog 14 #[bz h k] w fun e w' => e = .returned (.bool false) ∧ Below w.heap.size w w' := by
  by_cases h1 : h < 0
  · exact may_neg h k w h1
  · by_cases h2 : 40 < h
    · exact may_big' h k w h2
    · obtain ⟨j, rfl⟩ : ∃ j : Nat, h = (j : Int) := ⟨h.toNat, by omega⟩
      have hx := may_else j k w (by omega)
      rwa [decide_eq_false (fun h3 => hm ⟨by omega, by omega, by simpa using h3⟩)] at hx
/-- A block that may be, out of any. -/
theorem bent_any (h : Int) (k : Nat) (w : World) :
    Calls Try.prog 16 #[bz h k] w fun e w' => ∃ j m : Nat, e = .returned (bv j m) ∧ j ≤ 40 ∧ m < pw (40 - j) ∧ Below w.heap.size w w' := by
  obtain ⟨x, hx⟩ : ∃ x : Nat, IntKind.u64.wrap h = (x : Int) := ⟨(IntKind.u64.wrap h).toNat, by rw [IntKind.wrap_u64]; omega⟩
  obtain ⟨j, hj⟩ : ∃ j : Nat, (x : Int) % 41 = (j : Int) := ⟨x % 41, by omega⟩
  have hj40 : j ≤ 40 := by omega
  have e0 : IntKind.i64.wrap (j : Int) = (j : Int) := by rw [IntKind.wrap_i64]; omega
  have e1 : IntKind.u64.wrap (j : Int) = (j : Int) := by rw [IntKind.wrap_u64]; omega
  have e2 := shr_pw j hj40
  have hp := pw_pos (40 - j)
  have hj0 : (0 : Int) ≤ (j : Int) := Int.natCast_nonneg _
  have hj1 : (j : Int) < 64 := by omega
  obtain ⟨z, hz⟩ : ∃ z, pw (40 - j) = z := ⟨_, rfl⟩
  rw [hz] at e2 hp
  have hz0 : ¬ (z : Int) = 0 := by omega
  obtain ⟨m, hm⟩ : ∃ m : Nat, (k : Int) % (z : Int) = (m : Int) := ⟨k % z, by simp⟩
  have hmz : m < z := by have := Int.emod_lt_of_pos (k : Int) (show (0 : Int) < (z : Int) by omega); omega
  have HX : Hid (j ≤ 40 ∧ m < pw (40 - j)) := ⟨hj40, by rw [hz]; exact hmz⟩
  clear hj40 hp hz hmz
  go_enter Try.func16, Try.ntmps16
  go_wp2
  go_returns
  exact ⟨j, m, rfl, HX.out.1, HX.out.2, by go_grown⟩
end Go.Proofs.Ytilflepomeoffaa
