/-
  Walks of the reference of codec: span. Own work.
-/
import Derived.Test.YtelglfmppmdmoaaRWalkB
namespace Go.Proofs.Ytelglfmppmdmoaa.Cv
open Pl
open Go.RowKit
attribute [local go_sem ↓] Go.wp_at_zero Go.wp_at_succ
theorem tin_out {lo hi H K : Nat} (h : (K + 1) * pw H ≤ lo ∨ hi ≤ K * pw H) : tin lo hi H K = [] := by
  have hp := pw_pos H
  have e : (K + 1) * pw H = K * pw H + pw H := by rw [Nat.add_mul, Nat.one_mul]
  cases H with
  | zero => rw [tin, if_neg (by omega)]
  | succ H => rw [tin, if_neg (by omega), if_pos h]
theorem tin_whole {lo hi H K : Nat} (h : lo ≤ K * pw H ∧ (K + 1) * pw H ≤ hi) : (tin lo hi H K).length = 1 := by
  cases H with
  | zero => rw [tin, if_pos h]; rfl
  | succ H => rw [tin, if_pos h]; rfl
set_option maxRecDepth 100000 in
set_option maxHeartbeats 1000000 in
theorem rspan_any (lo hi : Nat) : ∀ (H K : Nat) (w : World), H ≤ 40 → (K + 1) * pw H ≤ 2 ^ 40 →
    Calls Try.prog 36 #[.int .i64 (H : Int), .int .u64 (K : Int), .int .u64 (lo : Int), .int .u64 (hi : Int)] w fun e w' => e = .returned (.int .u64 ((tin lo hi H K).length : Nat)) ∧ w' = w := by
  intro H
  induction H with
  | zero =>
    intro K w hH hK
    have HPw := fun W => pow_any W 0 (by omega) 1 rfl
    have e0 : pw 0 = 1 := rfl
    rw [e0] at hK
    have ea : IntKind.u64.wrap (K : Int) = (K : Int) := by rw [IntKind.wrap_u64]; omega
    have eb : IntKind.u64.wrap ((K : Int) + 1) = (K : Int) + 1 := by rw [IntKind.wrap_u64]; omega
    by_cases h1 : K + 1 ≤ lo ∨ hi ≤ K
    · rw [tin_out (by rw [e0]; omega)]
      by_cases h2 : K + 1 ≤ lo
      · have h2' : (K : Int) + 1 ≤ (lo : Int) := by omega
        clear h1 hK hH
        go_enter Try.func36, Try.ntmps36
        go_wp2_with (go_at_call 37; (refine (HPw _).mono ?_); rintro e w' ⟨rfl, rfl⟩)
        go_ret
        exact ⟨rfl, rfl⟩
      · have h2' : ¬ (K : Int) + 1 ≤ (lo : Int) := by omega
        have h3' : (hi : Int) ≤ (K : Int) := by omega
        clear h1 hK hH
        go_enter Try.func36, Try.ntmps36
        go_wp2_with (go_at_call 37; (refine (HPw _).mono ?_); rintro e w' ⟨rfl, rfl⟩)
        go_ret
        exact ⟨rfl, rfl⟩
    · rw [tin_whole (by rw [e0]; omega)]
      have h2' : ¬ (K : Int) + 1 ≤ (lo : Int) := by omega
      have h3' : ¬ (hi : Int) ≤ (K : Int) := by omega
      have h4' : (lo : Int) ≤ (K : Int) := by omega
      have h5' : (K : Int) + 1 ≤ (hi : Int) := by omega
      clear h1 hK hH
      go_enter Try.func36, Try.ntmps36
      go_wp2_with (go_at_call 37; (refine (HPw _).mono ?_); rintro e w' ⟨rfl, rfl⟩)
      go_ret
      exact ⟨rfl, rfl⟩
  | succ H ih =>
    intro K w hH hK
    obtain ⟨p, hp⟩ : ∃ p, pw (H + 1) = p := ⟨_, rfl⟩
    have HPw := fun W => pow_any W (H + 1) hH p hp
    have g2 := half_mid H K
    have g3 := half_hi H K
    have g1 := half_lo H K
    have g4 := blk_len H K
    have hpp := pw_pos H
    have I1 := fun w' => ih (2 * K) w' (by omega) (by rw [g2]; omega)
    have I2 := fun w' => ih (2 * K + 1) w' (by omega) (by rw [g3]; omega)
    obtain ⟨a, ha⟩ : ∃ a, K * pw (H + 1) = a := ⟨_, rfl⟩
    have hb : (K + 1) * pw (H + 1) = a + p := by rw [Nat.add_mul, Nat.one_mul, ha, hp]
    have hKa : K ≤ a := by rw [← ha]; exact Nat.le_mul_of_pos_right _ (pw_pos _)
    have l1 := tin_len lo hi H (2 * K)
    have l2 := tin_len lo hi H (2 * K + 1)
    have hp40 : pw H ≤ 2 ^ 40 := by omega
    rw [hb] at hK
    have ea : IntKind.u64.wrap ((K : Int) * (p : Int)) = (a : Int) := by rw [show (K : Int) * (p : Int) = (a : Int) by rw [← ha, hp, Int.natCast_mul], IntKind.wrap_u64]; omega
    have eb : IntKind.u64.wrap ((a : Int) + (p : Int)) = (a : Int) + (p : Int) := by rw [IntKind.wrap_u64]; omega
    by_cases h1 : a + p ≤ lo ∨ hi ≤ a
    · rw [tin_out (by rw [hb, ha]; omega)]
      by_cases h2 : a + p ≤ lo
      · have h2' : (a : Int) + (p : Int) ≤ (lo : Int) := by omega
        clear h1 hK hH ih I1 I2 g1 g2 g3 g4 hpp ha hb hKa l1 l2 hp hp40
        go_enter Try.func36, Try.ntmps36
        go_wp2_with (go_at_call 37; (refine (HPw _).mono ?_); rintro e w' ⟨rfl, rfl⟩)
        go_ret
        exact ⟨rfl, rfl⟩
      · have h2' : ¬ (a : Int) + (p : Int) ≤ (lo : Int) := by omega
        have h3' : (hi : Int) ≤ (a : Int) := by omega
        clear h1 hK hH ih I1 I2 g1 g2 g3 g4 hpp ha hb hKa l1 l2 hp hp40
        go_enter Try.func36, Try.ntmps36
        go_wp2_with (go_at_call 37; (refine (HPw _).mono ?_); rintro e w' ⟨rfl, rfl⟩)
        go_ret
        exact ⟨rfl, rfl⟩
    · have h2' : ¬ (a : Int) + (p : Int) ≤ (lo : Int) := by omega
      have h3' : ¬ (hi : Int) ≤ (a : Int) := by omega
      by_cases h4 : lo ≤ a ∧ a + p ≤ hi
      · rw [tin_whole (by rw [hb, ha]; exact h4)]
        have h4' : (lo : Int) ≤ (a : Int) := by omega
        have h5' : (a : Int) + (p : Int) ≤ (hi : Int) := by omega
        clear h1 hK hH ih I1 I2 g1 g2 g3 g4 hpp ha hb hKa l1 l2 hp hp40 h4
        go_enter Try.func36, Try.ntmps36
        go_wp2_with (go_at_call 37; (refine (HPw _).mono ?_); rintro e w' ⟨rfl, rfl⟩)
        go_ret
        exact ⟨rfl, rfl⟩
      · have ht : (tin lo hi (H + 1) K).length = (tin lo hi H (2 * K)).length + (tin lo hi H (2 * K + 1)).length := by
          rw [tin, if_neg (by rw [hb, ha]; exact h4), if_neg (by rw [hb, ha]; exact h1), List.length_append]
        rw [ht]
        generalize (tin lo hi H (2 * K)).length = x at *
        generalize (tin lo hi H (2 * K + 1)).length = y at *
        have e1 : IntKind.u64.wrap (2 * (K : Int)) = ((2 * K : Nat) : Int) := by rw [IntKind.wrap_u64]; omega
        have e2 : IntKind.u64.wrap (((2 * K : Nat) : Int) + 1) = ((2 * K + 1 : Nat) : Int) := by rw [IntKind.wrap_u64]; omega
        have e3 : ((H + 1 : Nat) : Int) - 1 = (H : Int) := by omega
        have e4 : IntKind.u64.wrap ((x : Int) + (y : Int)) = ((x + y : Nat) : Int) := by rw [IntKind.wrap_u64]; omega
        have hH1 : (H : Int) ≤ 40 := by omega
        have h4' : ¬ (lo : Int) ≤ (a : Int) ∨ ¬ (a : Int) + (p : Int) ≤ (hi : Int) := by omega
        clear h1 hK hH ih g1 g2 g3 g4 hpp ha hb hKa l1 l2 hp hp40 h4 ht
        generalize 2 * K = k2 at *
        generalize k2 + 1 = k3 at *
        generalize x + y = z at *
        rcases h4' with h4' | h4'
        · go_enter Try.func36, Try.ntmps36
          go_upto_region 7 with (go_at_call 37; (refine (HPw _).mono ?_); rintro e w' ⟨rfl, rfl⟩)
          go_wp2_with (first
            | (go_at_call 36; with_reducible refine (I1 _).mono ?_; rintro e w' ⟨rfl, rfl⟩)
            | (go_at_call 36; with_reducible refine (I2 _).mono ?_; rintro e w' ⟨rfl, rfl⟩))
          all_goals go_ret
          all_goals exact ⟨rfl, rfl⟩
        · go_enter Try.func36, Try.ntmps36
          go_upto_region 7 with (go_at_call 37; (refine (HPw _).mono ?_); rintro e w' ⟨rfl, rfl⟩)
          go_wp2_with (first
            | (go_at_call 36; with_reducible refine (I1 _).mono ?_; rintro e w' ⟨rfl, rfl⟩)
            | (go_at_call 36; with_reducible refine (I2 _).mono ?_; rintro e w' ⟨rfl, rfl⟩))
          all_goals go_ret
          all_goals exact ⟨rfl, rfl⟩
end Go.Proofs.Ytelglfmppmdmoaa.Cv
