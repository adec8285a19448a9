/-
  Walks: num.Log, num.Ceil; the laws' holds and rising. Own work.
-/
import Derived.Test.YtghmodbgfbgclaaCSpec3
namespace Go.Proofs.Ytghmodbgfbgclaa
open Go.RowKit
attribute [local go_sem ↓] Go.wp_at_zero Go.wp_at_succ
theorem mod_step (n k : Nat) : n % 2 ^ (k + 1) = n % 2 ^ k + 2 ^ k * (n / 2 ^ k % 2) := by rw [Nat.pow_succ, Nat.mod_mul]
theorem log_any (n : Nat) (w : World) (hn : n < 2 ^ 64) :
    Calls Try.prog 37 #[.int .u64 (n : Int)] w fun e w' => ∃ c : Nat, e = .returned (.int .i64 ((c : Int) - 1)) ∧ n < 2 ^ c ∧ c ≤ 64 ∧ w = w' := by
  go_enter Try.func37, Try.ntmps37
  go_wp2
  go_loopg [3, 4, 5] 64 (fun g r i4 i wr => ∃ k c : Nat, k ≤ 64 ∧ g = 64 - k ∧ i = .int .i64 (k : Int) ∧ r = .int .i64 ((c : Int) - 1) ∧ c ≤ k ∧ n % 2 ^ k < 2 ^ c ∧ w = wr)
  case atStart =>
    go_light
    exact ⟨0, 0, Nat.zero_le _, rfl, rfl, rfl, Nat.zero_le _, by simp [Nat.mod_one], rfl⟩
  case round =>
    obtain ⟨k, c, hk, rfl, rfl, rfl, hc, hs, rfl⟩ := hrel
    have hk0 : (0 : Int) ≤ (k : Int) := Int.natCast_nonneg _
    by_cases hlt : k < 64
    · have hk8 : (k : Int) < 64 := by omega
      have HM := mod_step n k
      have HC := isOne_any n k w hn hlt
      have hlt2 : n % 2 ^ k < 2 ^ k := Nat.mod_lt _ (Nat.two_pow_pos k)
      by_cases hb : n / 2 ^ k % 2 = 1
      · rw [decide_eq_true hb] at HC
        rw [hb, Nat.mul_one] at HM
        have HX : Hid (n % 2 ^ (k + 1) < 2 ^ (k + 1)) := Nat.mod_lt _ (Nat.two_pow_pos _)
        clear hs hc HM hlt2
        go_wp2_with (go_at_call 33; refine HC.mono ?_; rintro e w' ⟨rfl, rfl⟩)
        go_roundg (64 - (k + 1))
        case rel =>
          go_light
          exact ⟨k + 1, k + 1, by omega, rfl, by go_num, by congr 1; omega, Nat.le_refl _, HX.out, rfl⟩
        case measure => go_light; omega
      · rw [decide_eq_false hb] at HC
        have hb0 : n / 2 ^ k % 2 = 0 := by omega
        rw [hb0, Nat.mul_zero, Nat.add_zero] at HM
        have HX : Hid (n % 2 ^ (k + 1) < 2 ^ c ∧ c ≤ k + 1) := ⟨by rw [HM]; exact hs, by omega⟩
        clear hs hc HM hlt2
        go_wp2_with (go_at_call 33; refine HC.mono ?_; rintro e w' ⟨rfl, rfl⟩)
        go_roundg (64 - (k + 1))
        case rel =>
          go_light
          exact ⟨k + 1, c, by omega, rfl, by go_num, rfl, HX.out.2, HX.out.1, rfl⟩
        case measure => go_light; omega
    · obtain rfl : k = 64 := by omega
      have HX : Hid (n < 2 ^ c ∧ c ≤ 64) := ⟨by rwa [Nat.mod_eq_of_lt hn] at hs, hc⟩
      clear hs hc hlt
      go_wp2
      go_ret
      exact ⟨c, rfl, HX.out.1, HX.out.2, rfl⟩
theorem ceil_any (n : Nat) (w : World) (hn : n ≤ 2 ^ 40) (h0 : 0 < n) :
    Calls Try.prog 23 #[.int .u64 (n : Int)] w fun e w' => ∃ c : Nat, e = .returned (.int .i64 (c : Int)) ∧ n ≤ pw c ∧ c ≤ 64 ∧ w = w' := by
  have hz : ¬ (n : Int) = 0 := by omega
  obtain ⟨p, rfl⟩ : ∃ p, n = p + 1 := ⟨n - 1, by omega⟩
  have e1 : ((p + 1 : Nat) : Int) - 1 = (p : Int) := by omega
  have e2 : IntKind.u64.wrap (p : Int) = (p : Int) := by rw [IntKind.wrap_u64]; omega
  have HL := fun w' => log_any p w' (by omega)
  clear hn h0
  go_enter Try.func23, Try.ntmps23
  go_wp2_with (go_at_call 37; with_reducible refine (HL _).mono ?_; rintro e w1 ⟨c, rfl, hc1, hc2, rfl⟩)
  go_ret
  refine ⟨c, by simp, hc1, hc2, rfl⟩
theorem holds_yes (w : World) (ao : Option Addr) (b off m cap : Nat) (S : List Nat) (x y : Nat) (r : Rd w ao b off m S) (hm : m ≤ 5000) (hex : ∃ j, j < m ∧ x ≤ S.getD j 0 ∧ S.getD j 0 < y) :
    Calls Try.prog 24 #[.slice ao m cap, .int .u64 (x : Int), .int .u64 (y : Int)] w fun e w' => e = .returned (.bool true) ∧ Below w.heap.size w w' := by
  obtain ⟨j0, hj1, hj2, hj3⟩ := hex
  have hm' : (m : Int) ≤ 5000 := by omega
  have HR : Hid (Rd w ao b off m S ∧ j0 < m ∧ x ≤ S.getD j0 0 ∧ S.getD j0 0 < y) := ⟨r, hj1, hj2, hj3⟩
  clear r hm hj1 hj2 hj3
  go_enter Try.func24, Try.ntmps24
  go_wp2
  go_loopg [7] m (fun g i wr => ∃ k : Nat, k ≤ m ∧ g = m - k ∧ i = .int .i64 (k : Int) ∧ k ≤ j0 ∧ w = wr)
  case atStart =>
    go_light
    exact ⟨0, Nat.zero_le _, rfl, rfl, Nat.zero_le _, rfl⟩
  case round =>
    obtain ⟨k, hk, rfl, rfl, hkj, rfl⟩ := hrel
    obtain ⟨r, hj1, hj2, hj3⟩ := HR.out
    have hk0 : (0 : Int) ≤ (k : Int) := Int.natCast_nonneg _
    have hlt : k < m := by omega
    have hlt' : (k : Int) < (m : Int) := by omega
    obtain rfl := r.addr (by omega)
    have c1 := r.cell k hlt
    have hkk : k = j0 → x ≤ S.getD k 0 ∧ S.getD k 0 < y := fun e => by rw [e]; exact ⟨hj2, hj3⟩
    generalize S.getD k 0 = s at *
    by_cases g1 : x ≤ s
    · have g1' : (x : Int) ≤ (s : Int) := by omega
      by_cases g2 : s < y
      · have g2' : (s : Int) < (y : Int) := by omega
        clear hkk hj2 hj3 r
        go_wp2
        go_ret
        exact ⟨rfl, Below.refl _ _⟩
      · have g2' : ¬ (s : Int) < (y : Int) := by omega
        have HX : Hid (k + 1 ≤ j0 ∧ k + 1 ≤ m) := ⟨by
          by_cases e : k = j0
          · exact absurd (hkk e).2 g2
          · omega, hlt⟩
        clear hkk hj2 hj3 r hkj hk
        go_wp2
        go_roundg (m - (k + 1))
        case rel =>
          go_light
          exact ⟨k + 1, HX.out.2, rfl, by go_num, HX.out.1, rfl⟩
        case measure => go_light; omega
    · have g1' : ¬ (x : Int) ≤ (s : Int) := by omega
      have HX : Hid (k + 1 ≤ j0 ∧ k + 1 ≤ m) := ⟨by
        by_cases e : k = j0
        · exact absurd (hkk e).1 g1
        · omega, hlt⟩
      clear hkk hj2 hj3 r hkj hk
      go_wp2
      go_roundg (m - (k + 1))
      case rel =>
        go_light
        exact ⟨k + 1, HX.out.2, rfl, by go_num, HX.out.1, rfl⟩
      case measure => go_light; omega
end Go.Proofs.Ytghmodbgfbgclaa
