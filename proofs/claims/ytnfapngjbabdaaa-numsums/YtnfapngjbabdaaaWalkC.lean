/-
  The walk of NumSums. Own work.
-/
import Derived.Test.YtnfapngjbabdaaaWalkB
namespace Go.Proofs.Ytnfapngjbabdaaa
open Go.RowKit
attribute [local go_sem ↓] Go.wp_at_zero Go.wp_at_succ

/-- What the law asks of the two sums. -/
structure Sum (a b s : Int) (ok : Bool) (w : World) : Prop where
  one : Calls Try.prog 12 #[.int .u64 a, .int .u64 b] w fun e w' => e = .returned (.tuple #[.int .u64 s, .bool ok]) ∧ w' = w
  two : Calls Try.prog 12 #[.int .u64 b, .int .u64 a] w fun e w' => e = .returned (.tuple #[.int .u64 s, .bool ok]) ∧ w' = w
/-- What the law asks of a power. -/
structure Power (h h' p d : Int) (next : Bool) (w : World) : Prop where
  pow : Calls Try.prog 11 #[.int .i64 h] w fun e w' => e = .returned (.tuple #[.int .u64 p, .bool true]) ∧ w' = w
  one : Calls Try.prog 7 #[.int .u64 p] w fun e w' => e = .returned (.int .i64 1) ∧ w' = w
  log : Calls Try.prog 8 #[.int .u64 p] w fun e w' => e = .returned (.int .i64 h) ∧ w' = w
  trail : Calls Try.prog 10 #[.int .u64 p] w fun e w' => e = .returned (.int .i64 h) ∧ w' = w
  ceil : Calls Try.prog 9 #[.int .u64 p] w fun e w' => e = .returned (.int .i64 h) ∧ w' = w
  add : Calls Try.prog 12 #[.int .u64 p, .int .u64 p] w fun e w' => e = .returned (.tuple #[.int .u64 d, .bool next]) ∧ w' = w
  after : Calls Try.prog 11 #[.int .i64 h'] w fun e w' => e = .returned (.tuple #[.int .u64 d, .bool next]) ∧ w' = w
theorem sums_yes_no (a b h : Int) (s : Int) (w : World) (hs : Sum a b s true w) (e1 : ¬ s < a) (e2 : ¬ s < b) (e3 : IntKind.u64.wrap (s - a) = b)
    (HA : Calls Try.prog 6 #[] w fun e w' => e = .returned (.bool true) ∧ w' = w)
    (HP : Calls Try.prog 11 #[.int .i64 h] w fun e w' => e = .returned (.tuple #[.int .u64 0, .bool false]) ∧ w' = w) (hh : h < 0 ∨ 63 < h) :
    Calls Try.prog 4 #[.int .u64 a, .int .u64 b, .int .i64 h] w fun e w' => e = .returned (.bool true) ∧ w' = w := by
  obtain ⟨H1, H2⟩ := hs
  rcases hh with hh | hh
  · go_enter Try.func4, Try.ntmps4
    go_wp2_with (first
      | (go_at_call 6; with_reducible refine HA.mono ?_; rintro e w' ⟨rfl, rfl⟩)
      | (go_at_call 12; with_reducible refine H1.mono ?_; rintro e w' ⟨rfl, rfl⟩)
      | (go_at_call 12; with_reducible refine H2.mono ?_; rintro e w' ⟨rfl, rfl⟩)
      | (go_at_call 11; with_reducible refine HP.mono ?_; rintro e w' ⟨rfl, rfl⟩))
    go_ret
    exact ⟨rfl, rfl⟩
  · go_enter Try.func4, Try.ntmps4
    go_wp2_with (first
      | (go_at_call 6; with_reducible refine HA.mono ?_; rintro e w' ⟨rfl, rfl⟩)
      | (go_at_call 12; with_reducible refine H1.mono ?_; rintro e w' ⟨rfl, rfl⟩)
      | (go_at_call 12; with_reducible refine H2.mono ?_; rintro e w' ⟨rfl, rfl⟩)
      | (go_at_call 11; with_reducible refine HP.mono ?_; rintro e w' ⟨rfl, rfl⟩))
    go_ret
    exact ⟨rfl, rfl⟩
theorem sums_yes_yes (a b h h' p d : Int) (next : Bool) (s : Int) (w : World) (hs : Sum a b s true w) (e1 : ¬ s < a) (e2 : ¬ s < b) (e3 : IntKind.u64.wrap (s - a) = b)
    (HA : Calls Try.prog 6 #[] w fun e w' => e = .returned (.bool true) ∧ w' = w)
    (hp : Power h h' p d next w) (hh : 0 ≤ h) (hh' : h ≤ 63) (e0 : IntKind.i64.wrap (h + 1) = h') :
    Calls Try.prog 4 #[.int .u64 a, .int .u64 b, .int .i64 h] w fun e w' => e = .returned (.bool true) ∧ w' = w := by
  obtain ⟨H1, H2⟩ := hs
  obtain ⟨HP, H3, H4, H5, H6, H7, H8⟩ := hp
  go_enter Try.func4, Try.ntmps4
  go_wp2_with (first
    | (go_at_call 6; with_reducible refine HA.mono ?_; rintro e w' ⟨rfl, rfl⟩)
    | (go_at_call 12; with_reducible refine H1.mono ?_; rintro e w' ⟨rfl, rfl⟩)
    | (go_at_call 12; with_reducible refine H2.mono ?_; rintro e w' ⟨rfl, rfl⟩)
    | (go_at_call 11; with_reducible refine HP.mono ?_; rintro e w' ⟨rfl, rfl⟩)
    | (go_at_call 7; with_reducible refine H3.mono ?_; rintro e w' ⟨rfl, rfl⟩)
    | (go_at_call 8; with_reducible refine H4.mono ?_; rintro e w' ⟨rfl, rfl⟩)
    | (go_at_call 10; with_reducible refine H5.mono ?_; rintro e w' ⟨rfl, rfl⟩)
    | (go_at_call 9; with_reducible refine H6.mono ?_; rintro e w' ⟨rfl, rfl⟩)
    | (go_at_call 12; with_reducible refine H7.mono ?_; rintro e w' ⟨rfl, rfl⟩)
    | (go_at_call 11; with_reducible refine H8.mono ?_; rintro e w' ⟨rfl, rfl⟩))
  go_ret
  exact ⟨rfl, rfl⟩
theorem sums_no_no (a b h : Int) (w : World) (hs : Sum a b 0 false w) (e1 : ¬ a ≤ IntKind.u64.wrap (a + b))
    (HA : Calls Try.prog 6 #[] w fun e w' => e = .returned (.bool true) ∧ w' = w)
    (HP : Calls Try.prog 11 #[.int .i64 h] w fun e w' => e = .returned (.tuple #[.int .u64 0, .bool false]) ∧ w' = w) (hh : h < 0 ∨ 63 < h) :
    Calls Try.prog 4 #[.int .u64 a, .int .u64 b, .int .i64 h] w fun e w' => e = .returned (.bool true) ∧ w' = w := by
  obtain ⟨H1, H2⟩ := hs
  rcases hh with hh | hh
  · go_enter Try.func4, Try.ntmps4
    go_wp2_with (first
      | (go_at_call 6; with_reducible refine HA.mono ?_; rintro e w' ⟨rfl, rfl⟩)
      | (go_at_call 12; with_reducible refine H1.mono ?_; rintro e w' ⟨rfl, rfl⟩)
      | (go_at_call 12; with_reducible refine H2.mono ?_; rintro e w' ⟨rfl, rfl⟩)
      | (go_at_call 11; with_reducible refine HP.mono ?_; rintro e w' ⟨rfl, rfl⟩))
    go_ret
    exact ⟨rfl, rfl⟩
  · go_enter Try.func4, Try.ntmps4
    go_wp2_with (first
      | (go_at_call 6; with_reducible refine HA.mono ?_; rintro e w' ⟨rfl, rfl⟩)
      | (go_at_call 12; with_reducible refine H1.mono ?_; rintro e w' ⟨rfl, rfl⟩)
      | (go_at_call 12; with_reducible refine H2.mono ?_; rintro e w' ⟨rfl, rfl⟩)
      | (go_at_call 11; with_reducible refine HP.mono ?_; rintro e w' ⟨rfl, rfl⟩))
    go_ret
    exact ⟨rfl, rfl⟩
theorem sums_no_yes (a b h h' p d : Int) (next : Bool) (w : World) (hs : Sum a b 0 false w) (e1 : ¬ a ≤ IntKind.u64.wrap (a + b))
    (HA : Calls Try.prog 6 #[] w fun e w' => e = .returned (.bool true) ∧ w' = w)
    (hp : Power h h' p d next w) (hh : 0 ≤ h) (hh' : h ≤ 63) (e0 : IntKind.i64.wrap (h + 1) = h') :
    Calls Try.prog 4 #[.int .u64 a, .int .u64 b, .int .i64 h] w fun e w' => e = .returned (.bool true) ∧ w' = w := by
  obtain ⟨H1, H2⟩ := hs
  obtain ⟨HP, H3, H4, H5, H6, H7, H8⟩ := hp
  go_enter Try.func4, Try.ntmps4
  go_wp2_with (first
    | (go_at_call 6; with_reducible refine HA.mono ?_; rintro e w' ⟨rfl, rfl⟩)
    | (go_at_call 12; with_reducible refine H1.mono ?_; rintro e w' ⟨rfl, rfl⟩)
    | (go_at_call 12; with_reducible refine H2.mono ?_; rintro e w' ⟨rfl, rfl⟩)
    | (go_at_call 11; with_reducible refine HP.mono ?_; rintro e w' ⟨rfl, rfl⟩)
    | (go_at_call 7; with_reducible refine H3.mono ?_; rintro e w' ⟨rfl, rfl⟩)
    | (go_at_call 8; with_reducible refine H4.mono ?_; rintro e w' ⟨rfl, rfl⟩)
    | (go_at_call 10; with_reducible refine H5.mono ?_; rintro e w' ⟨rfl, rfl⟩)
    | (go_at_call 9; with_reducible refine H6.mono ?_; rintro e w' ⟨rfl, rfl⟩)
    | (go_at_call 12; with_reducible refine H7.mono ?_; rintro e w' ⟨rfl, rfl⟩)
    | (go_at_call 11; with_reducible refine H8.mono ?_; rintro e w' ⟨rfl, rfl⟩))
  go_ret
  exact ⟨rfl, rfl⟩
theorem power_of (h : Nat) (w : World) (hh : h < 64) : ∃ p d next, Power h (h + 1 : Nat) p d next w := by
  have hp := pow_lt_64 h hh
  have HO := ones_any (2 ^ h) w hp
  rw [ones_pow 64 h hh] at HO
  have HL := log_any (2 ^ h) w hp
  rw [lg_pow h hh] at HL
  have HT := trail_any (2 ^ h) w hp
  rw [tr_pow 64 h hh] at HT
  have HC := ceil_any (2 ^ h) w hp
  rw [cl_pow h hh] at HC
  by_cases h1 : h + 1 < 64
  · have hq := pow_lt_64 (h + 1) h1
    have HD := add_yes (2 ^ h) (2 ^ h) w (by rw [Nat.pow_succ] at hq; omega)
    rw [show 2 ^ h + 2 ^ h = 2 ^ (h + 1) by rw [Nat.pow_succ]; omega] at HD
    exact ⟨_, _, _, pow_yes h w hh, HO, HL, HT, HC, HD, pow_yes (h + 1) w h1⟩
  · obtain rfl : h = 63 := by omega
    exact ⟨_, _, _, pow_yes 63 w hh, HO, HL, HT, HC, add_no (2 ^ 63) (2 ^ 63) w hp hp (by decide), pow_no _ w (.inr (by decide))⟩
theorem sums_any (a b : Nat) (h : Int) (w : World) (ha : a < 2 ^ 64) (hb : b < 2 ^ 64) :
    Calls Try.prog 4 #[.int .u64 a, .int .u64 b, .int .i64 h] w fun e w' => e = .returned (.bool true) ∧ w' = w := by
  by_cases hs : a + b < 2 ^ 64
  · have S : Sum a b (a + b : Nat) true w := ⟨add_yes a b w hs, by rw [Nat.add_comm a b]; exact add_yes b a w (by omega)⟩
    have e3 : IntKind.u64.wrap (((a + b : Nat) : Int) - a) = b := by rw [IntKind.wrap_u64]; omega
    by_cases hh : h < 0 ∨ 64 ≤ h
    · exact sums_yes_no a b h _ w S (by omega) (by omega) e3 (alive_any w) (pow_no h w hh) (by omega)
    · obtain ⟨k, rfl⟩ := Int.eq_ofNat_of_zero_le (show 0 ≤ h by omega)
      obtain ⟨p, d, next, P⟩ := power_of k w (by omega)
      exact sums_yes_yes a b k _ p d next _ w S (by omega) (by omega) e3 (alive_any w) P (by omega) (by omega) (by simp [IntKind.wrap, IntKind.bits, IntKind.signed]; omega)
  · have S : Sum a b 0 false w := ⟨add_no a b w ha hb (by omega), add_no b a w hb ha (by omega)⟩
    have e1 : ¬ (a : Int) ≤ IntKind.u64.wrap ((a : Int) + b) := by rw [IntKind.wrap_u64]; omega
    by_cases hh : h < 0 ∨ 64 ≤ h
    · exact sums_no_no a b h w S e1 (alive_any w) (pow_no h w hh) (by omega)
    · obtain ⟨k, rfl⟩ := Int.eq_ofNat_of_zero_le (show 0 ≤ h by omega)
      obtain ⟨p, d, next, P⟩ := power_of k w (by omega)
      exact sums_no_yes a b k _ p d next w S e1 (alive_any w) P (by omega) (by omega) (by simp [IntKind.wrap, IntKind.bits, IntKind.signed]; omega)
end Go.Proofs.Ytnfapngjbabdaaa
