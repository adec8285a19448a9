/-
  Walks of the reference: nodes, Ones, Nodes, May, Of, Leaf. Own work.
-/
import Derived.Test.YtilflepomeoffabWalkG
namespace Go.Proofs.Ytilflepomeoffab
open Go.RowKit
attribute [local go_sem ↓] Go.wp_at_zero Go.wp_at_succ
theorem Two.next {w w' : World} {g k : Nat} {h : Int} (t : Two w g h k) (hb : Below w.heap.size w w') : Two w' g h k := t.below hb (World.block_lt_of_cell? w _ t.c0)
theorem Two.at0 {w : World} {g k : Nat} {h : Int} (t : Two w g h k) : w.cell? ⟨g, 0, none⟩ = some (.int .i64 h) ∧ w.cell? ⟨g, 1, none⟩ = some (.int .u64 (k : Int)) := ⟨t.c0, t.c1⟩
theorem ball (w : World) (o : Obj) : Below w.heap.size w (w.alloc o) := bal (Below.refl _ _) o
/-- A parameter's box, and all that lay before it. -/
structure Kp (w w' : World) (h : Int) (k : Nat) : Prop where
  two : Two w' w.heap.size h k
  below : Below w.heap.size w w'
theorem Kp.next {w w' w'' : World} {h : Int} {k : Nat} (s : Kp w w' h k) (hb : Below w'.heap.size w' w'') : Kp w w'' h k := ⟨s.two.next hb, bnext s.below hb⟩
theorem Kp.new (w : World) (h : Int) (k t : Nat) : Kp w (w.alloc (.cells #[.int .i64 h, .int .u64 (k : Int)] t)) h k := ⟨two_new w h k t, bal (Below.refl _ _) _⟩
theorem u64_nat {a : Int} (wf : (Lit.int .u64 a).wf = true) : ∃ n : Nat, a = (n : Int) ∧ n < 2 ^ 64 := by
  have := bounds_u64 wf
  exact ⟨a.toNat, by omega, by omega⟩
theorem rnodes_any (h : Nat) (w : World) (hh : h ≤ 40) :
    Calls Try.prog 27 #[.int .i64 h] w fun e w' => e = .returned (.int .u64 (2 * pw h - 1 : Nat)) ∧ w = w' := by
  have hk0 : (0 : Int) ≤ (h : Int) := Int.natCast_nonneg _
  have hk1 : (h : Int) < 64 := by omega
  have hp := pw_40 h hh
  have hq := pw_pos h
  have e0 : IntKind.u64.wrap (h : Int) = (h : Int) := by rw [IntKind.wrap_u64]; omega
  obtain ⟨p, hp1⟩ : ∃ p : Nat, 2 * pw h - 1 = p := ⟨_, rfl⟩
  have e1 : IntKind.u64.wrap (2 * (2 : Int) ^ h) = (p : Int) + 1 := by
    have e : ((2 : Int) ^ h) = (pw h : Int) := by simp [pw]
    rw [e, IntKind.wrap_u64]; omega
  have e2 : IntKind.u64.wrap (p : Int) = (p : Int) := by rw [IntKind.wrap_u64]; omega
  rw [hp1]
  clear hp hq hp1
  go_enter Try.func27, Try.ntmps27
  go_wp2
  go_ret
  exact ⟨rfl, rfl⟩
theorem rones_any (n : Nat) (w : World) (hn : n < 2 ^ 64) :
    Calls Try.prog 30 #[.int .u64 n] w fun e w' => e = .returned (.int .i64 (ones 64 n : Nat)) ∧ w = w' := by
  go_enter Try.func30, Try.ntmps30
  go_wp2
  go_loopg [0, 3] 64 (fun g a c wr => ∃ k m s : Nat, k ≤ 64 ∧ g = 64 - k ∧ a = .int .u64 (m : Int) ∧ c = .int .i64 (s : Int) ∧ n / 2 ^ k = m ∧ s ≤ k ∧ s + ones (64 - k) (n / 2 ^ k) = ones 64 n ∧ w = wr)
  case atStart =>
    go_light
    exact ⟨0, n, 0, Nat.zero_le _, rfl, rfl, rfl, by simp, Nat.zero_le _, by simp, rfl⟩
  case round =>
    obtain ⟨k, m, s, hk, rfl, rfl, rfl, hm, hsk, hs, rfl⟩ := hrel
    have hmb : m < 2 ^ 64 := by rw [← hm]; exact Nat.lt_of_le_of_lt (Nat.div_le_self _ _) hn
    by_cases hb : 0 < m
    · have hk64 : k < 64 := by
        by_cases h64 : k < 64
        · exact h64
        · have : k = 64 := by omega
          subst this
          have : n / 2 ^ 64 = 0 := Nat.div_eq_of_lt hn
          omega
      have HS := ones_step k n hk64
      have hd : (0 : Int) < (m : Int) := by omega
      obtain ⟨r, hr⟩ : ∃ r : Nat, m % 2 = r := ⟨_, rfl⟩
      have er : (m : Int) % 2 = (r : Int) := by omega
      have er2 : IntKind.i64.wrap (r : Int) = (r : Int) := by rw [IntKind.wrap_i64]; omega
      obtain ⟨s2, hs2⟩ : ∃ s2 : Nat, s + r = s2 := ⟨_, rfl⟩
      have es : IntKind.i64.wrap ((s : Int) + (r : Int)) = (s2 : Int) := by rw [IntKind.wrap_i64]; omega
      obtain ⟨m2, hm2⟩ : ∃ m2 : Nat, m / 2 = m2 := ⟨_, rfl⟩
      have em : (m : Int) / 2 = (m2 : Int) := by omega
      have em2 : IntKind.u64.wrap (m2 : Int) = (m2 : Int) := by rw [IntKind.wrap_u64]; omega
      have HX : Hid (n / 2 ^ (k + 1) = m2 ∧ s2 ≤ k + 1 ∧ s2 + ones (64 - (k + 1)) (n / 2 ^ (k + 1)) = ones 64 n) := ⟨by rw [div_pow_succ, hm, hm2], by omega, by rw [hm, hr] at HS; rw [hm] at hs; omega⟩
      clear HS hs hm hb hmb hm2 hk hs2 hr hsk hn
      go_wp2
      go_roundg (64 - (k + 1))
      case rel =>
        go_light
        exact ⟨k + 1, m2, s2, by omega, rfl, rfl, rfl, HX.out.1, HX.out.2.1, HX.out.2.2, rfl⟩
      case measure => go_light; omega
    · obtain rfl : m = 0 := by omega
      have HX : Hid (s = ones 64 n) := by rw [hm, ones_zero] at hs; exact hs
      clear hs hm hb hmb hn
      go_wp2
      go_ret
      exact ⟨by rw [← HX.out]; rfl, rfl⟩
theorem rnodesN_yes (n : Nat) (w : World) (hn : n ≤ 2 ^ 40) :
    Calls Try.prog 15 #[.int .u64 n] w fun e w' => e = .returned (.tuple #[.int .u64 (N n : Nat), .bool true]) ∧ w = w' := by
  have HC := rones_any n w (by omega)
  have h1 := ones_self 64 n
  have h2 := ones_le 64 n
  have h3 := N_eq n
  have ht : decide ((1099511627776 : Int) < (n : Int)) = false := decide_eq_false (by omega)
  generalize N n = x at *
  generalize ones 64 n = y at *
  obtain ⟨d, hd⟩ : ∃ d : Nat, 2 * n = d := ⟨_, rfl⟩
  have e1 : IntKind.u64.wrap (2 * (n : Int)) = (d : Int) := by rw [IntKind.wrap_u64]; omega
  have e2 : IntKind.u64.wrap (y : Int) = (y : Int) := by rw [IntKind.wrap_u64]; omega
  have e3 : IntKind.u64.wrap ((d : Int) - (y : Int)) = (x : Int) := by rw [IntKind.wrap_u64]; omega
  clear hn h1 h2 h3 hd
  go_enter Try.func15, Try.ntmps15
  go_wp2_with (go_at_call 30; refine HC.mono ?_; rintro e w' ⟨rfl, rfl⟩)
  go_ret2
  exact ⟨rfl, rfl⟩
theorem rnodesN_no (n : Nat) (w : World) (hn : 2 ^ 40 < n) :
    Calls Try.prog 15 #[.int .u64 n] w fun e w' => e = .returned (.tuple #[.int .u64 0, .bool false]) ∧ w = w' := by
  have ht : decide ((1099511627776 : Int) < (n : Int)) = true := decide_eq_true (by omega)
  clear hn
  go_enter Try.func15, Try.ntmps15
  go_wp2
  go_ret2
  exact ⟨rfl, rfl⟩
theorem rmay_neg (h : Int) (k : Nat) (w : World) (hh : h < 0) :
    Calls Try.prog 31 #[bz h k] w fun e w' => e = .returned (.bool false) ∧ Below w.heap.size w w' := by
  have d1 : decide ((0 : Int) ≤ h) = false := decide_eq_false (by omega)
  clear hh
  go_enter Try.func31, Try.ntmps31
  go_wp2
  go_ret
  exact ⟨rfl, by go_grown⟩
theorem rmay_big' (h : Int) (k : Nat) (w : World) (hh : 40 < h) :
    Calls Try.prog 31 #[bz h k] w fun e w' => e = .returned (.bool false) ∧ Below w.heap.size w w' := by
  have d1 : decide ((0 : Int) ≤ h) = true := decide_eq_true (by omega)
  have d2 : decide (h ≤ 40) = false := decide_eq_false (by omega)
  clear hh
  go_enter Try.func31, Try.ntmps31
  go_wp2
  go_ret
  exact ⟨rfl, by go_grown⟩
theorem rmay_else (h k : Nat) (w : World) (hh : h ≤ 40) :
    Calls Try.prog 31 #[bv h k] w fun e w' => e = .returned (.bool (decide (k < pw (40 - h)))) ∧ Below w.heap.size w w' := by
  have hk0 : (0 : Int) ≤ (h : Int) := Int.natCast_nonneg _
  have hk1 : (h : Int) ≤ 40 := by omega
  have d1 : decide ((0 : Int) ≤ (h : Int)) = true := decide_eq_true (by omega)
  have d2 : decide ((h : Int) ≤ 40) = true := decide_eq_true (by omega)
  have e0 : IntKind.u64.wrap (h : Int) = (h : Int) := by rw [IntKind.wrap_u64]; omega
  have e1 := shr_pw h hh
  generalize pw (40 - h) = z at *
  clear hh
  go_enter Try.func31, Try.ntmps31
  go_wp2
  go_ret
  exact ⟨rfl, by go_grown⟩
theorem rmay_no (h : Int) (k : Nat) (w : World) (hm : ¬ May h k) :
    Calls Try.prog 31 #[bz h k] w fun e w' => e = .returned (.bool false) ∧ Below w.heap.size w w' := by
  by_cases h1 : h < 0
  · exact rmay_neg h k w h1
  · by_cases h2 : 40 < h
    · exact rmay_big' h k w h2
    · obtain ⟨j, rfl⟩ : ∃ j : Nat, h = (j : Int) := ⟨h.toNat, by omega⟩
      have hx := rmay_else j k w (by omega)
      rwa [decide_eq_false (fun h3 => hm ⟨by omega, by omega, by simpa using h3⟩)] at hx
end Go.Proofs.Ytilflepomeoffab
