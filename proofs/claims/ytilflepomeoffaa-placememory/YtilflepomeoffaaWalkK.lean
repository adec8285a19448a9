/-
  The walk of PlaceGrows. Own work.
-/
import Derived.Test.YtilflepomeoffaaWalkJ
namespace Go.Proofs.Ytilflepomeoffaa
open Go.RowKit
attribute [local go_sem ↓] Go.wp_at_zero Go.wp_at_succ
theorem trl_spec (f n : Nat) (h : n < 2 ^ f) : n % pw (trl f n) = pw (trl f n) - 1 ∧ ¬ n / pw (trl f n) % 2 = 1 := by
  induction f generalizing n with
  | zero =>
    have : n = 0 := by simp at h; omega
    subst this
    simp [trl, pw]
  | succ f ih =>
    by_cases ho : n % 2 = 1
    · rw [trl_step f n ho]
      obtain ⟨i1, i2⟩ := ih (n / 2) (by rw [Nat.pow_succ] at h; omega)
      have hp := pw_pos (trl f (n / 2))
      rw [pw_succ]
      refine ⟨?_, ?_⟩
      · rw [Nat.mod_mul, ho, i1]; omega
      · rw [← Nat.div_div_eq_div_mul]; exact i2
    · rw [trl_none f n ho]
      refine ⟨by simp [pw]; omega, by simp [pw]; omega⟩
theorem ones_end_sub (t i n : Nat) (hi : i ≤ t) (h : n % pw t = pw t - 1) : n % pw i = pw i - 1 := by
  have e : pw t = pw i * pw (t - i) := by rw [← pw_add, show i + (t - i) = t by omega]
  have h1 := pw_pos i
  have h2 := pw_pos (t - i)
  have h3 : n % pw i = n % pw t % pw i := by rw [e, Nat.mod_mul_right_mod]
  rw [h3, h, e]
  have h4 : pw i * pw (t - i) - 1 = pw i * (pw (t - i) - 1) + (pw i - 1) := by
    rw [Nat.mul_sub, Nat.mul_one]
    have : pw i * 1 ≤ pw i * pw (t - i) := Nat.mul_le_mul_left _ h2
    omega
  rw [h4, Nat.mul_add_mod]
  exact Nat.mod_eq_of_lt (by omega)
theorem trl_le (f n : Nat) : trl f n ≤ f := by
  induction f generalizing n with
  | zero => exact Nat.le_refl _
  | succ f ih => have := ih (n / 2); simp only [trl]; split <;> omega
theorem trl_at (k n : Nat) (hk : k < 64) (h : n / pw k % 2 = 1) : trl (64 - k) (n / pw k) = trl (64 - (k + 1)) (n / pw (k + 1)) + 1 := by
  rw [show 64 - k = (64 - (k + 1)) + 1 by omega, trl_step _ _ h, div_half]
theorem trl_end (k n : Nat) (h : ¬ n / pw k % 2 = 1) : trl (64 - k) (n / pw k) = 0 := by
  cases h64 : 64 - k with
  | zero => rfl
  | succ d => rw [trl_none _ _ h]
theorem trail_any (n : Nat) (w : World) (hn : n < 2 ^ 64) :
    Calls Try.prog 20 #[.int .u64 n] w fun e w' => e = .returned (.int .u64 (trl 64 n : Nat)) ∧ w = w' := by
  go_enter Try.func20, Try.ntmps20
  go_wp2
  go_loopg [0, 3] 64 (fun g a c wr => ∃ k m : Nat, k ≤ 64 ∧ g = 64 - k ∧ a = .int .u64 (m : Int) ∧ c = .int .u64 (k : Int) ∧ n / pw k = m ∧ k + trl (64 - k) (n / pw k) = trl 64 n ∧ w = wr)
  case atStart =>
    go_light
    exact ⟨0, n, Nat.zero_le _, rfl, rfl, rfl, by simp [pw], by simp [pw], rfl⟩
  case round =>
    obtain ⟨k, m, hk, rfl, rfl, rfl, hm, hs, rfl⟩ := hrel
    have hmb : m < 2 ^ 64 := by rw [← hm]; exact Nat.lt_of_le_of_lt (Nat.div_le_self _ _) hn
    by_cases hb : m % 2 = 1
    · have hk64 : k < 64 := by
        by_cases h64 : k < 64
        · exact h64
        · have : k = 64 := by omega
          subst this
          have : n / pw 64 = 0 := Nat.div_eq_of_lt hn
          omega
      have HS := trl_at k n hk64 (by rw [hm]; exact hb)
      have hd : ((m : Int) % 2 == 1) = true := by have : (m : Int) % 2 = 1 := by omega
                                                  rw [this]; rfl
      have hk1 : (k : Int) < 64 := by omega
      have HX : Hid (n / pw (k + 1) = m / 2 ∧ (k + 1) + trl (64 - (k + 1)) (n / pw (k + 1)) = trl 64 n) := ⟨by rw [div_half, hm], by omega⟩
      obtain ⟨k2, hk2⟩ : ∃ k2 : Nat, k + 1 = k2 := ⟨_, rfl⟩
      have ek : IntKind.u64.wrap ((k : Int) + 1) = (k2 : Int) := by rw [IntKind.wrap_u64]; omega
      obtain ⟨m2, hm2⟩ : ∃ m2 : Nat, m / 2 = m2 := ⟨_, rfl⟩
      have em : (m : Int) / 2 = (m2 : Int) := by omega
      have em2 : IntKind.u64.wrap (m2 : Int) = (m2 : Int) := by rw [IntKind.wrap_u64]; omega
      rw [hm2, hk2] at HX
      clear HS hs hm hb hmb hm2 hk
      go_wp2
      go_roundg (64 - k2)
      case rel =>
        go_light
        exact ⟨k2, m2, by omega, rfl, rfl, rfl, HX.out.1, HX.out.2, rfl⟩
      case measure => go_light; omega
    · have HS := trl_end k n (by rw [hm]; exact hb)
      have hd : ((m : Int) % 2 == 1) = false := by have : (m : Int) % 2 = 0 := by omega
                                                   rw [this]; rfl
      have HX : Hid (k = trl 64 n) := (by omega : k = trl 64 n)
      clear HS hs hm hb hmb
      go_wp2
      go_ret
      exact ⟨by rw [← HX.out]; rfl, rfl⟩
theorem nodes_isno (n : Nat) (w : World) (hn : 2 ^ 40 < n) :
    Calls Try.prog 11 #[.int .u64 n] w fun e w' => e = .returned (.tuple #[.int .u64 0, .bool false]) ∧ w = w' := (nodes_no n w hn).mono fun _ _ h => ⟨h.1, h.2.symm⟩
theorem leaf_isno (n : Nat) (w : World) (hn : 2 ^ 40 ≤ n) :
    Calls Try.prog 17 #[.int .u64 n] w fun e w' => e = .returned (.tuple #[.int .u64 0, .bool false]) ∧ w = w' := (leaf_no n w hn).mono fun _ _ h => ⟨h.1, h.2.symm⟩
theorem grows_big (n : Nat) (w : World) (hn : 2 ^ 40 ≤ n) :
    Calls Try.prog 6 #[.int .u64 n] w fun e w' => e = .returned (.bool true) ∧ Below w.heap.size w w' := by
  have HA := fun w' => alive_any w'
  have HL := fun w' => leaf_isno n w' hn
  have h1 : (1099511627776 : Int) ≤ (n : Int) := by omega
  by_cases he : n = 2 ^ 40
  · have HN := fun w' => nodes_is n w' (by omega)
    have h2 : (n : Int) = 1099511627776 := by omega
    have h3 : ((n : Int) == 1099511627776) = true := by rw [h2]; rfl
    clear hn he h2
    generalize N n = x at *
    go_enter Try.func6, Try.ntmps6
    go_wp2_with (first
      | (go_at_call 9; with_reducible refine (HA _).mono ?_; rintro e w1 ⟨rfl, hb1⟩)
      | (go_at_call 11; with_reducible refine (HN _).mono ?_; rintro e w2 ⟨rfl, rfl⟩)
      | (go_at_call 17; with_reducible refine (HL _).mono ?_; rintro e w3 ⟨rfl, rfl⟩))
    go_ret
    exact ⟨rfl, hb1⟩
  · have HN := fun w' => nodes_isno n w' (by omega)
    have h2 : ¬ (n : Int) = 1099511627776 := by omega
    have h3 : ((n : Int) == 1099511627776) = false := by simpa using h2
    clear hn he h2
    go_enter Try.func6, Try.ntmps6
    go_wp2_with (first
      | (go_at_call 9; with_reducible refine (HA _).mono ?_; rintro e w1 ⟨rfl, hb1⟩)
      | (go_at_call 11; with_reducible refine (HN _).mono ?_; rintro e w2 ⟨rfl, rfl⟩)
      | (go_at_call 17; with_reducible refine (HL _).mono ?_; rintro e w3 ⟨rfl, rfl⟩))
    go_ret
    exact ⟨rfl, hb1⟩
set_option maxHeartbeats 4000000 in
set_option maxRecDepth 100000 in
theorem grows_low (n : Nat) (w : World) (hn : n < 2 ^ 40) :
    Calls Try.prog 6 #[.int .u64 n] w fun e w' => e = .returned (.bool true) ∧ Below w.heap.size w w' := by
  have HA := fun w' => alive_any w'
  have HL := fun w' => leaf_is n w' hn
  have HN := fun w' => nodes_is n w' (by omega)
  have HN1 := fun w' => nodes_is (n + 1) w' (by omega)
  have HT := fun w' => trail_any n w' (by omega)
  have HP := fun w' => peaks_yes (n + 1) w' (by omega)
  obtain ⟨s1, s2⟩ := trl_spec 64 n (by omega)
  obtain ⟨t, ht⟩ : ∃ t, trl 64 n = t := ⟨_, rfl⟩
  rw [ht] at s1 s2 HT
  have n1 := new_N t n s1 s2 hn
  have n2 := new_pk t n s1 s2 hn
  obtain ⟨n3, n4, n5⟩ := new_at t n s1 hn
  have n6 := at_lt t (n / pw t) n5 n4
  have hplen := pk_len (41 - t) n
  rw [n2] at HP
  have HB : Hid (∀ i, i ≤ t → ∃ q : Nat, (n : Int) / 2 ^ i = (q : Int) ∧ ∀ w', Calls Try.prog 13 #[.int .u64 ((N n + i : Nat) : Int)] w' fun e w'' => e = .returned (.tuple #[.agg #[.int .i64 (i : Int), .int .u64 (q : Int)], .bool true]) ∧ Below w'.heap.size w' w'') := by
    intro i hi
    obtain ⟨a1, a2, a3⟩ := new_at i n (ones_end_sub t i n hi s1) hn
    obtain ⟨q1, q2⟩ := at_blk i (n / pw i) a3 a2
    refine ⟨n / pw i, by simp [pw], fun w' => ?_⟩
    have := block_yes (at' i (n / pw i)) w' q1
    rwa [q2, a1] at this
  rw [n3] at n6
  simp only [most] at n6
  generalize pk (41 - t) n = L at *
  have HPL : Hid (L.length ≤ 41 - t) := hplen
  clear n2 n3 n4 s1 s2 ht hplen
  obtain ⟨m, hm⟩ : ∃ m, n + 1 = m := ⟨_, rfl⟩
  rw [hm] at HN1 HP n1
  have E1 : IntKind.u64.wrap ((n : Int) + 1) = (m : Int) := by rw [IntKind.wrap_u64]; omega
  generalize N n = x at *
  generalize N m = y at *
  obtain ⟨x1, hx1⟩ : ∃ x1, x + 1 = x1 := ⟨_, rfl⟩
  have E2 : IntKind.u64.wrap ((x : Int) + 1) = (x1 : Int) := by rw [IntKind.wrap_u64]; omega
  have E3 : IntKind.u64.wrap ((x1 : Int) + (t : Int)) = (y : Int) := by rw [IntKind.wrap_u64]; omega
  have hlt : decide ((1099511627776 : Int) ≤ (n : Int)) = false := decide_eq_false (by omega)
  have HY : Hid (y = x + t + 1 ∧ x + t < 2 ^ 63 ∧ t ≤ 40 ∧ n < 2 ^ 40) := ⟨n1, by omega, n5, hn⟩
  clear n1 n5 n6 hx1 hm hn
  go_enter Try.func6, Try.ntmps6
  go_wp2_with (first
    | (go_at_call 9; with_reducible refine (HA _).mono ?_; rintro e w1 ⟨rfl, hb1⟩)
    | (go_at_call 11; with_reducible refine (HN _).mono ?_; rintro e w2 ⟨rfl, rfl⟩)
    | (go_at_call 11; with_reducible refine (HN1 _).mono ?_; rintro e w2 ⟨rfl, rfl⟩)
    | (go_at_call 17; with_reducible refine (HL _).mono ?_; rintro e w3 ⟨rfl, rfl⟩)
    | (go_at_call 20; with_reducible refine (HT _).mono ?_; rintro e w3 ⟨rfl, rfl⟩))
  have HB1 : Hid (Below w.heap.size w w1) := hb1
  clear hb1 HA HL HN HN1 E2 E3
  go_loopg [11] (t + 1) (fun g i wr => ∃ k : Nat, k ≤ t + 1 ∧ g = t + 1 - k ∧ i = .int .u64 (k : Int) ∧ Below w.heap.size w wr)
  case atStart =>
    go_light
    exact ⟨0, Nat.zero_le _, rfl, rfl, HB1.out⟩
  case round =>
    clear HB1
    obtain ⟨k, hk, rfl, rfl, hb⟩ := hrel
    have HBW : Hid (Below w.heap.size w wr) := hb
    clear hb
    obtain ⟨y1, y2, y3, y4⟩ := HY.out
    by_cases hkt : k ≤ t
    · have hd : (k : Int) ≤ (t : Int) := by omega
      obtain ⟨q, hq, HBk⟩ := HB.out k hkt
      obtain ⟨a, ha⟩ : ∃ a, x + k = a := ⟨_, rfl⟩
      rw [ha] at HBk
      have F1 : IntKind.u64.wrap ((x : Int) + (k : Int)) = (a : Int) := by rw [IntKind.wrap_u64]; omega
      have F2 : IntKind.i64.wrap (k : Int) = (k : Int) := by rw [IntKind.wrap_i64]; omega
      have F3 : IntKind.u64.wrap ((k : Int) + 1) = ((k + 1 : Nat) : Int) := by rw [IntKind.wrap_u64]; omega
      have hk0 : (0 : Int) ≤ (k : Int) := Int.natCast_nonneg _
      have hk6 : (k : Int) < 64 := by omega
      obtain ⟨k2, hk2⟩ : ∃ k2, k + 1 = k2 := ⟨_, rfl⟩
      rw [hk2] at F3
      have HK : Hid (k + 1 = k2 ∧ k ≤ t) := ⟨hk2, hkt⟩
      clear y1 y2 y3 y4 ha hk hkt HY HB HP hk2
      go_wp2_with (first
        | (go_at_call 20; with_reducible refine (HT _).mono ?_; rintro e w3 ⟨rfl, rfl⟩)
        | (go_at_call 13; with_reducible refine (HBk _).mono ?_; rintro e w4 ⟨rfl, hb4⟩))
      go_roundg (t + 1 - k2)
      case rel =>
        go_light
        obtain ⟨z1, z2⟩ := HK.out
        exact ⟨k2, by omega, rfl, rfl, bal (bnext HBW.out hb4) _⟩
      case measure => go_light; obtain ⟨z1, z2⟩ := HK.out; omega
    · obtain rfl : k = t + 1 := by omega
      have hd : ¬ ((t + 1 : Nat) : Int) ≤ (t : Int) := by omega
      generalize t + 1 = k at *
      have F1 : IntKind.u64.wrap ((y : Int) - 1) = ((x + t : Nat) : Int) := by rw [IntKind.wrap_u64]; omega
      clear y1 y2 y3 y4 hk hkt HY HB
      generalize x + t = z at *
      go_upto_region 18 with (first
        | (go_at_call 20; with_reducible refine (HT _).mono ?_; rintro e w3 ⟨rfl, rfl⟩)
        | (go_at_call 10; with_reducible refine (HP _).mono ?_; rintro e w4 ⟨v, rfl, ho, hb4⟩))
      have HW4 : Hid (Below w.heap.size w w4) := bnext HBW.out hb4
      obtain ⟨ao, b, len, cap, rfl, r, hlm, _⟩ := own_rd ho
      have hlen : len = L.length + 1 := by rw [← r.len]; simp
      obtain rfl := r.addr (by omega)
      have cc := r.cell L.length (by omega)
      rw [show (L ++ [z]).getD L.length 0 = z by simp [List.getD_eq_getElem?_getD]] at cc
      obtain ⟨c, hc⟩ : ∃ c, L.length = c := ⟨_, rfl⟩
      rw [hc] at cc hlen
      have G0 : (0 : Int) < (len : Int) := by omega
      have G1 : (len : Int) - 1 = (c : Int) := by omega
      have G2 : (0 : Int) ≤ (c : Int) := Int.natCast_nonneg _
      have G3 : (c : Int) < (len : Int) := by omega
      rw [Nat.zero_add] at cc
      have G4 : (len : Int) ≤ 9223372036854775807 := by unfold maxLen at hlm; omega
      clear ho hb4 HBW r hlm hlen hc HPL HT HP
      go_wp2
      go_ret
      exact ⟨rfl, HW4.out⟩
theorem grows_row (a : Int) (w0 : (Lit.int .u64 a).wf = true) (w : World) :
    Calls Try.prog 6 #[.int .u64 a] w fun e w' => e = .returned (.bool true) ∧ Below w.heap.size w w' := by
  obtain ⟨n, rfl, _⟩ := u64_nat w0
  by_cases h : n < 2 ^ 40
  · exact grows_low n w h
  · exact grows_big n w (by omega)
end Go.Proofs.Ytilflepomeoffaa
