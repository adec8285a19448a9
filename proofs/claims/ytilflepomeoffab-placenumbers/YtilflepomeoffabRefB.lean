/-
  Walks of the reference: Of, Leaf. Own work.
-/
import Derived.Test.YtilflepomeoffabRefA
namespace Go.Proofs.Ytilflepomeoffab
open Go.RowKit
attribute [local go_sem ↓] Go.wp_at_zero Go.wp_at_succ
theorem rof_no (h : Int) (k : Nat) (w : World) (hm : ¬ May h k) :
    Calls Try.prog 19 #[bz h k] w fun e w' => e = .returned (.tuple #[.int .u64 0, .bool false]) ∧ Below w.heap.size w w' := by
  have HM : ∀ w', Calls Try.prog 31 #[.agg #[.int .i64 h, .int .u64 (k : Int)]] w' fun e w'' => e = .returned (.bool false) ∧ Below w'.heap.size w' w'' := fun w' => rmay_no h k w' hm
  clear hm
  go_enter Try.func19, Try.ntmps19
  go_wp2_with (go_at_call 31; with_reducible refine (HM _).mono ?_; rintro e w1 ⟨rfl, hb⟩)
  go_ret2
  exact ⟨rfl, bnext (ball _ _) hb⟩
theorem rof_yes (h k : Nat) (w : World) (hh : h ≤ 40) (hk : k < pw (40 - h)) :
    Calls Try.prog 19 #[bv h k] w fun e w' => e = .returned (.tuple #[.int .u64 (at' h k : Nat), .bool true]) ∧ Below w.heap.size w w' := by
  have HM : ∀ w', Calls Try.prog 31 #[.agg #[.int .i64 (h : Int), .int .u64 (k : Int)]] w' fun e w'' => e = .returned (.bool true) ∧ Below w'.heap.size w' w'' := fun w' => by
    have := rmay_else h k w' hh
    rwa [decide_eq_true hk] at this
  have HH : Hid (h ≤ 40 ∧ k < pw (40 - h)) := ⟨hh, hk⟩
  clear hh hk
  go_enter Try.func19, Try.ntmps19
  go_wp2_with (go_at_call 31; with_reducible refine (HM _).mono ?_; rintro e w1 ⟨rfl, hb⟩)
  have HK := (Kp.new w (h : Int) k 25).next hb
  clear hb HM
  go_loopg [4, 5] 40 (fun g f j wr => ∃ i x : Nat, h ≤ i ∧ i ≤ 40 ∧ i = g ∧ f = .int .u64 (x : Int) ∧ j = .int .i64 (i : Int) ∧ x = fr i (k / pw (i - h)) ∧ w1 = wr)
  case atStart =>
    go_light
    obtain ⟨hh, hk⟩ := HH.out
    exact ⟨40, 0, hh, Nat.le_refl _, rfl, rfl, rfl, by rw [Nat.div_eq_of_lt hk, fr_all], rfl⟩
  case round =>
    obtain ⟨i, x, h1, h2, hg, rfl, rfl, hx, rfl⟩ := hrel
    subst hg
    obtain ⟨hh, hk⟩ := HH.out
    obtain ⟨c0, c1⟩ := HK.two.at0
    have hkb := may_big hk
    by_cases hlt : h < i
    · obtain ⟨j, hj⟩ : ∃ j, i = j + 1 := ⟨i - 1, by omega⟩
      obtain ⟨s, hs⟩ : ∃ s : Nat, j - h = s := ⟨_, rfl⟩
      obtain ⟨q, hq⟩ : ∃ q, k / pw s = q := ⟨_, rfl⟩
      have hqk : q < 2 ^ 63 := by rw [← hq]; have := Nat.div_le_self k (pw s); omega
      have d1 : (h : Int) < (i : Int) := by omega
      have ei : (i : Int) - 1 = (j : Int) := by omega
      have e1 : IntKind.i64.wrap (j : Int) = (j : Int) := by rw [IntKind.wrap_i64]; omega
      have e2 : (j : Int) - (h : Int) = (s : Int) := by omega
      have e3 : IntKind.u64.wrap (s : Int) = (s : Int) := by rw [IntKind.wrap_u64]; omega
      have s0 : (0 : Int) ≤ (s : Int) := Int.natCast_nonneg _
      have s1 : (s : Int) < 64 := by omega
      have eq : (k : Int) / 2 ^ s = (q : Int) := by rw [← hq]; simp [pw]
      have hx2 : x = fr (j + 1) (q / 2) := by rw [hx, hj, show j + 1 - h = s + 1 by omega, div_half, hq]
      have HN : ∀ w', Calls Try.prog 27 #[.int .i64 (j : Int)] w' fun e w'' => e = .returned (.int .u64 (2 * pw j - 1 : Nat)) ∧ w' = w'' := fun w' => rnodes_any j w' (by omega)
      by_cases hqo : q % 2 = 1
      · have hd : ((q : Int) % 2 == 1) = true := by have : (q : Int) % 2 = 1 := by omega
                                                    rw [this]; rfl
        have f1 := fr_right j (q / 2) (by omega)
        rw [show 2 * (q / 2) + 1 = q by omega, ← hx2] at f1
        have hsm : fr j q ≤ 2 * 2 ^ 40 := by
          have := at_lt h k hh hk
          have f2 := fr_eq j q
          have f3 : q * pw j ≤ 2 ^ 40 := by
            have a1 : k < pw (40 - h) := hk
            have a2 : q ≤ pw (40 - j) := by
              have : q ≤ pw (40 - h) / pw s := by rw [← hq]; exact Nat.div_le_div_right (Nat.le_of_lt hk)
              have e : pw (40 - h) / pw s = pw (40 - j) := by
                rw [show 40 - h = (40 - j) + s by omega, pw_add, Nat.mul_div_cancel _ (pw_pos s)]
              omega
            have a3 : q * pw j ≤ pw (40 - j) * pw j := Nat.mul_le_mul_right _ a2
            rw [← pw_add, show 40 - j + j = 40 by omega] at a3
            exact a3
          have e : 2 * pw j * q = 2 * (q * pw j) := by rw [Nat.mul_assoc, Nat.mul_comm (pw j)]
          omega
        obtain ⟨x2, hx3⟩ : ∃ x2, fr j q = x2 := ⟨_, rfl⟩
        rw [hx3] at f1 hsm
        have ex : IntKind.u64.wrap ((x : Int) + ((2 * pw j - 1 : Nat) : Int)) = (x2 : Int) := by rw [IntKind.wrap_u64]; omega
        have HX : Hid (h ≤ j ∧ j ≤ 40 ∧ j < i ∧ x2 = fr j (k / pw (j - h))) := ⟨by omega, by omega, by omega, by rw [hs, hq, hx3]⟩
        clear h1 h2 hx hh hk hkb hlt hj hs hq hqk hx2 hqo f1 hsm hx3
        generalize 2 * pw j - 1 = t at *
        go_wp2_with (go_at_call 27; with_reducible refine (HN _).mono ?_; rintro e w' ⟨rfl, rfl⟩)
        go_roundg j
        case rel =>
          go_light
          obtain ⟨z1, z2, z3, z4⟩ := HX.out
          exact ⟨j, x2, z1, z2, rfl, rfl, rfl, z4, rfl⟩
        case measure => go_light; exact HX.out.2.2.1
      · have hd : ((q : Int) % 2 == 1) = false := by have : (q : Int) % 2 = 0 := by omega
                                                     rw [this]; rfl
        have f1 := fr_left j (q / 2) (by omega)
        rw [show 2 * (q / 2) = q by omega, ← hx2] at f1
        have HX : Hid (h ≤ j ∧ j ≤ 40 ∧ j < i ∧ x = fr j (k / pw (j - h))) := ⟨by omega, by omega, by omega, by rw [hs, hq, f1]⟩
        clear h1 h2 hx hh hk hkb hlt hj hs hq hqk hx2 hqo f1 HN
        go_wp2
        go_roundg j
        case rel =>
          go_light
          obtain ⟨z1, z2, z3, z4⟩ := HX.out
          exact ⟨j, x, z1, z2, rfl, rfl, rfl, z4, rfl⟩
        case measure => go_light; exact HX.out.2.2.1
    · obtain rfl : h = i := by omega
      have d1 : ¬ (h : Int) < (h : Int) := by omega
      have hx2 : x = fr h k := by rw [hx, Nat.sub_self, pw_zero, Nat.div_one]
      have HN : ∀ w', Calls Try.prog 27 #[.int .i64 (h : Int)] w' fun e w'' => e = .returned (.int .u64 (2 * pw h - 1 : Nat)) ∧ w' = w'' := fun w' => rnodes_any h w' hh
      have f1 := at_fr h k
      have f2 := at_lt h k hh hk
      have f3 := pw_pos h
      have f4 := pw_40 h hh
      simp only [most] at f2
      obtain ⟨y, hy⟩ : ∃ y, x + (2 * pw h - 1) = y := ⟨_, rfl⟩
      have e1 : IntKind.u64.wrap ((x : Int) + ((2 * pw h - 1 : Nat) : Int)) = (y : Int) := by rw [IntKind.wrap_u64]; omega
      have e2 : IntKind.u64.wrap ((y : Int) - 1) = (at' h k : Nat) := by rw [IntKind.wrap_u64]; omega
      have HB : Hid (Below w.heap.size w w1) := HK.below
      clear h1 h2 hx hh hk hkb hlt hx2 f1 f2 f3 f4 hy HH HK
      generalize 2 * pw h - 1 = t at *
      obtain ⟨r, hr⟩ : ∃ r, at' h k = r := ⟨_, rfl⟩
      have HR : Hid (at' h k = r) := hr
      rw [hr] at e2
      clear hr
      go_wp2_with (go_at_call 27; with_reducible refine (HN _).mono ?_; rintro e w' ⟨rfl, rfl⟩)
      go_ret2
      exact ⟨by rw [HR.out]; rfl, HB.out⟩
theorem rleaf_yes (n : Nat) (w : World) (hn : n < 2 ^ 40) :
    Calls Try.prog 17 #[.int .u64 n] w fun e w' => e = .returned (.tuple #[.int .u64 (N n : Nat), .bool true]) ∧ Below w.heap.size w w' := by
  have h1 : at' 0 n = N n := by
    have h1 := at_eq 0 n
    have h2 := N_eq n
    rw [pw_zero] at h1; omega
  have HC : ∀ w', Calls Try.prog 19 #[.agg #[.int .i64 0, .int .u64 (n : Int)]] w' fun e w'' => e = .returned (.tuple #[.int .u64 (N n : Nat), .bool true]) ∧ Below w'.heap.size w' w'' := fun w' => h1 ▸ rof_yes 0 n w' (by omega) hn
  clear hn h1
  generalize N n = x at *
  go_enter Try.func17, Try.ntmps17
  go_wp2_with (go_at_call 19; with_reducible refine (HC _).mono ?_; rintro e w' ⟨rfl, hb⟩)
  go_ret2
  exact ⟨rfl, hb⟩
theorem rleaf_no (n : Nat) (w : World) (hn : 2 ^ 40 ≤ n) :
    Calls Try.prog 17 #[.int .u64 n] w fun e w' => e = .returned (.tuple #[.int .u64 0, .bool false]) ∧ Below w.heap.size w w' := by
  have HC : ∀ w', Calls Try.prog 19 #[.agg #[.int .i64 0, .int .u64 (n : Int)]] w' fun e w'' => e = .returned (.tuple #[.int .u64 0, .bool false]) ∧ Below w'.heap.size w' w'' := fun w' => rof_no 0 n w' (fun hm => by
    have h1 : n < pw 40 := hm.2.2
    have : pw 40 = 2 ^ 40 := rfl
    omega)
  clear hn
  go_enter Try.func17, Try.ntmps17
  go_wp2_with (go_at_call 19; with_reducible refine (HC _).mono ?_; rintro e w' ⟨rfl, hb⟩)
  go_ret2
  exact ⟨rfl, hb⟩
end Go.Proofs.Ytilflepomeoffab
