/-
  How many digests a path has. Own work.
-/
import Derived.Test.YtelglfmppmdmoaaCoSpec
namespace Go.Proofs.Ytelglfmppmdmoaa
open Cv (rst cov Chain dnL tno inb)
open Pl (pw)
theorem xor_odd (m : Nat) : (2 * m + 1) ^^^ (2 * m) = 1 := by
  have h1 : ((2 * m + 1) ^^^ (2 * m)) / 2 = 0 := by
    have e : ((2 * m + 1) ^^^ (2 * m)) >>> 1 = ((2 * m + 1) >>> 1) ^^^ ((2 * m) >>> 1) := Nat.shiftRight_xor_distrib
    rw [Nat.shiftRight_eq_div_pow, Nat.shiftRight_eq_div_pow, Nat.shiftRight_eq_div_pow, show (2 * m + 1) / 2 ^ 1 = m by omega, show 2 * m / 2 ^ 1 = m by omega, Nat.xor_self] at e
    simpa using e
  have h2 : ((2 * m + 1) ^^^ (2 * m)) % 2 = 1 := by
    have e : ((2 * m + 1) ^^^ (2 * m)) % 2 ^ 1 = ((2 * m + 1) % 2 ^ 1) ^^^ ((2 * m) % 2 ^ 1) := Nat.xor_mod_two_pow
    rw [show (2 * m + 1) % 2 ^ 1 = 1 by omega, show 2 * m % 2 ^ 1 = 0 by omega] at e
    exact e
  omega
theorem xor_high {n i H q : Nat} (hq : q % 2 = 0) (h1 : n / 2 ^ H = q + 1) (h2 : i / 2 ^ H = q) : 2 ^ H ≤ n ^^^ i ∧ n ^^^ i < 2 ^ (H + 1) := by
  have e : (n ^^^ i) / 2 ^ H = 1 := by
    have e : (n ^^^ i) >>> H = (n >>> H) ^^^ (i >>> H) := Nat.shiftRight_xor_distrib
    rw [Nat.shiftRight_eq_div_pow, Nat.shiftRight_eq_div_pow, Nat.shiftRight_eq_div_pow, h1, h2] at e
    obtain ⟨m, rfl⟩ : ∃ m, q = 2 * m := ⟨q / 2, by omega⟩
    rw [e, xor_odd]
  have hp : 0 < 2 ^ H := Nat.two_pow_pos H
  constructor
  · have := Nat.div_mul_le_self (n ^^^ i) (2 ^ H)
    rw [e] at this
    omega
  · have := Nat.lt_mul_of_div_lt (show (n ^^^ i) / 2 ^ H < 2 by omega) hp
    rw [Nat.pow_succ]
    omega
theorem tno_in (i : Nat) : ∀ H K, K * pw H ≤ i → i < (K + 1) * pw H → (tno H K [i]).length = H := by
  intro H
  induction H with
  | zero =>
    intro K h1 h2
    have hb : inb 0 K i = true := Cv.inb_iff.2 ⟨h1, h2⟩
    rw [tno, List.filter_cons_of_pos hb]
    simp
  | succ H ih =>
    intro K h1 h2
    have hb : inb (H + 1) K i = true := Cv.inb_iff.2 ⟨h1, h2⟩
    have e1 := Cv.half_lo H K
    have e2 := Cv.half_mid H K
    have e3 := Cv.half_hi H K
    have e4 := Cv.blk_len H K
    rw [tno, List.filter_cons_of_pos hb, List.filter_nil, if_neg (by simp), List.length_append]
    have out : ∀ K', ¬ (K' * pw H ≤ i ∧ i < (K' + 1) * pw H) → (tno H K' [i]).length = 1 := fun K' h => by
      have hb : ¬ inb H K' i = true := fun e => h (Cv.inb_iff.1 e)
      exact (Cv.tno_count H K' [i]).1 (by rw [List.filter_cons_of_neg hb]; rfl)
    by_cases hm : i < K * pw (H + 1) + pw H
    · rw [ih (2 * K) (by omega) (by rw [e2]; exact hm), out (2 * K + 1) (by omega)]
    · rw [out (2 * K) (by omega), ih (2 * K + 1) (by omega) (by omega)]
      omega
theorem tno_out {i H K : Nat} (h : ¬ (K * pw H ≤ i ∧ i < (K + 1) * pw H)) : (tno H K [i]).length = 1 := by
  have hb : ¬ inb H K i = true := fun e => h (Cv.inb_iff.1 e)
  exact (Cv.tno_count H K [i]).1 (by rw [List.filter_cons_of_neg hb]; rfl)
theorem dn_after (n i : Nat) : ∀ h lo, (∃ c, lo = c * pw h) → i < lo → ((dnL h lo n).flatMap fun b => tno b.1 b.2 [i]).length = (dnL h lo n).length := by
  intro h
  induction h with
  | zero => intro lo _ _; rfl
  | succ h ih =>
    intro lo hc hi
    obtain ⟨c, rfl⟩ := hc
    have e := Cv.mul_half c h
    rw [dnL]
    split
    · rw [List.flatMap_cons, List.length_append, List.length_cons, ih _ ⟨2 * c + 1, by rw [Nat.add_mul, Nat.one_mul, e]⟩ (by omega), tno_out (by
        intro hx
        dsimp only at hx
        rw [e, Nat.mul_div_cancel _ (Pl.pw_pos h)] at hx
        omega)]
      omega
    · exact ih _ ⟨2 * c, e⟩ hi
theorem path_sum (n i : Nat) (hin : i < n) : ∀ h lo, (∃ c, lo = c * pw h) → lo ≤ i → n - lo < pw h →
    ∃ H, ((dnL h lo n).flatMap fun b => tno b.1 b.2 [i]).length + 1 = H + (dnL h lo n).length ∧ 2 ^ H ≤ n ^^^ i ∧ n ^^^ i < 2 ^ (H + 1) ∧ H < h := by
  intro h
  induction h with
  | zero => intro lo _ h1 h2; have : pw 0 = 1 := rfl; omega
  | succ h ih =>
    intro lo hc h1 h2
    obtain ⟨c, rfl⟩ := hc
    have e := Cv.mul_half c h
    have hp := Pl.pw_pos h
    have hs := Pl.pw_succ h
    rw [dnL]
    split
    · rename_i hfit
      have hq : c * pw (h + 1) / pw h = 2 * c := by rw [e, Nat.mul_div_cancel _ hp]
      rw [List.flatMap_cons, List.length_append, List.length_cons, hq]
      by_cases hm : i < c * pw (h + 1) + pw h
      · refine ⟨h, ?_, ?_⟩
        · rw [tno_in i h (2 * c) (by omega) (by rw [Nat.add_mul, Nat.one_mul]; omega), dn_after n i h _ ⟨2 * c + 1, by rw [Nat.add_mul, Nat.one_mul, e]⟩ hm]
          omega
        · have a1 : n / 2 ^ h = 2 * c + 1 := by
            have : n / pw h = 2 * c + 1 := by
              apply Nat.div_eq_of_lt_le
              · rw [Nat.add_mul, Nat.one_mul]; omega
              · rw [Nat.add_mul, Nat.add_mul, Nat.one_mul]; omega
            exact this
          have a2 : i / 2 ^ h = 2 * c := by
            have : i / pw h = 2 * c := by
              apply Nat.div_eq_of_lt_le
              · omega
              · rw [Nat.add_mul, Nat.one_mul]; omega
            exact this
          obtain ⟨b1, b2⟩ := xor_high (q := 2 * c) (by omega) a1 a2
          exact ⟨b1, b2, by omega⟩
      · obtain ⟨H, g1, g2, g3, g4⟩ := ih (c * pw (h + 1) + pw h) ⟨2 * c + 1, by rw [Nat.add_mul, Nat.one_mul, e]⟩ (by omega) (by omega)
        refine ⟨H, ?_, g2, g3, by omega⟩
        rw [tno_out (by intro hx; dsimp only at hx; rw [Nat.add_mul, Nat.one_mul, ← e] at hx; omega)]
        omega
    · rename_i hfit
      obtain ⟨H, g1, g2, g3, g4⟩ := ih (c * pw (h + 1)) ⟨2 * c, e⟩ h1 (by omega)
      exact ⟨H, g1, g2, g3, by omega⟩
theorem path_cnt {n i : Nat} (hn : n ≤ 2 ^ 40) (hin : i < n) : ∃ H, (rst 0 n [i]).length + 1 = H + Pl.ones 64 n ∧ 2 ^ H ≤ n ^^^ i ∧ n ^^^ i < 2 ^ (H + 1) ∧ H ≤ 40 := by
  have hp : n < pw 41 := by
    have : pw 41 = 2 * 2 ^ 40 := rfl
    omega
  obtain ⟨H, g1, g2, g3, g4⟩ := path_sum n i hin 41 0 ⟨0, by simp⟩ (Nat.zero_le _) (by simpa using hp)
  have hc : Chain 0 [i] n := ⟨Nat.zero_le _, hin⟩
  refine ⟨H, ?_, g2, g3, by omega⟩
  rw [Cv.rest_ref n [i] hn hc, g1, ← Cv.cov_zero n hn, Cv.cov_ones n hn]
end Go.Proofs.Ytelglfmppmdmoaa
