/-
  Walks of package wire: a Reader's Number. Own work.
-/
import Derived.Test.YtelglfmppmdmoaaWWalkB
namespace Go.Proofs.Ytelglfmppmdmoaa
open Go.RowKit
attribute [local go_sem ↓] Go.wp_at_zero Go.wp_at_succ
/-- What a Reader's Number answers, and what is left. -/
def nb (s : ByteArray) (e : Nat) : Nat × Nat × ByteArray :=
  if e ≠ 0 then (0, e, s) else ((scan s.data.toList 0 0).1, (scan s.data.toList 0 0).2.1, if (scan s.data.toList 0 0).2.1 = 0 then s.extract (scan s.data.toList 0 0).2.2 s.size else ByteArray.empty)
theorem nb_of {s : ByteArray} {n k : Nat} (h : scan s.data.toList 0 0 = (n, 0, k)) : nb s 0 = (n, 0, s.extract k s.size) := by
  simp [nb, h]
theorem nb_err {s : ByteArray} {n e k : Nat} (h : scan s.data.toList 0 0 = (n, e, k)) (he : e ≠ 0) : nb s 0 = (n, e, ByteArray.empty) := by
  simp [nb, h, he]
theorem drop_at (s : ByteArray) (k : Nat) (hk : k < s.size) : s.data.toList.drop k = s[k] :: s.data.toList.drop (k + 1) := by
  rw [List.drop_eq_getElem_cons (by simpa using hk)]
  rfl
theorem hide {q : Prop} (h : q) : Hid q := h
theorem or7 (n b k : Nat) (hn : n < 128 ^ k) (hk : k ≤ 9) (h : k = 9 → b ≤ 1) :
    bits .or .u64 (n : Int) (IntKind.u64.wrap ((b : Int) % 128 * 2 ^ (7 * k))) = ((n + b % 128 * 128 ^ k : Nat) : Int) ∧ n + b % 128 * 128 ^ k < 18446744073709551616 := by
  have e9 : (128 : Nat) ^ 9 = 9223372036854775808 := by decide
  have hp : 128 ^ k ≤ 128 ^ 9 := pow_le9 hk
  have hx : b % 128 * 128 ^ k ≤ 9223372036854775808 := by
    rcases Nat.lt_or_ge k 9 with h9 | h9
    · have hp1 : 128 ^ (k + 1) ≤ 128 ^ 9 := pow_le9 (by omega)
      have : b % 128 * 128 ^ k ≤ 127 * 128 ^ k := Nat.mul_le_mul_right _ (by omega)
      rw [Nat.pow_succ] at hp1
      omega
    · obtain rfl : k = 9 := by omega
      have : b % 128 * 128 ^ 9 ≤ 1 * 128 ^ 9 := Nat.mul_le_mul_right _ (by have := h rfl; omega)
      omega
  have e1 : ((b : Int) % 128 * 2 ^ (7 * k)) = ((b % 128 * 128 ^ k : Nat) : Int) := by
    rw [Int.natCast_mul, Int.natCast_pow, Int.pow_mul]; rfl
  have e2 : (2 : Nat) ^ (7 * k) = 128 ^ k := by rw [Nat.pow_mul]
  rw [e1, IntKind.wrap_u64, Int.emod_eq_of_lt (by omega) (by omega), u64_or_nat _ _ (by omega) (by omega)]
  refine ⟨?_, by omega⟩
  have := Nat.two_pow_add_eq_or_of_lt (i := 7 * k) (b := n) (by rw [e2]; exact hn) (b % 128)
  rw [Nat.or_comm, ← e2, Nat.mul_comm (b % 128), ← this, Nat.add_comm n]
set_option maxRecDepth 100000 in
theorem rnum_any (w : World) (p e : Nat) (s : ByteArray) (hr : Rdr w p s e) (hs : s.size ≤ 9223372036854775807) :
    Calls Try.prog 66 #[.pointer (some ⟨p, 0, none⟩)] w fun x w' => x = .returned (.tuple #[.int .u64 ((nb s e).1 : Int), .int .i64 ((nb s e).2.1 : Int)]) ∧ Rdr w' p (nb s e).2.2 (nb s e).2.1 ∧ Ch p w w' := by
  have c0 := hr.c0
  have c1 := hr.c1
  have f0 := hr.f0
  have f1 := hr.f1
  by_cases he : e = 0
  · subst he
    have F60 := fail_any w p 60 s hr
    have F61 := fail_any w p 61 s hr
    have RS : Hid (∀ k, Rdr (w.setCell ⟨p, 0, none⟩ (.string (s.extract k s.size))) p (s.extract k s.size) 0) := fun k => hr.set0 _
    clear hr
    go_enter Try.func66, Try.ntmps66
    go_wp2
    go_loopg [4, 5] 10 (fun g x i wr => w = wr ∧ ∃ (k n : Nat), k ≤ s.size ∧ k ≤ 9 ∧ g = 10 - k ∧ x = .int .u64 (n : Int) ∧ i = .int .i64 k ∧ Hid (n < 128 ^ k ∧ scan (s.data.toList.drop k) k n = scan s.data.toList 0 0))
    case atStart =>
      go_light
      exact ⟨rfl, 0, 0, Nat.zero_le _, by omega, rfl, rfl, rfl, by decide, by rw [List.drop_zero]⟩
    case round =>
      obtain ⟨rfl, k, n, hk, h9, rfl, rfl, rfl, HS⟩ := hrel
      by_cases hlt : k < s.size
      · have hz : (k : Int) < (s.size : Int) := by omega
        obtain ⟨b, hb⟩ : ∃ b, s[k].toNat = b := ⟨_, rfl⟩
        have hb8 : b < 256 := by rw [← hb]; exact s[k].toNat_lt
        obtain ⟨hn, hsc⟩ := HS.out
        rw [drop_at s k hlt, scan, hb] at hsc
        clear HS
        by_cases hi : k = 9 ∧ 1 < b
        · obtain ⟨rfl, hi⟩ := hi
          rw [if_pos ⟨rfl, hi⟩] at hsc
          have HT := hide (nb_err hsc.symm (by decide))
          have hi' : (1 : Int) < (b : Int) := by omega
          clear hsc hn
          go_wp2_with (go_at_call 74; refine F61.mono ?_; rintro x w' ⟨rfl, h1, h2⟩)
          go_ret2
          rw [HT.out]
          exact ⟨rfl, h1, h2⟩
        · obtain ⟨ho, hlim⟩ := or7 n b k hn h9 (by omega)
          rw [if_neg hi] at hsc
          obtain ⟨m, hm⟩ : ∃ m, m = n + b % 128 * 128 ^ k := ⟨_, rfl⟩
          rw [← hm] at ho hlim
          by_cases hl : b < 128
          · rw [if_pos hl, ← show b % 128 = b from Nat.mod_eq_of_lt hl, ← hm, show b % 128 = b from Nat.mod_eq_of_lt hl] at hsc
            have hl' : (b : Int) < 128 := by omega
            by_cases h0 : b = 0 ∧ 0 < k
            · rw [if_pos h0] at hsc
              have HT := hide (nb_err hsc.symm (by decide))
              obtain ⟨rfl, h0⟩ := h0
              have h0' : (0 : Int) < (k : Int) := by omega
              clear hsc hn hm
              by_cases hk9 : k = 9
              · subst hk9
                go_wp2_with (go_at_call 74; refine F61.mono ?_; rintro x w' ⟨rfl, h1, h2⟩)
                go_ret2
                rw [HT.out]
                exact ⟨rfl, h1, h2⟩
              · have hq : ¬ (k : Int) = 9 := by omega
                go_wp2_with (go_at_call 74; refine F61.mono ?_; rintro x w' ⟨rfl, h1, h2⟩)
                go_ret2
                rw [HT.out]
                exact ⟨rfl, h1, h2⟩
            · rw [if_neg h0] at hsc
              have HT := hide (nb_of hsc.symm)
              clear hsc hn hm
              have HC : Hid (Ch p w (w.setCell ⟨p, 0, none⟩ (.string (s.extract (k + 1) s.size)))) := (Ch.refl p w).set 0 _
              have hz1 : ((k : Int) + 1) ≤ (s.size : Int) := by omega
              by_cases hk9 : k = 9
              · subst hk9
                have hb1 : ¬ (1 : Int) < (b : Int) := by omega
                have hb0 : ¬ (b : Int) = 0 := by omega
                have ho9 : bits .or .u64 (n : Int) ((b : Int) % 128 * 9223372036854775808) = (m : Int) := by
                  rw [← ho, IntKind.wrap_u64]
                  have e : (2 : Int) ^ (7 * 9) = 9223372036854775808 := by decide
                  rw [e, Int.emod_eq_of_lt (a := (b : Int) % 128 * 9223372036854775808) (by omega) (by omega)]
                go_wp2
                go_ret2
                rw [HT.out]
                exact ⟨rfl, RS.out _, HC.out⟩
              · have hq : ¬ (k : Int) = 9 := by omega
                by_cases hb0 : b = 0
                · obtain rfl : k = 0 := by omega
                  subst hb0
                  have ho0 : bits .or .u64 (n : Int) 0 = (m : Int) := by rw [← ho]; rfl
                  go_wp2
                  go_ret2
                  rw [HT.out]
                  exact ⟨rfl, RS.out _, HC.out⟩
                · have hb1 : ¬ (b : Int) = 0 := by omega
                  go_wp2
                  go_ret2
                  rw [HT.out]
                  exact ⟨rfl, RS.out _, HC.out⟩
          · have hq : ¬ (k : Int) = 9 := by omega
            have hl' : ¬ (b : Int) < 128 := by omega
            have HS : Hid (m < 128 ^ (k + 1) ∧ scan (s.data.toList.drop (k + 1)) (k + 1) m = scan s.data.toList 0 0) := by
              rw [if_neg hl, ← hm] at hsc
              refine ⟨?_, hsc⟩
              rw [hm, Nat.pow_succ]
              have : b % 128 * 128 ^ k ≤ 127 * 128 ^ k := Nat.mul_le_mul_right _ (by omega)
              omega
            clear hsc hn hm
            go_wp2
            go_roundg (10 - (k + 1))
            case rel =>
              go_light
              exact ⟨rfl, k + 1, m, by omega, by omega, rfl, rfl, by go_num, HS.out⟩
            case measure => go_light; omega
      · obtain rfl : k = s.size := by omega
        have hz : ¬ (s.size : Int) < (s.size : Int) := by omega
        have hsc := HS.out.2
        rw [List.drop_eq_nil_of_le (by simp), scan] at hsc
        have HT := hide (nb_err hsc.symm (by decide))
        clear hsc HS
        go_wp2_with (go_at_call 74; refine F60.mono ?_; rintro x w' ⟨rfl, h1, h2⟩)
        go_ret2
        rw [HT.out]
        exact ⟨rfl, h1, h2⟩
  · have ht : nb s e = (0, e, s) := by rw [nb, if_pos he]
    rw [ht]
    have hz : ¬ (e : Int) = 0 := by omega
    go_enter Try.func66, Try.ntmps66
    go_wp2
    go_quiet (fail)
    go_wp2
    go_ret2
    exact ⟨rfl, hr.drewN _, (Ch.refl p w).drewN _⟩
end Go.Proofs.Ytelglfmppmdmoaa
