/-
  Walks of the reference: a Reader's Number. Own work.
-/
import Derived.Test.YtelglfmppmdmoaaWRefB
namespace Go.Proofs.Ytelglfmppmdmoaa
open Go.RowKit
attribute [local go_sem ↓] Go.wp_at_zero Go.wp_at_succ
/-- What the reference's Number answers: where it stands, its error, the number. -/
def rnb (T : ByteArray) (a e : Nat) : Nat × Nat × Nat :=
  if e ≠ 0 then (a, e, 0) else (if (scan (T.data.toList.drop a) 0 0).2.1 = 0 then a + (scan (T.data.toList.drop a) 0 0).2.2 else a, (scan (T.data.toList.drop a) 0 0).2.1, (scan (T.data.toList.drop a) 0 0).1)
theorem rnb_of {T : ByteArray} {a n k : Nat} (h : scan (T.data.toList.drop a) 0 0 = (n, 0, k)) : rnb T a 0 = (a + k, 0, n) := by
  simp [rnb, h]
theorem rnb_err {T : ByteArray} {a n e k : Nat} (h : scan (T.data.toList.drop a) 0 0 = (n, e, k)) (he : e ≠ 0) : rnb T a 0 = (a, e, n) := by
  simp [rnb, h, he]
theorem mul7 (n b k o : Nat) (ho : o = 128 ^ k) (hn : n < 128 ^ k) (hk : k ≤ 9) (h : k = 9 → b ≤ 1) :
    ∃ x m, IntKind.u64.wrap ((o : Int) * ((b : Int) % 128)) = ((x : Nat) : Int) ∧ IntKind.u64.wrap ((n : Int) + (x : Int)) = ((m : Nat) : Int) ∧ m = n + b % 128 * 128 ^ k ∧ x < 18446744073709551616 ∧ m < 18446744073709551616 := by
  obtain ⟨_, h2⟩ := or7 n b k hn hk h
  subst ho
  have e : ((128 ^ k : Nat) : Int) * ((b : Int) % 128) = ((b % 128 * 128 ^ k : Nat) : Int) := by
    rw [Int.mul_comm, Int.natCast_mul]; rfl
  refine ⟨b % 128 * 128 ^ k, n + b % 128 * 128 ^ k, ?_, ?_, rfl, by omega, h2⟩
  · rw [e, IntKind.wrap_u64]; omega
  · rw [IntKind.wrap_u64]; omega
theorem pow7 (k : Nat) (hk : k < 9) (o : Nat) (ho : o = 128 ^ k) : IntKind.u64.wrap ((o : Int) * 128) = ((o * 128 : Nat) : Int) ∧ o * 128 = 128 ^ (k + 1) := by
  subst ho
  have hp : 128 ^ (k + 1) ≤ 128 ^ 9 := pow_le9 (by omega)
  have e9 : (128 : Nat) ^ 9 = 9223372036854775808 := by decide
  rw [Nat.pow_succ] at hp
  refine ⟨?_, (Nat.pow_succ ..).symm⟩
  rw [IntKind.wrap_u64]; omega
set_option maxRecDepth 100000 in
set_option maxHeartbeats 2000000 in
theorem refrnum_any (w : World) (T : ByteArray) (a e : Nat) (ha : a ≤ T.size) (hT : T.size ≤ 9223372036854775000) :
    Calls Try.prog 59 #[rv T a e] w fun x w' => x = .returned (.tuple #[rv T (rnb T a e).1 (rnb T a e).2.1, .int .u64 ((rnb T a e).2.2 : Int), .int .i64 ((rnb T a e).2.1 : Int)]) ∧ Below w.heap.size w w' := by
  by_cases he : e = 0
  · subst he
    go_enter Try.func59, Try.ntmps59
    go_wp2
    go_loopg [5, 6, 7] 10 (fun g x o i wr => (w.alloc (.cells #[.string T, .int .i64 (a : Int), .int .i64 0] 89)).alloc (.cells #[.string ByteArray.empty, .int .i64 0, .int .i64 0] 89) = wr ∧
      ∃ (k n p : Nat), a + k ≤ T.size ∧ k ≤ 9 ∧ 10 - k = g ∧ x = .int .u64 (n : Int) ∧ o = .int .u64 (p : Int) ∧ i = .int .i64 k ∧ Hid (p = 128 ^ k ∧ n < 128 ^ k ∧ scan (T.data.toList.drop (a + k)) k n = scan (T.data.toList.drop a) 0 0))
    case atStart =>
      go_light
      exact ⟨rfl, 0, 0, 1, by omega, by omega, rfl, rfl, rfl, rfl, rfl, by decide, rfl⟩
    case round =>
      obtain ⟨rfl, k, n, p, hk, h9, rfl, rfl, rfl, rfl, HS⟩ := hrel
      obtain ⟨j, hj⟩ : ∃ j, j = a + k := ⟨_, rfl⟩
      have ej : (a : Int) + (k : Int) = (j : Int) := by omega
      obtain ⟨hp, hn, hsc⟩ := HS.out
      rw [← hj] at hsc hk
      have HJ := hide hj
      clear HS hj
      by_cases hlt : j < T.size
      · have hz : ¬ (T.size : Int) ≤ (j : Int) := by omega
        have hz2 : (j : Int) < (T.size : Int) := by omega
        obtain ⟨b, hb⟩ : ∃ b, T[j].toNat = b := ⟨_, rfl⟩
        have hb8 : b < 256 := by rw [← hb]; exact T[j].toNat_lt
        rw [drop_at T j hlt, scan, hb] at hsc
        by_cases hi : k = 9 ∧ 1 < b
        · obtain ⟨rfl, hi⟩ := hi
          have ej9 : (a : Int) + 9 = (j : Int) := ej
          clear ej
          rw [if_pos ⟨rfl, hi⟩] at hsc
          have HT := hide (rnb_err hsc.symm (by decide))
          have hi' : (1 : Int) < (b : Int) := by omega
          clear hsc hn hp
          go_wp2
          go_region
          go_wp2
          refine bodyPost_ret (v := .tuple #[rv T a 61, .int .u64 0, .int .i64 61]) (by simp [results, Try.results59, go_sem]) rfl ?_
          rw [HT.out]
          exact ⟨rfl, below_drew (below_two w _ _)⟩
        · obtain ⟨x, m, ex, em, hm, hx, hmlt⟩ := mul7 n b k p hp hn h9 (by omega)
          rw [if_neg hi] at hsc
          by_cases hl : b < 128
          · rw [if_pos hl, ← show b % 128 = b from Nat.mod_eq_of_lt hl, ← hm, show b % 128 = b from Nat.mod_eq_of_lt hl] at hsc
            have hl' : (b : Int) < 128 := by omega
            by_cases h0 : b = 0 ∧ 0 < k
            · rw [if_pos h0] at hsc
              have HT := hide (rnb_err hsc.symm (by decide))
              obtain ⟨rfl, h0⟩ := h0
              have h0' : (0 : Int) < (k : Int) := by omega
              clear hsc hn hm hp ex em hx hmlt
              by_cases hk9 : k = 9
              · subst hk9
                have ej9 : (a : Int) + 9 = (j : Int) := ej
                clear ej
                go_wp2
                go_region
                go_wp2
                refine bodyPost_ret (v := .tuple #[rv T a 61, .int .u64 0, .int .i64 61]) (by simp [results, Try.results59, go_sem]) rfl ?_
                rw [HT.out]
                exact ⟨rfl, below_drew (below_two w _ _)⟩
              · have hq : ¬ (k : Int) = 9 := by omega
                go_wp2
                go_region
                go_wp2
                refine bodyPost_ret (v := .tuple #[rv T a 61, .int .u64 0, .int .i64 61]) (by simp [results, Try.results59, go_sem]) rfl ?_
                rw [HT.out]
                exact ⟨rfl, below_drew (below_two w _ _)⟩
            · rw [if_neg h0] at hsc
              have HT : Hid (rnb T a 0 = (j + 1, 0, m)) := by show _ = _; rw [rnb_of hsc.symm, HJ.out]; rfl
              clear hsc hn hm hp
              by_cases hk9 : k = 9
              · subst hk9
                have ej9 : (a : Int) + 9 = (j : Int) := ej
                clear ej
                have hb1 : ¬ (1 : Int) < (b : Int) := by omega
                have hb0 : ¬ (b : Int) = 0 := by omega
                go_wp2
                refine bodyPost_ret (v := .tuple #[rv T (j + 1) 0, .int .u64 (m : Int), .int .i64 0]) (by simp [results, Try.results59, go_sem]) rfl ?_
                rw [HT.out]
                exact ⟨rfl, below_two w _ _⟩
              · have hq : ¬ (k : Int) = 9 := by omega
                by_cases hk0 : k = 0
                · subst hk0
                  obtain rfl : j = a := by have := HJ.out; omega
                  clear ej
                  go_wp2
                  refine bodyPost_ret (v := .tuple #[rv T (j + 1) 0, .int .u64 (m : Int), .int .i64 0]) (by simp [results, Try.results59, go_sem]) rfl ?_
                  rw [HT.out]
                  exact ⟨rfl, below_two w _ _⟩
                · have hk0' : (0 : Int) < (k : Int) := by omega
                  have hb0 : ¬ (b : Int) = 0 := by omega
                  go_wp2
                  refine bodyPost_ret (v := .tuple #[rv T (j + 1) 0, .int .u64 (m : Int), .int .i64 0]) (by simp [results, Try.results59, go_sem]) rfl ?_
                  rw [HT.out]
                  exact ⟨rfl, below_two w _ _⟩
          · have hq : ¬ (k : Int) = 9 := by omega
            have hl' : ¬ (b : Int) < 128 := by omega
            have hb0 : ¬ (b : Int) = 0 := by omega
            obtain ⟨ep, hpp⟩ := pow7 k (by omega) p hp
            have HS : Hid (p * 128 = 128 ^ (k + 1) ∧ m < 128 ^ (k + 1) ∧ scan (T.data.toList.drop (a + (k + 1))) (k + 1) m = scan (T.data.toList.drop a) 0 0) := by
              rw [if_neg hl, ← hm] at hsc
              refine ⟨hpp, ?_, by have := HJ.out; rw [show a + (k + 1) = j + 1 by omega]; exact hsc⟩
              rw [hm, Nat.pow_succ]
              have : b % 128 * 128 ^ k ≤ 127 * 128 ^ k := Nat.mul_le_mul_right _ (by omega)
              omega
            clear hsc hn hm hp hpp
            by_cases hk0 : k = 0
            · subst hk0
              obtain rfl : j = a := by have := HJ.out; omega
              clear ej
              go_wp2
              go_roundg (10 - (0 + 1))
              case rel =>
                go_light
                exact ⟨rfl, 0 + 1, m, p * 128, by have := HJ.out; omega, by omega, rfl, rfl, rfl, by go_num, HS.out⟩
              case measure => go_light; omega
            · have hk0' : (0 : Int) < (k : Int) := by omega
              go_wp2
              go_roundg (10 - (k + 1))
              case rel =>
                go_light
                exact ⟨rfl, k + 1, m, p * 128, by have := HJ.out; omega, by omega, rfl, rfl, rfl, by go_num, HS.out⟩
              case measure => go_light; omega
      · obtain rfl : j = T.size := by omega
        rw [List.drop_eq_nil_of_le (by simp), scan] at hsc
        have HT := hide (rnb_err hsc.symm (by decide))
        clear hsc hn hp
        go_wp2
        go_region
        go_wp2
        refine bodyPost_ret (v := .tuple #[rv T a 60, .int .u64 0, .int .i64 60]) (by simp [results, Try.results59, go_sem]) rfl ?_
        rw [HT.out]
        exact ⟨rfl, below_drew (below_two w _ _)⟩
  · have ht : rnb T a e = (a, e, 0) := by rw [rnb, if_pos he]
    rw [ht]
    have hz : ¬ (e : Int) = 0 := by omega
    go_enter Try.func59, Try.ntmps59
    go_wp2
    go_region
    go_wp2
    refine bodyPost_ret (v := .tuple #[rv T a e, .int .u64 0, .int .i64 e]) (by simp [results, Try.results59, go_sem]) rfl ⟨rfl, ?_⟩
    exact below_drew (below_two w _ _)
end Go.Proofs.Ytelglfmppmdmoaa
