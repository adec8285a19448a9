/-
  The walk of CoverTiles. Own work.
-/
import Derived.Test.YtghmodbgfbgclaaCWalkH
namespace Go.Proofs.Ytghmodbgfbgclaa
open Go.RowKit
attribute [local go_sem ↓] Go.wp_at_zero Go.wp_at_succ
theorem mountains_ok (n : Nat) (w : World) (hn : n ≤ 2 ^ 40) :
    Calls Try.prog 12 #[.int .u64 (n : Int)] w fun x w' => ∃ v, x = .returned (.tuple #[v, .int .i64 0]) ∧ OwnB w' w.heap.size v (zl (cov 0 n)) ∧ Below w.heap.size w w' := by
  have e : errR 0 n n = 0 := by rw [errR, if_neg (by omega), if_neg (by omega), if_neg (by omega)]
  have := mountains_any n w
  rw [covR, if_pos e, e] at this
  exact this
set_option maxHeartbeats 4000000 in
set_option maxRecDepth 100000 in
theorem tiles_walk (a b c : Nat) (w : World) :
    Calls Try.prog 4 #[.int .u64 (a : Int), .int .u64 (b : Int), .int .u64 (c : Int)] w fun e w' => e = .returned (.bool true) ∧ Below w.heap.size w w' := by
  have HA := fun w' => alive_any w'
  obtain ⟨n, hn⟩ : ∃ n, a % (1099511627776 + 1) = n := ⟨_, rfl⟩
  obtain ⟨hi, hhi⟩ : ∃ hi, b % (n + 1) = hi := ⟨_, rfl⟩
  obtain ⟨lo, hlo⟩ : ∃ lo, c % (hi + 1) = lo := ⟨_, rfl⟩
  have n40 : n ≤ 2 ^ 40 := by omega
  have hin : hi ≤ n := by have := Nat.mod_lt b (show 0 < n + 1 by omega); omega
  have lohi : lo ≤ hi := by have := Nat.mod_lt c (show 0 < hi + 1 by omega); omega
  have W1 : ∀ w', Calls Try.prog 9 #[.int .u64 (a : Int), .int .u64 1099511627776] w' fun x w'' => x = .returned (.int .u64 (n : Int)) ∧ w' = w'' := fun w' => by
    have := within_any a 1099511627776 w' (by decide); rw [hn] at this; exact this
  have W2 := fun w' => within_any b n w' n40
  have W3 := fun w' => within_any c hi w' (by omega)
  rw [hhi] at W2
  rw [hlo] at W3
  have R1 := fun w' => range_ok lo hi n w' n40 hin lohi
  have R2 : ∀ w', Calls Try.prog 13 #[.int .u64 0, .int .u64 (n : Int), .int .u64 (n : Int)] w' fun x w'' => ∃ v, x = .returned (.tuple #[v, .int .i64 0]) ∧ OwnB w'' w'.heap.size v (zl (cov 0 n)) ∧ Below w'.heap.size w' w'' := fun w' => range_ok 0 n n w' n40 (Nat.le_refl _) (Nat.zero_le _)
  have R3 := fun w' => range_ok hi n n w' n40 (Nat.le_refl _) hin
  have M1 := fun w' => mountains_ok n w' n40
  have M2 := fun w' => mountains_ok hi w' (by omega)
  have HN := num_any
  have HH : Hid (n ≤ 2 ^ 40 ∧ hi ≤ n ∧ lo ≤ hi) := ⟨n40, hin, lohi⟩
  clear hn hhi hlo n40 hin lohi
  go_enter Try.func4, Try.ntmps4
  go_upto_region 9 with (first
    | (go_at_call 8; with_reducible refine (HA _).mono ?_; rintro e w1 ⟨rfl, hb1⟩)
    | (go_at_call 9; with_reducible refine (W1 _).mono ?_; rintro e w2 ⟨rfl, rfl⟩)
    | (go_at_call 9; with_reducible refine (W2 _).mono ?_; rintro e w2 ⟨rfl, rfl⟩)
    | (go_at_call 9; with_reducible refine (W3 _).mono ?_; rintro e w2 ⟨rfl, rfl⟩)
    | (go_at_call 13; with_reducible refine (R1 _).mono ?_; rintro e w2 ⟨v2, rfl, o2, hb2⟩)
    | (go_at_call 12; with_reducible refine (M1 _).mono ?_; rintro e w3 ⟨v3, rfl, o3, hb3⟩)
    | (go_at_call 13; with_reducible refine (R2 _).mono ?_; rintro e w4 ⟨v4, rfl, o4, hb4⟩))
  have b14 := bnext hb3 hb4
  have q2 := ownB_next o2 b14
  have q3 := ownB_next o3 hb4
  have HB : Hid (Below w.heap.size w w4) := bnext (bnext hb1 hb2) b14
  obtain ⟨n40, hin, lohi⟩ := HH.out
  have T1 := fun W (hW : Below w4.heap.size w4 W) => tiles_any W v2 _ (cov lo hi) lo hi (ownB_next q2 hW) (cov_row lo hi lohi (by omega)) (by omega)
  have T2 : ∀ W, Below w4.heap.size w4 W → Calls Try.prog 17 #[v3, .int .u64 0, .int .u64 (n : Int)] W fun e w' => e = .returned (.bool true) ∧ Below W.heap.size W w' := fun W hW => tiles_any W v3 _ (cov 0 n) 0 n (ownB_next q3 hW) (cov_row 0 n (Nat.zero_le _) n40) (Nat.zero_le _)
  have S1 := fun W (hW : Below w4.heap.size w4 W) => same_own W v4 v3 _ _ _ _ (ownB_next o4 hW) (ownB_next q3 hW)
  rw [decide_eq_true rfl] at S1
  have HO := fun w' => (ones_any n w' (by omega)).mono fun e w'' h => (⟨h.1, h.2.symm⟩ : _ ∧ w' = w'')
  rw [← cov_ones n n40] at HO
  have l80 := cov_len lo hi lohi (by omega)
  have l40 := cov_forty n n40
  obtain ⟨ao2, g2, m2, cap2, rfl, r2, _⟩ := own_rdB q2
  obtain ⟨ao3, g3, m3, cap3, rfl, r3, _⟩ := own_rdB q3
  have e2 := r2.len
  have e3 := r3.len
  rw [zl_len] at e2 e3
  rw [e3] at HO l40
  rw [e2] at l80
  have d80 : decide ((80 : Int) < (m2 : Int)) = false := decide_eq_false (by omega)
  have d40 : decide ((40 : Int) < (m3 : Int)) = false := decide_eq_false (by omega)
  have HL : Hid (RdB w4 ao2 g2 m2 (zl (cov lo hi)) ∧ (cov lo hi).length = m2 ∧ m2 ≤ 80) := ⟨r2, e2, l80⟩
  have b0 := Below.refl w4.heap.size w4
  clear HA W1 W2 W3 R1 R2 M1 hb1 hb2 hb3 hb4 b14 o2 o3 o4 q2 q3 r2 r3 e2 e3 l80 l40 n40 hin lohi
  go_wp2_with (first
    | (go_at_call 16; with_reducible refine (HN _ _).mono ?_; rintro e w9 ⟨rfl, rfl⟩)
    | (go_at_call 17; with_reducible refine (T1 _ b0).mono ?_; rintro e w5 ⟨rfl, hb5⟩)
    | (go_at_call 17; with_reducible refine (T2 _ hb5).mono ?_; rintro e w6 ⟨rfl, hb6⟩)
    | (go_at_call 15; with_reducible refine (S1 _ (bnext hb5 hb6)).mono ?_; rintro e w7 ⟨rfl, hb7⟩)
    | (go_at_call 18; with_reducible refine (HO _).mono ?_; rintro e w8 ⟨rfl, rfl⟩))
  have HW : Hid (Below w4.heap.size w4 w7) := bnext (bnext hb5 hb6) hb7
  clear T1 T2 S1 HO hb5 hb6 hb7 b0 d80 d40
  go_loopg [16, 17, 18, 19] m2 (fun gg i x y ok wr => ∃ k : Nat, k ≤ m2 ∧ gg = m2 - k ∧ i = .int .i64 (k : Int) ∧ Below w4.heap.size w4 wr)
  case atStart =>
    go_light
    exact ⟨0, Nat.zero_le _, rfl, rfl, HW.out⟩
  case round =>
    obtain ⟨k, hk, rfl, rfl, hb⟩ := hrel
    have hk0 : (0 : Int) ≤ (k : Int) := Int.natCast_nonneg _
    obtain ⟨s1, s2, s3⟩ := HL.out
    obtain ⟨n40, hin, lohi⟩ := HH.out
    have hk80 : (k : Int) ≤ 80 := by omega
    by_cases hlt : k < m2
    · have hlt' : (k : Int) < (m2 : Int) := by omega
      have r' := s1.below hb
      obtain rfl := r'.addr (by omega)
      have hc := r'.cell k hlt
      rw [zl_getD] at hc
      have hmem : (cov lo hi).getD k (0, 0) ∈ cov lo hi := by rw [List.getD_eq_getElem?_getD, List.getElem?_eq_getElem (by omega)]; exact List.getElem_mem _
      have ht := til_mem (cov_til lo hi lohi (by omega)) _ hmem
      obtain ⟨⟨h, q⟩, hx⟩ : ∃ x, (cov lo hi).getD k (0, 0) = x := ⟨_, rfl⟩
      rw [hx] at hc ht
      obtain ⟨c1, c2⟩ := hc
      dsimp only at c1 c2 ht
      obtain ⟨ht1, ht2⟩ := ht
      have hmay := blk_may (Nat.le_trans ht2 (by omega))
      have hq40 := may_big hmay.2
      have HX : Hid (Below w4.heap.size w4 wr ∧ k + 1 ≤ m2) := ⟨hb, hlt⟩
      obtain ⟨h1, hh1⟩ : ∃ h1 : Nat, h + 1 = h1 := ⟨_, rfl⟩
      obtain ⟨q2, hq2⟩ : ∃ q2 : Nat, q / 2 = q2 := ⟨_, rfl⟩
      have eh : IntKind.i64.wrap ((h : Int) + 1) = (h1 : Int) := by rw [IntKind.wrap_i64]; omega
      have eq : IntKind.u64.wrap ((q : Int) / 2) = (q2 : Int) := by rw [IntKind.wrap_u64]; omega
      obtain ⟨x, y, ok, HS, hok⟩ : ∃ (x y : Nat) (ok : Bool), (∀ w', Calls Try.prog 19 #[.agg #[.int .i64 (h1 : Int), .int .u64 (q2 : Int)]] w' fun e w'' => e = .returned (.tuple #[.int .u64 (x : Int), .int .u64 (y : Int), .bool ok]) ∧ Below w'.heap.size w' w'') ∧ (ok = false ∨ ok = true ∧ ¬ lo ≤ x ∨ ok = true ∧ lo ≤ x ∧ ¬ y ≤ hi) := by
        by_cases h40 : h = 40
        · obtain rfl : h1 = 41 := by omega
          exact ⟨0, 0, false, fun w' => span_no q2 w', .inl rfl⟩
        · have hq3 : q2 < pw (40 - h1) := by
            have := hmay.2
            rw [show 40 - h = (40 - h1) + 1 by omega, pw_succ] at this; omega
          refine ⟨_, _, true, fun w' => span_yes h1 q2 w' (by omega) hq3, .inr ?_⟩
          rw [hh1, hq2] at ht1
          by_cases hx1 : lo ≤ q2 * pw h1
          · refine .inr ⟨rfl, hx1, fun hy => ht1 (fun i i1 i2 => ⟨by omega, by omega⟩)⟩
          · exact .inl ⟨rfl, hx1⟩
      clear hx ht1 ht2 hmay hq40 hmem s1 s2 s3 n40 hin lohi hb r' hk hh1 hq2
      rcases hok with rfl | ⟨rfl, hx1⟩ | ⟨rfl, hx1, hy1⟩
      all_goals
        go_wp2
        go_region_with (go_at_call 19; with_reducible refine (HS _).mono ?_; rintro e w8 ⟨rfl, hb8⟩)
        all_goals
          go_wp2
          go_roundg (m2 - (k + 1))
          case rel =>
            go_light
            exact ⟨k + 1, HX.out.2, rfl, by go_num, bnext HX.out.1 ⟨hb8.os, hb8.tape, hb8.output, hb8.size, hb8.block⟩⟩
          case measure => go_light; have := HX.out.2; omega
    · obtain rfl : k = m2 := by omega
      have hlt' : ¬ (k : Int) < (k : Int) := by omega
      have HB2 : Hid (Below w.heap.size w wr) := bnext HB.out hb
      have T3 : ∀ (W : World) (v : Value) (B : Nat), OwnB W B v (zl (cov 0 hi) ++ zl (cov hi n)) → Calls Try.prog 17 #[v, .int .u64 0, .int .u64 (n : Int)] W fun e w' => e = .returned (.bool true) ∧ Below W.heap.size W w' := fun W v B ho =>
        tiles_any W v B (cov 0 hi ++ cov hi n) 0 n (by rw [zl_app]; exact ho) (row_app (cov_row hi n hin n40) (cov_row 0 hi (Nat.zero_le _) (by omega))) (Nat.zero_le _)
      have HZ : Hid ((zl (cov 0 hi)).length ≤ 80 ∧ (zl (cov hi n)).length ≤ 80) := ⟨by rw [zl_len]; exact cov_len _ _ (Nat.zero_le _) (by omega), by rw [zl_len]; exact cov_len _ _ hin n40⟩
      clear s1 s2 s3 n40 hin lohi hb hlt hk hk80 HL HW HB HH
      go_upto_region 19 with (first
        | (go_at_call 13; with_reducible refine (R3 _).mono ?_; rintro e w5 ⟨v5, rfl, o5, hb5⟩)
        | (go_at_call 12; with_reducible refine (M2 _).mono ?_; rintro e w6 ⟨v6, rfl, o6, hb6⟩))
      have q5 := ownB_next o5 hb6
      have HB3 : Hid (Below w.heap.size w w6) := bnext (bnext HB2.out hb5) hb6
      clear o5 hb5 hb6 HB2 R3 M2
      go_wp2_with (first
        | (go_at_call 16; with_reducible refine (HN _ _).mono ?_; rintro e w9 ⟨rfl, rfl⟩)
        | (at_builtin; refine wpList_free rfl ?_; refine wpList_append_B _ rfl _ _ rfl w6.heap.size (.slice none 0 0) [] rfl (World.ownsRow_nil _ _ _ _) v6 (zl (cov 0 hi)) rfl (rdc_own o6) ?c1 ?c2 ?_))
      case c1 => have := HZ.out; simp; omega
      case c2 => exact Nat.le_refl _
      intro v7 w7 r1 r2 r3
      have hb7 : Below w6.heap.size w6 w7 := (Below.refl _ _).grown r2 (Nat.le_refl _) (fun j hj => by cases hj)
      have q7 := ownB_next q5 hb7
      have hs7 := hb7.size
      clear r2 r3 q5 o6
      go_wp2_with (at_builtin; refine wpList_free rfl ?_; refine wpList_append_B _ rfl _ _ rfl w6.heap.size v7 (zl (cov 0 hi)) rfl r1 v5 (zl (cov hi n)) rfl (rdc_own q7) ?c1 ?c2 ?_)
      case c1 => have := HZ.out; omega
      case c2 => exact hs7
      intro v8 w8 g1 g2 g3
      have hb8 := (ownB_step0 hb7 hs7 r1 g2).1
      have T4 := T3 w8 v8 _ g1
      clear g1 g2 g3 q7 r1 hb7 hs7 T3
      go_wp2_with (go_at_call 17; with_reducible refine T4.mono ?_; rintro e w9 ⟨rfl, hb9⟩)
      go_ret
      exact ⟨rfl, bnext (bnext HB3.out hb8) hb9⟩
theorem tiles_lawrow (a b c : Int) (w0 : (Lit.int .u64 a).wf = true) (w1 : (Lit.int .u64 b).wf = true) (w2 : (Lit.int .u64 c).wf = true) (w : World) :
    Calls Try.prog 4 #[.int .u64 a, .int .u64 b, .int .u64 c] w fun e w' => e = .returned (.bool true) ∧ Below w.heap.size w w' := by
  obtain ⟨p, rfl, _⟩ := u64_nat w0
  obtain ⟨q, rfl, _⟩ := u64_nat w1
  obtain ⟨r, rfl, _⟩ := u64_nat w2
  exact tiles_walk p q r w
end Go.Proofs.Ytghmodbgfbgclaa
