/-
  ForestPlain: the walk. Own work.
-/
import Derived.Test.YtabdobdopcfllaaDoorFLaw
namespace Go.Proofs.YtabdobdopcfllaaDoor
open Go.RowKit
attribute [local go_sem ↓] Go.wp_at_zero Go.wp_at_succ
set_option maxRecDepth 100000 in
set_option maxHeartbeats 4000000 in
theorem plain_walk (w : World) (ht : Tb w) (k : Int) (ao : Option Addr) (b off len cap : Nat) (ss : List ByteArray) (hr : RdS w ao b off len ss) (hc : len ≤ cap) (cut : Int) :
    Calls Tryd.prog 6 #[.int .i64 k, .slice ao len cap, .int .i64 cut] w fun e w' => e = .returned (.bool true) ∧ Below w.heap.size w w' := by
  obtain ⟨K, hK⟩ : ∃ K, stg k = K := ⟨_, rfl⟩
  obtain ⟨k1, k2⟩ := stg_in k
  rw [hK] at k1 k2
  obtain ⟨n0, hn0⟩ : ∃ n, min len 70 = n := ⟨_, rfl⟩
  obtain ⟨T, hT⟩ : ∃ T, tk (ss.take n0) = T := ⟨_, rfl⟩
  have hTl : T.length ≤ 70 := by rw [← hT]; have h1 := tk_len (ss.take n0); rw [List.length_take] at h1; omega
  have hTs : ∀ s ∈ T, s.size ≤ 1048576 := by rw [← hT]; exact tk_size _
  have HAl : Hid (Calls Tryd.prog 8 #[] w fun e w' => e = .returned (.bool true) ∧ Below w.heap.size w w') := alive_any w ht
  have HSt : Hid (∀ W, Calls Tryd.prog 9 #[.int .i64 k] W fun e w' => e = .returned (.int .i64 K) ∧ W = w') := fun W => strength_any W k K hK
  have HFw : Hid (∀ W, Calls Tryd.prog 15 #[.slice ao len cap] W fun e w' => e = .returned (.slice ao n0 cap) ∧ W = w') := fun W => few_any W ao len cap hc n0 hn0
  have HG1 : Hid (∀ W, Below w.heap.size w W → Calls Tryd.prog 22 #[.int .i64 K, .slice ao n0 cap] W fun e w' => ∃ ao' b' c', e = .returned (.tuple #[.pointer (some ⟨W.heap.size + 1, 0, none⟩), .slice ao' T.length c', .bool true]) ∧ RdS w' ao' b' 0 T.length T ∧ T.length ≤ c' ∧ Frs w' W.heap.size K T ∧ Below W.heap.size W w') := fun W hb =>
    (grown_any W (ht.next hb) K k1 k2 ao b off n0 cap (ss.take n0) ((hr.next hb (Nat.le_refl _)).take (by omega)) (by omega) T hT).mono fun e w' ⟨v, e1, e2, e3, e4⟩ => by
      obtain ⟨ao', b', c', rfl, hr', hc', _⟩ := owns_rds e2 (fun s hs => Nat.le_trans (hTs s hs) (by decide))
      exact ⟨ao', b', c', e1, hr', hc', e3, e4⟩
  obtain ⟨mz, hmz⟩ : ∃ mz, IntKind.u64.wrap cut % ((T.length : Int) + 1) = mz := ⟨_, rfl⟩
  have hz0 : 0 ≤ mz := by rw [← hmz]; exact Int.emod_nonneg _ (by omega)
  have hz1 : mz < (T.length : Int) + 1 := by rw [← hmz]; exact Int.emod_lt_of_pos _ (by omega)
  obtain ⟨m, rfl⟩ : ∃ m : Nat, mz = (m : Int) := ⟨mz.toNat, by omega⟩
  have hm : m ≤ T.length := by omega
  have hn : 0 ≤ IntKind.u64.wrap cut := by rw [IntKind.wrap_u64]; omega
  have e1 : Int.tmod (IntKind.u64.wrap cut) ((T.length : Int) + 1) = (m : Int) := by rw [Int.tmod_eq_emod_of_nonneg hn]; exact hmz
  have e2 : IntKind.u64.wrap (m : Int) = (m : Int) := u64_id _ (by omega) (by omega)
  have e3 : IntKind.i64.wrap (m : Int) = (m : Int) := by rw [IntKind.wrap_i64]; omega
  have e4 : IntKind.u64.wrap ((T.length : Int) + 1) = (T.length : Int) + 1 := u64_id _ (by omega) (by omega)
  have htm : tk (T.take m) = T.take m := tk_self fun s hs => hTs s (List.mem_of_mem_take hs)
  have HG2 : Hid (∀ W ao' b' c', Below w.heap.size w W → RdS W ao' b' 0 T.length T → Calls Tryd.prog 22 #[.int .i64 K, .slice ao' m c'] W fun e w' => ∃ v, e = .returned (.tuple #[.pointer (some ⟨W.heap.size + 1, 0, none⟩), v, .bool true]) ∧ Frs w' W.heap.size K (T.take m) ∧ Below W.heap.size W w') := fun W ao' b' c' hb hr' =>
    (grown_any W (ht.next hb) K k1 k2 ao' b' 0 m c' (T.take m) (hr'.take hm) (by omega) (T.take m) htm).mono fun e w' ⟨v, x1, _, x3, x4⟩ => ⟨v, x1, x3, x4⟩
  have HT := hide ht
  have HQ := hide (And.intro hTl hTs)
  have HKK := hide (And.intro k1 k2)
  have hl70 : (T.length : Int) ≤ 70 := by omega
  have hmT : (m : Int) ≤ (T.length : Int) := by omega
  clear ht hr hc hK k1 k2 hn0 hT hTs hmz hz0 hz1 hn htm
  go_enter Tryd.func6, Tryd.ntmps6
  go_upto_region 7 with (first
    | (go_at_call 8; with_reducible refine HAl.out.mono ?_; rintro e w1 ⟨rfl, hb1⟩)
    | (go_at_call 9; with_reducible refine (HSt.out _).mono ?_; rintro e w' ⟨rfl, rfl⟩)
    | (go_at_call 15; with_reducible refine (HFw.out _).mono ?_; rintro e w' ⟨rfl, rfl⟩)
    | (go_at_call 22; with_reducible refine (HG1.out _ hb1).mono ?_; rintro e w2 ⟨ao', b', c', rfl, hr2, hc2, hF2, hb2⟩))
  have hcz : (m : Int) ≤ (c' : Int) := by omega
  go_upto_region 11 with (go_at_call 22; with_reducible refine (HG2.out _ _ _ _ (bnext hb1 hb2) hr2).mono ?_; rintro e w3 ⟨v3, rfl, hF3, hb3⟩)
  have HK : Hid (∀ W, Below w3.heap.size w3 W → Frs W w1.heap.size K T ∧ Frs W w2.heap.size K (T.take m) ∧ RdS W ao' b' 0 T.length T ∧ Below w.heap.size w W ∧ Tb W) := fun W h => by
    have hB := bnext (bnext (bnext hb1 hb2) hb3) h
    exact ⟨(hF2.next hb3 (Nat.le_refl _)).next h (Nat.le_refl _), hF3.next h (Nat.le_refl _), (hr2.next hb3 (Nat.le_refl _)).next h (Nat.le_refl _), hB, HT.out.next hB⟩
  have HC := hide hc2
  clear hr2 hc2 hF2 hF3 hb1 hb2 hb3 HAl HSt HFw HG1 HG2
  generalize w1.heap.size = m1 at *
  generalize w2.heap.size = m2 at *
  go_wp2
  go_loopg [14] (T.length + 1) (fun g i wr => ∃ j : Nat, j ≤ T.length + 1 ∧ g = T.length + 1 - j ∧ i = .int .i64 (j : Int) ∧ Below w3.heap.size w3 wr)
  case atStart =>
    go_light
    exact ⟨0, Nat.zero_le _, rfl, rfl, Below.refl _ _⟩
  case round =>
    obtain ⟨j, hj, rfl, rfl, hb⟩ := hrel
    by_cases hlt : j ≤ T.length
    · have hz : (j : Int) ≤ (T.length : Int) := by omega
      have hz0 : (0 : Int) ≤ (j : Int) := Int.natCast_nonneg _
      obtain ⟨r, hr⟩ : ∃ r, Hid (rtD (clk K) T j = r) := ⟨_, rfl⟩
      have H1 : Hid (∀ W, Below w3.heap.size w3 W → Calls Tryd.prog 16 #[.pointer (some ⟨m1 + 1, 0, none⟩), .int .u64 (j : Int)] W fun e w' => e = .returned (.tuple #[.agg #[.int .u64 (j : Int), .string r], .int .i64 0]) ∧ Below W.heap.size W w') := fun W h => froot_ok W (HK.out W h).2.2.2.2 m1 K T (HK.out W h).1 j hlt r hr
      have H2 : Hid (∀ W, Below w3.heap.size w3 W → Calls Tryd.prog 26 #[.int .i64 K, .slice ao' T.length c', .int .u64 (j : Int)] W fun e w' => e = .returned (.tuple #[.agg #[.int .u64 (j : Int), .string r], .int .i64 0]) ∧ Below W.heap.size W w') := fun W h =>
        proot_ok W (HK.out W h).2.2.2.2 K HKK.out.1 HKK.out.2 ao' b' 0 T.length c' T (HK.out W h).2.2.1 (fun s hs => Nat.le_trans (HQ.out.2 s hs) (by decide)) (by omega) HC.out j hlt r hr
      have ew : IntKind.u64.wrap (j : Int) = (j : Int) := u64_id _ (by omega) (by omega)
      by_cases hjm : j ≤ m
      · have hz3 : (j : Int) ≤ (m : Int) := by omega
        have H3 : Hid (∀ W, Below w3.heap.size w3 W → Calls Tryd.prog 16 #[.pointer (some ⟨m2 + 1, 0, none⟩), .int .u64 (j : Int)] W fun e w' => e = .returned (.tuple #[.agg #[.int .u64 (j : Int), .string r], .int .i64 0]) ∧ Below W.heap.size W w') := fun W h => froot_ok W (HK.out W h).2.2.2.2 m2 K (T.take m) (HK.out W h).2.1 j (by rw [List.length_take]; omega) r (by show _ = _; rw [← hr.out, rtD, rtD, List.take_take, Nat.min_eq_left hjm])
        clear hlt hr hjm
        go_wp2_with (first
          | (go_at_call 16; with_reducible refine (H1.out _ hb).mono ?_; rintro e w4 ⟨rfl, hb4⟩; have R4 := rt_new w4 j r 41; have b4 := bal (bnext hb hb4) (.cells #[.int .u64 (j : Int), .string r] 41); have z4 : w4.heap.size < (w4.alloc (.cells #[.int .u64 (j : Int), .string r] 41)).heap.size := by simp)
          | (go_at_call 26; with_reducible refine (H2.out _ b4).mono ?_; rintro e w5 ⟨rfl, hb5⟩; have R5 := (R4.below hb5 z4).below (bal (Below.refl _ _) (.cells #[.int .u64 (j : Int), .string r] 41)) (Nat.lt_of_lt_of_le z4 hb5.size); have b5 := bal (bnext b4 hb5) (.cells #[.int .u64 (j : Int), .string r] 41); have S5 := rt_new w5 j r 41; have q0 := R5.c0; have q1 := R5.c1; have q2 := S5.c0; have q3 := S5.c1; have z5 : w4.heap.size < (w5.alloc (.cells #[.int .u64 (j : Int), .string r] 41)).heap.size := World.block_lt_of_cell? _ _ q0)
          | (go_at_call 11; with_reducible refine (num_id 0 _).mono ?_; rintro e wn ⟨rfl, rfl⟩)
          | (go_at_call 16; with_reducible refine (H3.out _ b5).mono ?_; rintro e w6 ⟨rfl, hb6⟩; have R6 := (R5.below hb6 z5).below (bal (Below.refl _ _) (.cells #[.int .u64 (j : Int), .string r] 41)) (Nat.lt_of_lt_of_le z5 hb6.size); have b6 := bal (bnext b5 hb6) (.cells #[.int .u64 (j : Int), .string r] 41); have S6 := rt_new w6 j r 41; have p0 := R6.c0; have p1 := R6.c1; have p2 := S6.c0; have p3 := S6.c1))
        go_roundg (T.length + 1 - (j + 1))
        case rel =>
          go_light
          exact ⟨j + 1, by omega, rfl, by go_num, b6⟩
        case measure => go_light; omega
      · have hz3 : ¬ ((j : Int) ≤ (m : Int)) := by omega
        clear hlt hr hjm
        go_wp2_with (first
          | (go_at_call 16; with_reducible refine (H1.out _ hb).mono ?_; rintro e w4 ⟨rfl, hb4⟩; have R4 := rt_new w4 j r 41; have b4 := bal (bnext hb hb4) (.cells #[.int .u64 (j : Int), .string r] 41); have z4 : w4.heap.size < (w4.alloc (.cells #[.int .u64 (j : Int), .string r] 41)).heap.size := by simp)
          | (go_at_call 26; with_reducible refine (H2.out _ b4).mono ?_; rintro e w5 ⟨rfl, hb5⟩; have R5 := (R4.below hb5 z4).below (bal (Below.refl _ _) (.cells #[.int .u64 (j : Int), .string r] 41)) (Nat.lt_of_lt_of_le z4 hb5.size); have b5 := bal (bnext b4 hb5) (.cells #[.int .u64 (j : Int), .string r] 41); have S5 := rt_new w5 j r 41; have q0 := R5.c0; have q1 := R5.c1; have q2 := S5.c0; have q3 := S5.c1; have z5 : w4.heap.size < (w5.alloc (.cells #[.int .u64 (j : Int), .string r] 41)).heap.size := World.block_lt_of_cell? _ _ q0)
          | (go_at_call 11; with_reducible refine (num_id 0 _).mono ?_; rintro e wn ⟨rfl, rfl⟩))
        go_roundg (T.length + 1 - (j + 1))
        case rel =>
          go_light
          exact ⟨j + 1, by omega, rfl, by go_num, b5⟩
        case measure => go_light; omega
    · obtain rfl : j = T.length + 1 := by omega
      have hz : ¬ (((T.length + 1 : Nat) : Int) ≤ (T.length : Int)) := by omega
      have HB0 := hide hb
      clear hlt hb hj
      go_wp2
      go_loopg [21] 8 (fun g i wr => ∃ h : Nat, h ≤ 8 ∧ g = 8 - h ∧ i = .int .i64 (h : Int) ∧ Below w3.heap.size w3 wr)
      case atStart =>
        go_light
        exact ⟨0, Nat.zero_le _, rfl, rfl, HB0.out⟩
      case round =>
        clear HB0
        obtain ⟨h, hh, rfl, rfl, hb⟩ := hrel
        by_cases hlt : h < 8
        · have hy : (h : Int) < 8 := by omega
          have hy0 : (0 : Int) ≤ (h : Int) := Int.natCast_nonneg _
          have hy1 : (h : Int) < 64 := by omega
          obtain ⟨N, hN⟩ : ∃ N, T.length / 2 ^ h = N := ⟨_, rfl⟩
          have eN : (T.length : Int) / 2 ^ h = (N : Int) := by rw [← hN]; simp
          have hNT : N ≤ T.length := by rw [← hN]; exact Nat.div_le_self _ _
          have ew : IntKind.u64.wrap (T.length : Int) = (T.length : Int) := u64_id _ (by omega) (by omega)
          have HB0 := hide hb
          clear hb
          go_wp2
          go_loopg [22] (N + 1) (fun g i wr => ∃ q : Nat, q ≤ N + 1 ∧ g = N + 1 - q ∧ i = .int .u64 (q : Int) ∧ Below w3.heap.size w3 wr)
          case atStart =>
            go_light
            exact ⟨0, Nat.zero_le _, rfl, rfl, HB0.out⟩
          case round =>
            clear HB0
            obtain ⟨q, hq, rfl, rfl, hb⟩ := hrel
            by_cases hlq : q ≤ N
            · have hx : (q : Int) ≤ (N : Int) := by omega
              have hx0 : (0 : Int) ≤ (q : Int) := Int.natCast_nonneg _
              obtain ⟨s, ok, HD, HTr⟩ : ∃ s ok, Hid (∀ W, Below w3.heap.size w3 W → Calls Tryd.prog 20 #[.pointer (some ⟨m1 + 1, 0, none⟩), .agg #[.int .i64 (h : Int), .int .u64 (q : Int)]] W fun e w' => e = .returned (.tuple #[.string s, .bool ok]) ∧ Below W.heap.size W w') ∧
                  Hid (∀ W, Below w3.heap.size w3 W → Calls Tryd.prog 27 #[.int .i64 K, .slice ao' T.length c', .agg #[.int .i64 (h : Int), .int .u64 (q : Int)]] W fun e w' => e = .returned (.tuple #[.string s, .bool ok]) ∧ Below W.heap.size W w') := by
                have hfit : Fitb (h : Int) q := ⟨⟨by omega, by omega⟩, by omega⟩
                by_cases hin : (q + 1) * 2 ^ h ≤ T.length
                · refine ⟨nd (clk K) T h q, true, fun W hW => ?_, fun W hW => ?_⟩
                  · exact fdigest_any W m1 K T (HK.out W hW).1 h q hfit _ true (by show _ ∧ _; rw [ff_nat _ _ _ _ hin]; exact ⟨rfl, rfl⟩)
                  · exact tree_yes W (HK.out W hW).2.2.2.2 K ao' b' 0 T.length c' T (HK.out W hW).2.2.1 (fun s hs => Nat.le_trans (HQ.out.2 s hs) (by decide)) (by omega) h q (by omega) hin _ rfl
                · refine ⟨⟨#[]⟩, false, fun W hW => ?_, fun W hW => ?_⟩
                  · exact fdigest_any W m1 K T (HK.out W hW).1 h q hfit _ false (by show _ ∧ _; rw [ff_no _ _ _ _ hin]; exact ⟨rfl, rfl⟩)
                  · exact tree_no W K ao' T.length c' (by omega) h q (.inr (.inr ⟨by omega, by omega, by rw [Int.toNat_natCast]; omega⟩))
              clear hlq
              go_wp2_with (first
                | (go_at_call 20; with_reducible refine (HD.out _ (bal hb _)).mono ?_; rintro e w4 ⟨rfl, hb4⟩; have c0 : w4.cell? ⟨wr.heap.size, 0, none⟩ = some (.int .i64 (h : Int)) := (hb4.cell (p := ⟨wr.heap.size, 0, none⟩) (by simp)).trans (by simp); have c1 : w4.cell? ⟨wr.heap.size, 1, none⟩ = some (.int .u64 (q : Int)) := (hb4.cell (p := ⟨wr.heap.size, 1, none⟩) (by simp)).trans (by simp))
                | (go_at_call 27; with_reducible refine (HTr.out _ (bnext (bal hb _) hb4)).mono ?_; rintro e w5 ⟨rfl, hb5⟩))
              go_roundg (N + 1 - (q + 1))
              case rel =>
                go_light
                exact ⟨q + 1, by omega, rfl, by go_num, bnext (bnext (bal hb _) hb4) hb5⟩
              case measure => go_light; omega
            · obtain rfl : q = N + 1 := by omega
              have hx : ¬ (((N + 1 : Nat) : Int) ≤ (N : Int)) := by omega
              clear hlq
              go_wp2
              go_roundg (8 - (h + 1))
              case rel =>
                go_light
                exact ⟨h + 1, by omega, rfl, by go_num, hb⟩
              case measure => go_light; omega
        · obtain rfl : h = 8 := by omega
          have HZ := (HK.out wr hb).2.2.2.1
          clear hlt
          go_wp2
          go_ret
          exact ⟨rfl, HZ⟩
end Go.Proofs.YtabdobdopcfllaaDoor
