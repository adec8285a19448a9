/-
  The walk of PlacePostorder. Own work.
-/
import Derived.Test.YtilflepomeoffaaWalkI
namespace Go.Proofs.Ytilflepomeoffaa
open Go.RowKit
attribute [local go_sem ↓] Go.wp_at_zero Go.wp_at_succ
/-- A variable's two cells, and all that lay before the call. -/
structure Vr (w w' : World) (g j m : Nat) : Prop where
  two : Two w' g j m
  below : Below w.heap.size w w'
theorem Vr.next {w w' w'' : World} {g j m : Nat} (s : Vr w w' g j m) (hb : Below w'.heap.size w' w'') : Vr w w'' g j m := ⟨s.two.next hb, bnext s.below hb⟩
/-- What is reckoned of a block's neighbours. -/
theorem left_at (i m : Nat) (hm : m < 2 ^ 63) : at' i (2 * m) + pw (i + 1) = at' (i + 1) m := by
  have h1 := at_fr i (2 * m)
  have h2 := at_fr (i + 1) m
  have h3 := fr_left i m hm
  have h4 := pw_succ i
  have h5 := pw_pos i
  omega
theorem right_at (i m : Nat) (hm : m < 2 ^ 63) : at' i (2 * m + 1) + 1 = at' (i + 1) m := by
  have h1 := at_fr i (2 * m + 1)
  have h2 := at_fr (i + 1) m
  have h3 := fr_right i m hm
  have h4 := pw_succ i
  have h5 := pw_pos i
  omega
theorem at_leaf (x : Nat) : at' 0 x = N x := by
  have h1 := at_eq 0 x
  have h2 := N_eq x
  rw [pw_zero] at h1; omega
theorem leaf_is (n : Nat) (w : World) (hn : n < 2 ^ 40) :
    Calls Try.prog 17 #[.int .u64 n] w fun e w' => e = .returned (.tuple #[.int .u64 (N n : Nat), .bool true]) ∧ w = w' := (leaf_yes n w hn).mono fun _ _ h => ⟨h.1, h.2.symm⟩
theorem nodes_is (n : Nat) (w : World) (hn : n ≤ 2 ^ 40) :
    Calls Try.prog 11 #[.int .u64 n] w fun e w' => e = .returned (.tuple #[.int .u64 (N n : Nat), .bool true]) ∧ w = w' := (nodes_yes n w hn).mono fun _ _ h => ⟨h.1, h.2.symm⟩
/-- Parent and Sibling of a block's place. -/
theorem parent_at (j m : Nat) (hj : j < 40) (hm : m < pw (40 - j)) (w : World) :
    Calls Try.prog 18 #[.int .u64 (at' j m : Nat)] w fun e w' => e = .returned (.tuple #[.int .u64 (at' (j + 1) (m / 2) : Nat), .bool true]) ∧ Below w.heap.size w w' := by
  obtain ⟨q1, q2⟩ := at_blk j m (by omega) hm
  exact parent_yes (at' j m) j m w q1 q2 (by omega)
theorem sibling_at (j m : Nat) (hj : j < 40) (hm : m < pw (40 - j)) (w : World) :
    Calls Try.prog 19 #[.int .u64 (at' j m : Nat)] w fun e w' => e = .returned (.tuple #[.int .u64 (at' j (sib m) : Nat), .bool true]) ∧ Below w.heap.size w w' := by
  obtain ⟨q1, q2⟩ := at_blk j m (by omega) hm
  exact sibling_yes (at' j m) j m w q1 q2 (by omega)
theorem up_any (j m : Nat) (hj : j ≤ 40) (hm : m < pw (40 - j)) :
    ∃ x y : Nat, (∀ w, Calls Try.prog 18 #[.int .u64 (at' j m : Nat)] w fun e w' => e = .returned (.tuple #[.int .u64 (x : Int), .bool (decide ((j : Int) < 40))]) ∧ Below w.heap.size w w') ∧
      ∀ w, Calls Try.prog 19 #[.int .u64 (at' j m : Nat)] w fun e w' => e = .returned (.tuple #[.int .u64 (y : Int), .bool (decide ((j : Int) < 40))]) ∧ Below w.heap.size w w' := by
  by_cases h : j < 40
  · rw [decide_eq_true (show (j : Int) < 40 by omega)]
    exact ⟨_, _, fun w => parent_at j m h hm w, fun w => sibling_at j m h hm w⟩
  · rw [decide_eq_false (show ¬ (j : Int) < 40 by omega)]
    obtain rfl : j = 40 := by omega
    obtain ⟨q1, q2⟩ := at_blk 40 m (by omega) hm
    exact ⟨0, 0, fun w => parent_top _ m w q1 q2, fun w => sibling_top _ m w q1 q2⟩
set_option maxHeartbeats 8000000 in
set_option maxRecDepth 100000 in
theorem post_walk (h : Int) (k : Nat) (w : World) :
    Calls Try.prog 5 #[bz h k] w fun e w' => e = .returned (.bool true) ∧ Below w.heap.size w w' := by
  have HA := fun w' => alive_any w'
  have HN : ∀ w', Calls Try.prog 16 #[.agg #[.int .i64 h, .int .u64 (k : Int)]] w' fun e w'' => ∃ j m : Nat, e = .returned (bv j m) ∧ j ≤ 40 ∧ m < pw (40 - j) ∧ Below w'.heap.size w' w'' := fun w' => bent_any h k w'
  go_enter Try.func5, Try.ntmps5
  go_upto_region 3 with ((go_at_call 9; with_reducible refine (HA _).mono ?_; rintro e w1 ⟨rfl, hb1⟩))
  have HK := (Kp.new w h k 33).next hb1
  obtain ⟨c0, c1⟩ := HK.two.at0
  clear hb1 HA
  go_upto_region 4 with ((go_at_call 16; with_reducible refine (HN _).mono ?_; rintro e w2 ⟨j, m, rfl, hj, hm, hb2⟩))
  have HV : Vr w (w2.alloc (.cells #[.int .i64 (j : Int), .int .u64 (m : Int)] 33)) w2.heap.size j m := ⟨two_new w2 j m 33, bal (HK.next hb2).below _⟩
  clear hb2 HN HK c0 c1
  generalize w2.heap.size = g at *
  generalize (w2.alloc (.cells #[.int .i64 (j : Int), .int .u64 (m : Int)] 33)) = w3 at *
  have hmb := may_big hm
  have hml := may_mul hj hm
  obtain ⟨q1, q2⟩ := at_blk j m hj hm
  have HO : ∀ w', Calls Try.prog 15 #[.agg #[.int .i64 (j : Int), .int .u64 (m : Int)]] w' fun e w'' => e = .returned (.tuple #[.int .u64 (at' j m : Nat), .bool true]) ∧ Below w'.heap.size w' w'' := fun w' => of_yes j m w' hj hm
  have HH : ∀ w', Calls Try.prog 12 #[.int .u64 (at' j m : Nat)] w' fun e w'' => e = .returned (.tuple #[.int .i64 (j : Int), .bool true]) ∧ Below w'.heap.size w' w'' := fun w' => by
    have := height_any (at' j m) w'
    rwa [blk', if_pos q1, q2, decide_eq_true q1] at this
  have hpj := pw_pos j
  have hpj2 := pw_40 j hj
  have hfr := at_fr j m
  have hlf : m * pw j < pw (40 - 0) := by
    have : (m + 1) * pw j = m * pw j + pw j := by rw [Nat.add_mul, Nat.one_mul]
    have : pw (40 - 0) = 2 ^ 40 := rfl
    omega
  have hlf2 : m * pw j < 2 ^ 40 := hlf
  have hN := N_fr j m (by omega)
  obtain ⟨l1, l2⟩ := at_blk 0 (m * pw j) (by omega) hlf
  rw [at_leaf, hN] at l1 l2
  have HB : ∀ w', Calls Try.prog 13 #[.int .u64 (fr j m : Nat)] w' fun e w'' => e = .returned (.tuple #[.agg #[.int .i64 0, .int .u64 (m * pw j : Nat)], .bool true]) ∧ Below w'.heap.size w' w'' := fun w' => by
    have := block_yes (fr j m) w' l1
    rwa [l2] at this
  have HL : ∀ w', Calls Try.prog 17 #[.int .u64 (m * pw j : Nat)] w' fun e w'' => e = .returned (.tuple #[.int .u64 (fr j m : Nat), .bool true]) ∧ w' = w'' := fun w' => by
    have := leaf_is (m * pw j) w' hlf2
    rwa [hN] at this
  obtain ⟨x, y, HP, HS⟩ := up_any j m hj hm
  have HI : Hid (∀ i, j = i + 1 → ∃ lp rp : Nat, at' i (2 * m) = lp ∧ at' i (2 * m + 1) = rp ∧ lp + pw j = at' j m ∧ rp + 1 = at' j m ∧
      (∀ w', Calls Try.prog 15 #[.agg #[.int .i64 (i : Int), .int .u64 (2 * m : Nat)]] w' fun e w'' => e = .returned (.tuple #[.int .u64 (lp : Int), .bool true]) ∧ Below w'.heap.size w' w'') ∧
      (∀ w', Calls Try.prog 15 #[.agg #[.int .i64 (i : Int), .int .u64 (2 * m + 1 : Nat)]] w' fun e w'' => e = .returned (.tuple #[.int .u64 (rp : Int), .bool true]) ∧ Below w'.heap.size w' w'') ∧
      (∀ w', Calls Try.prog 18 #[.int .u64 (lp : Int)] w' fun e w'' => e = .returned (.tuple #[.int .u64 (at' j m : Nat), .bool true]) ∧ Below w'.heap.size w' w'') ∧
      (∀ w', Calls Try.prog 18 #[.int .u64 (rp : Int)] w' fun e w'' => e = .returned (.tuple #[.int .u64 (at' j m : Nat), .bool true]) ∧ Below w'.heap.size w' w'') ∧
      (∀ w', Calls Try.prog 19 #[.int .u64 (lp : Int)] w' fun e w'' => e = .returned (.tuple #[.int .u64 (rp : Int), .bool true]) ∧ Below w'.heap.size w' w'') ∧
      (∀ w', Calls Try.prog 19 #[.int .u64 (rp : Int)] w' fun e w'' => e = .returned (.tuple #[.int .u64 (lp : Int), .bool true]) ∧ Below w'.heap.size w' w'')) := by
    rintro i rfl
    have hi2 := may_two (by omega) hm
    have hi1 : 2 * m < pw (40 - i) := by omega
    have d1 : 2 * m / 2 = m := by omega
    have d2 : (2 * m + 1) / 2 = m := by omega
    have s1 : sib (2 * m) = 2 * m + 1 := by unfold sib; rw [if_pos (by omega)]
    have s2 : sib (2 * m + 1) = 2 * m := by unfold sib; rw [if_neg (by omega)]; omega
    refine ⟨_, _, rfl, rfl, left_at i m (by omega), right_at i m (by omega), fun w' => of_yes i (2 * m) w' (by omega) hi1, fun w' => of_yes i (2 * m + 1) w' (by omega) hi2, fun w' => ?_, fun w' => ?_, fun w' => ?_, fun w' => ?_⟩
    · have := parent_at i (2 * m) (by omega) hi1 w'; rwa [d1] at this
    · have := parent_at i (2 * m + 1) (by omega) hi2 w'; rwa [d2] at this
    · have := sibling_at i (2 * m) (by omega) hi1 w'; rwa [s1] at this
    · have := sibling_at i (2 * m + 1) (by omega) hi2 w'; rwa [s2] at this
  have e2 : ((2 : Int) ^ j) = (pw j : Int) := by simp [pw]
  have ew : IntKind.u64.wrap (j : Int) = (j : Int) := by rw [IntKind.wrap_u64]; omega
  have hj0 : (0 : Int) ≤ (j : Int) := Int.natCast_nonneg _
  have hj1 : (j : Int) < 64 := by omega
  simp only [most] at q1
  obtain ⟨t2, ht2⟩ : ∃ t : Nat, 2 * pw j = t := ⟨_, rfl⟩
  obtain ⟨t3, ht3⟩ : ∃ t : Nat, t2 - 2 = t := ⟨_, rfl⟩
  have E1 : IntKind.u64.wrap (2 * (2 : Int) ^ j) = (t2 : Int) := by rw [e2, IntKind.wrap_u64]; omega
  have E2 : IntKind.u64.wrap ((t2 : Int) - 2) = (t3 : Int) := by rw [IntKind.wrap_u64]; omega
  have E3 : IntKind.u64.wrap ((at' j m : Nat) - (t3 : Int)) = (fr j m : Nat) := by rw [IntKind.wrap_u64]; omega
  have E4 : IntKind.u64.wrap ((m : Int) * (2 : Int) ^ j) = (m * pw j : Nat) := by rw [e2, IntKind.wrap_u64]; rw [← Int.natCast_mul]; omega
  have HX : Hid (at' j m < 2 ^ 63 ∧ pw j < 2 ^ 63 ∧ m < 2 ^ 62 ∧ (2 : Int) ^ j = (pw j : Int)) := ⟨by omega, by omega, by omega, e2⟩
  clear hm hmb hml q1 q2 hpj hpj2 hfr hlf hlf2 hN l1 l2 e2 ht2 ht3 hj
  generalize at' j m = p at *
  generalize fr j m = f at *
  generalize m * pw j = lf at *
  obtain ⟨c0, c1⟩ := HV.two.at0
  go_upto_region 9 with (first
    | (go_at_call 15; with_reducible refine (HO _).mono ?_; rintro e w4 ⟨rfl, hb⟩; replace HV := HV.next hb; clear hb c0 c1; obtain ⟨c0, c1⟩ := HV.two.at0)
    | (go_at_call 12; with_reducible refine (HH _).mono ?_; rintro e w5 ⟨rfl, hb⟩; replace HV := HV.next hb; clear hb c0 c1; obtain ⟨c0, c1⟩ := HV.two.at0))
  clear HO HH E1 E2 E3
  go_upto_region 10 with ((go_at_call 13; with_reducible refine (HB _).mono ?_; rintro e w6 ⟨rfl, hb⟩; replace HV := HV.next hb; clear hb c0 c1))
  replace HV := HV.next (ball w6 (.cells #[.int .i64 0, .int .u64 (lf : Int)] 33))
  have ty := two_new w6 0 lf 33
  clear HB
  generalize (w6.alloc (.cells #[.int .i64 0, .int .u64 (lf : Int)] 33)) = w7 at *
  obtain ⟨c0, c1⟩ := HV.two.at0
  obtain ⟨y0, y1⟩ := ty.at0
  go_upto_region 13 with ((go_at_call 17; with_reducible refine (HL _).mono ?_; rintro e w8 ⟨rfl, rfl⟩))
  clear HL E4 y0 y1 ty
  by_cases hj : j = 0
  · subst hj
    clear HI HX ew hj0 hj1
    have c0' : w7.cell? ⟨g, 0, none⟩ = some (.int .i64 0) := c0
    clear c0
    have HP' : ∀ w, Calls Try.prog 18 #[.int .u64 (p : Int)] w fun e w' => e = .returned (.tuple #[.int .u64 (x : Int), .bool true]) ∧ Below w.heap.size w w' := HP
    have HS' : ∀ w, Calls Try.prog 19 #[.int .u64 (p : Int)] w fun e w' => e = .returned (.tuple #[.int .u64 (y : Int), .bool true]) ∧ Below w.heap.size w w' := HS
    clear HP HS
    go_upto_region 24 with (first
      | (go_at_call 18; with_reducible refine (HP' _).mono ?_; rintro e w9 ⟨rfl, hb⟩; replace HV := HV.next hb; clear hb c1 c0')
      | (go_at_call 19; with_reducible refine (HS' _).mono ?_; rintro e w10 ⟨rfl, hb⟩; replace HV := HV.next hb; clear hb))
    have c0 : w10.cell? ⟨g, 0, none⟩ = some (.int .i64 0) := HV.two.c0
    go_wp2
    go_ret
    exact ⟨rfl, HV.below⟩
  · obtain ⟨i, hi⟩ : ∃ i, j = i + 1 := ⟨j - 1, by omega⟩
    obtain ⟨lp, rp, hlp, hrp, a1, a2, HL1, HR1, HPL, HPR, HSL, HSR⟩ := HI.out i hi
    obtain ⟨x1, x2, x3, x4⟩ := HX.out
    have hjp : (0 : Int) < (j : Int) := by omega
    have ej : (j : Int) - 1 = (i : Int) := by omega
    have F1 : IntKind.u64.wrap (2 * (m : Int)) = (2 * m : Nat) := by rw [IntKind.wrap_u64]; omega
    have F2 : IntKind.u64.wrap ((2 * m : Nat) + 1) = (2 * m + 1 : Nat) := by rw [IntKind.wrap_u64]; omega
    have F3 : IntKind.u64.wrap ((p : Int) - 1) = (rp : Int) := by rw [IntKind.wrap_u64]; omega
    obtain ⟨u, hu⟩ : ∃ u : Nat, pw j = u := ⟨_, rfl⟩
    have F4 : IntKind.u64.wrap ((2 : Int) ^ j) = (u : Int) := by rw [x4, IntKind.wrap_u64]; omega
    have F5 : IntKind.u64.wrap ((p : Int) - (u : Int)) = (lp : Int) := by rw [IntKind.wrap_u64]; omega
    clear HI HX x1 x2 x3 x4 hlp hrp a1 a2 hu hj hi
    generalize 2 * m + 1 = r2 at *
    generalize 2 * m = l2 at *
    go_upto_region 20 with (first
      | (go_at_call 15; with_reducible refine (HL1 _).mono ?_; rintro e w9 ⟨rfl, hb⟩; replace HV := HV.next hb; clear hb c0 c1; obtain ⟨c0, c1⟩ := HV.two.at0)
      | (go_at_call 15; with_reducible refine (HR1 _).mono ?_; rintro e w10 ⟨rfl, hb⟩; replace HV := HV.next hb; clear hb c0 c1; obtain ⟨c0, c1⟩ := HV.two.at0)
      | (go_at_call 18; with_reducible refine (HPL _).mono ?_; rintro e w11 ⟨rfl, hb⟩; replace HV := HV.next hb; clear hb c0 c1; obtain ⟨c0, c1⟩ := HV.two.at0)
      | (go_at_call 18; with_reducible refine (HPR _).mono ?_; rintro e w12 ⟨rfl, hb⟩; replace HV := HV.next hb; clear hb c0 c1; obtain ⟨c0, c1⟩ := HV.two.at0)
      | (go_at_call 19; with_reducible refine (HSL _).mono ?_; rintro e w13 ⟨rfl, hb⟩; replace HV := HV.next hb; clear hb c0 c1; obtain ⟨c0, c1⟩ := HV.two.at0)
      | (go_at_call 19; with_reducible refine (HSR _).mono ?_; rintro e w14 ⟨rfl, hb⟩; replace HV := HV.next hb; clear hb c0 c1; obtain ⟨c0, c1⟩ := HV.two.at0))
    clear HL1 HR1 HPL HPR HSL HSR
    go_upto_region 24 with (first
      | (go_at_call 18; with_reducible refine (HP _).mono ?_; rintro e w15 ⟨rfl, hb⟩; replace HV := HV.next hb; clear hb c0 c1)
      | (go_at_call 19; with_reducible refine (HS _).mono ?_; rintro e w16 ⟨rfl, hb⟩; replace HV := HV.next hb; clear hb))
    obtain ⟨c0, c1⟩ := HV.two.at0
    clear HP HS F1 F2 F3 F4 F5 hjp ej
    go_wp2
    go_ret
    exact ⟨rfl, HV.below⟩
theorem post_row (h k : Int) (w1 : (Lit.int .u64 k).wf = true) (w : World) :
    Calls Try.prog 5 #[.agg #[.int .i64 h, .int .u64 k]] w fun e w' => e = .returned (.bool true) ∧ Below w.heap.size w w' := by
  obtain ⟨m, rfl, _⟩ := u64_nat w1
  exact post_walk h m w
end Go.Proofs.Ytilflepomeoffaa
