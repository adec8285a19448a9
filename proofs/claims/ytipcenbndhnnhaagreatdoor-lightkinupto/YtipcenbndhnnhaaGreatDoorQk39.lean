/-
  Own work: CvRefA, CvRefB, CvRefC.
-/
import Derived.Test.YtipcenbndhnnhaaGreatDoorQk13
namespace Go.Proofs.YtipcenbndhnnhaaGreatDoor.Cv
open Pl
open Go.RowKit
attribute [local go_sem ↓] Go.wp_at_zero Go.wp_at_succ
theorem wpList_append_M (w : World) {ops : Array Oper} {rest : List Oper} {o : Oper} {a : Act} {Q : Exit → Act → World → Prop}
    (hg : o.guard = none) (s x : Operand) (hop : o.op = Op.call { callee := Callee.builtin Builtin.append, args := #[s, x], argTypes := #[65, 65] })
    (B : Nat) (v : Value) (L : List (Int × Nat)) (hs : a.eval s = v) (hown : OwnB w B v L) (u : Value) (M : List (Int × Nat)) (hx : a.eval x = u) (hr : RdC w u M.length (cB M))
    (hlen : L.length + M.length ≤ 2199023255552) (hB : B ≤ w.heap.size)
    (hK : ∀ v' w', OwnB w' B v' (L ++ M) → w.grownBy w' v.ownBlock → wpList Tryz.prog ops Q rest (a.put o.dst v') w') : wpList Tryz.prog ops Q (o :: rest) a w := by
  obtain ⟨i0, hi, hz0, hz1, hz2⟩ := info_parts Tryz.infoB
  refine wpList_append_ap w hg s x _ hop B 94 i0 (.agg #[.int .i64 0, .int .u64 0]) 2 16 Tryz.underlying65 hi hz0 hz1 hz2 rfl (by decide) v L.length (cB L) hs hown u M.length (cB M) hx hr (cB_len M) (cB_one M) (by unfold maxLen; omega) (by omega) hB ?_
  intro v' w' h
  refine hK v' w' ?_ h.grown
  rw [OwnB, cB_app, List.length_append]
  exact h.own
structure Two (w : World) (g : Nat) (h : Int) (k : Nat) : Prop where
  c0 : w.cell? ⟨g, 0, none⟩ = some (.int .i64 h)
  c1 : w.cell? ⟨g, 1, none⟩ = some (.int .u64 (k : Int))
theorem Two.below {w w' : World} {g k : Nat} {h : Int} (t : Two w g h k) (hb : Below w.heap.size w w') : Two w' g h k :=
  ⟨(hb.cell (p := ⟨g, 0, none⟩) (World.block_lt_of_cell? w _ t.c0)).trans t.c0, (hb.cell (p := ⟨g, 1, none⟩) (World.block_lt_of_cell? w _ t.c1)).trans t.c1⟩
theorem two_new (w : World) (h : Int) (k t : Nat) : Two (w.alloc (.cells #[.int .i64 h, .int .u64 (k : Int)] t)) w.heap.size h k := by
  refine ⟨?_, ?_⟩ <;> simp
theorem rspan_any (h k : Nat) (w : World) (hh : h ≤ 40) (hk : k < pw (40 - h)) :
    Calls Tryz.prog 182 #[bv h k] w fun e w' => e = .returned (.tuple #[.int .u64 (k * pw h : Nat), .int .u64 ((k + 1) * pw h : Nat)]) ∧ Below w.heap.size w w' := by
  have hm := may_mul hh hk
  have hk2 := may_big hk
  have T : Hid (Two (w.alloc (.cells #[.int .i64 (h : Int), .int .u64 (k : Int)] 94)) w.heap.size h k) := two_new w h k 94
  have HM : Hid ((k + 1) * pw h ≤ 2 ^ 40 ∧ h ≤ 40) := ⟨hm, hh⟩
  have ek : IntKind.u64.wrap ((k : Int) + 1) = (k : Int) + 1 := by rw [IntKind.wrap_u64]; omega
  clear hm hk2 hh hk
  go_enter Tryz.func182, Tryz.ntmps182
  go_wp2
  go_loopg [4, 5, 6] h (fun g lo hi i wr => ∃ j x y : Nat, j ≤ h ∧ g = h - j ∧ i = .int .i64 (j : Int) ∧ lo = .int .u64 (x : Int) ∧ hi = .int .u64 (y : Int) ∧ x = k * pw j ∧ y = (k + 1) * pw j ∧ wr = w.alloc (.cells #[.int .i64 (h : Int), .int .u64 (k : Int)] 94))
  case atStart =>
    go_light
    exact ⟨0, k, k + 1, Nat.zero_le _, rfl, rfl, rfl, rfl, by simp [pw], by simp [pw], rfl⟩
  case round =>
    obtain ⟨j, x, y, hj, rfl, rfl, rfl, rfl, hx, hy, rfl⟩ := hrel
    obtain ⟨hm, hh⟩ := HM.out
    obtain ⟨t0, t1⟩ := T.out
    have hj0 : (0 : Int) ≤ (j : Int) := Int.natCast_nonneg _
    have hj1 : (j : Int) ≤ 40 := by omega
    by_cases hlt : j < h
    · have hlt' : (j : Int) < (h : Int) := by omega
      have hb : (k + 1) * pw (j + 1) ≤ (k + 1) * pw h := Nat.mul_le_mul_left _ (pw_le hlt)
      have e1 : k * pw (j + 1) = 2 * x := by rw [hx, mul_half, Nat.mul_assoc]
      have e2 : (k + 1) * pw (j + 1) = 2 * y := by rw [hy, mul_half, Nat.mul_assoc]
      have hxy : x ≤ y := by rw [hx, hy]; exact Nat.mul_le_mul_right _ (by omega)
      have w1 : IntKind.u64.wrap (2 * (x : Int)) = 2 * (x : Int) := by rw [IntKind.wrap_u64]; omega
      have w2 : IntKind.u64.wrap (2 * (y : Int)) = 2 * (y : Int) := by rw [IntKind.wrap_u64]; omega
      have HX : Hid (2 * x = k * pw (j + 1) ∧ 2 * y = (k + 1) * pw (j + 1)) := ⟨e1.symm, e2.symm⟩
      clear hb e1 e2 hxy hx hy hm hh hj
      go_wp2
      go_roundg (h - (j + 1))
      case rel =>
        go_light
        exact ⟨j + 1, 2 * x, 2 * y, by omega, rfl, by go_num, by go_num, by go_num, HX.out.1, HX.out.2, rfl⟩
      case measure => go_light; omega
    · obtain rfl : j = h := by omega
      have hlt' : ¬ (j : Int) < (j : Int) := by omega
      have HX : Hid (x = k * pw j ∧ y = (k + 1) * pw j) := ⟨hx, hy⟩
      clear hx hy hm hh hj hlt
      go_wp2
      go_ret2
      obtain ⟨rfl, rfl⟩ := HX.out
      exact ⟨rfl, bal (Below.refl _ _) _⟩
theorem pw_half (m : Nat) : pw (m + 1) / 2 = pw m := by rw [pw_succ]; omega
set_option maxHeartbeats 1000000 in
theorem rmounts_any (n : Nat) (w : World) (hn : n ≤ 2 ^ 40) :
    Calls Tryz.prog 134 #[.int .u64 (n : Int)] w fun e w' => ∃ v, e = .returned v ∧ OwnB w' w.heap.size v (zl (dnL 41 0 n)) ∧ Below w.heap.size w w' := by
  have HN : Hid (n ≤ 2 ^ 40) := hn
  clear hn
  go_enter Tryz.func134, Tryz.ntmps134
  go_wp2
  go_loopg [3, 4, 5, 6] 41 (fun g v f p h wr => ∃ (m x : Nat) (acc : List (Nat × Nat)), m ≤ 41 ∧ m = g ∧ h = .int .i64 ((m : Int) - 1) ∧ p = .int .u64 ((pw m / 2 : Nat) : Int) ∧ f = .int .u64 (x : Int) ∧ x ≤ n ∧ OwnB wr w.heap.size v (zl acc) ∧ acc ++ dnL m x n = dnL 41 0 n ∧ acc.length + m ≤ 41 ∧ Below w.heap.size w wr)
  case atStart =>
    go_light
    exact ⟨41, 0, [], by decide, rfl, rfl, rfl, rfl, Nat.zero_le _, World.ownsRow_nil _ _ _ _, rfl, by decide, Below.refl _ _⟩
  case round =>
    obtain ⟨m, x, acc, hm, rfl, rfl, rfl, rfl, hx, hown, hacc, hlen, hb⟩ := hrel
    have hn := HN.out
    by_cases hm0 : m = 0
    · subst hm0
      have ht : ¬ (0 : Int) ≤ ((0 : Nat) : Int) - 1 := by omega
      have HF : Hid (OwnB wr w.heap.size u3 (zl (dnL 41 0 n)) ∧ Below w.heap.size w wr) := ⟨by
        rw [← hacc]; simpa [dnL] using hown, hb⟩
      clear hx hown hacc hlen hb hn hm
      go_wp2
      go_ret
      exact ⟨_, rfl, HF.out⟩
    · obtain ⟨i, rfl⟩ : ∃ i, m = i + 1 := ⟨m - 1, by omega⟩
      have ei : (((i + 1 : Nat) : Int) - 1) = (i : Int) := by omega
      rw [ei, pw_half]
      have hi0 : (0 : Int) ≤ (i : Int) := Int.natCast_nonneg _
      have hi1 : (i : Int) ≤ 40 := by omega
      obtain ⟨p, hp⟩ : ∃ p, pw i = p := ⟨_, rfl⟩
      have hp40 : pw i ≤ pw 40 := pw_le (by omega)
      have e40 : pw 40 = 2 ^ 40 := rfl
      have hpp := pw_pos i
      rw [hp] at hp40 hpp ⊢
      obtain ⟨d, hd⟩ : ∃ d, n - x = d := ⟨_, rfl⟩
      have ed : IntKind.u64.wrap ((n : Int) - (x : Int)) = (d : Int) := by rw [IntKind.wrap_u64]; omega
      obtain ⟨p2, hp2⟩ : ∃ p2, p / 2 = p2 := ⟨_, rfl⟩
      have ep : IntKind.u64.wrap ((p : Int) / 2) = (p2 : Int) := by rw [IntKind.wrap_u64]; omega
      have hne : ¬ (p : Int) = 0 := by omega
      have hsz := hb.size
      by_cases hfit : p ≤ d
      · have hfi : (p : Int) ≤ (d : Int) := by omega
        obtain ⟨q, hq⟩ : ∃ q, x / pw i = q := ⟨_, rfl⟩
        have hq2 : x / p = q := by rw [← hp]; exact hq
        have hqx : q ≤ x := by rw [← hq]; exact Nat.div_le_self _ _
        have eq : (x : Int) / (p : Int) = (q : Int) := by rw [← hq2]; rfl
        have eq2 : IntKind.u64.wrap (q : Int) = (q : Int) := by rw [IntKind.wrap_u64]; omega
        have ef : IntKind.u64.wrap ((x : Int) + (p : Int)) = ((x + p : Nat) : Int) := by rw [IntKind.wrap_u64]; omega
        have hu := dn_yes (h := i) (lo := x) (hi := n) (by omega)
        rw [hq, hp] at hu
        have HX : Hid (acc ++ [(i, q)] ++ dnL i (x + p) n = dnL 41 0 n ∧ x + p ≤ n ∧ (acc ++ [(i, q)]).length + i ≤ 41 ∧ Below w.heap.size w wr ∧ w.heap.size ≤ wr.heap.size ∧ acc.length ≤ 41 ∧ pw i / 2 = p2) := by
          refine ⟨?_, by omega, by simp; omega, hb, hsz, by omega, by rw [hp, hp2]⟩
          rw [List.append_assoc, ← hacc, hu]; rfl
        clear hx hacc hlen hb hn hm hm0 hp hd hp2 hq hq2 hqx hu e40 hp40 hpp hsz hfit
        go_wp2_with (at_builtin; refine wpList_append_B _ rfl _ _ rfl w.heap.size _ (zl acc) rfl (hown.alloc _) _ [((i : Int), q)] rfl (rdc_block wr (i : Int) q 94) ?c1 ?c2 ?_)
        case c1 => have := HX.out.2.2.2.2.2.1; rw [zl_len]; simp; omega
        case c2 => have := HX.out.2.2.2.2.1; simp; omega
        intro v' w1 r1 r2 _
        have R := ownB_step HX.out.2.2.2.1 HX.out.2.2.2.2.1 hown r2
        clear r2 hown
        go_wp2
        go_roundg i
        case rel =>
          go_light
          obtain ⟨x1, x2, x3, x4, x5, x6, x7⟩ := HX.out
          refine ⟨i, x + p, acc ++ [(i, q)], by omega, rfl, by go_num, by rw [x7], by go_num, x2, ?_, x1, x3, R.1⟩
          rw [zl_app]; exact r1
        case measure => go_light; omega
      · have hfi : ¬ (p : Int) ≤ (d : Int) := by omega
        have hu := dn_no (h := i) (lo := x) (hi := n) (by omega)
        rw [hu] at hacc
        have HX : Hid (acc ++ dnL i x n = dnL 41 0 n ∧ x ≤ n ∧ acc.length + i ≤ 41 ∧ Below w.heap.size w wr ∧ pw i / 2 = p2) := ⟨hacc, hx, by omega, hb, by rw [hp, hp2]⟩
        clear hx hacc hlen hb hn hm hm0 hp hd hp2 hu e40 hp40 hpp hsz
        go_wp2
        go_roundg i
        case rel =>
          go_light
          obtain ⟨x1, x2, x3, x4, x5⟩ := HX.out
          exact ⟨i, x, acc, by omega, rfl, by go_num, by rw [x5], rfl, x2, hown, x1, x3, x4⟩
        case measure => go_light; omega
end Go.Proofs.YtipcenbndhnnhaaGreatDoor.Cv
namespace Go.Proofs.YtipcenbndhnnhaaGreatDoor.Cv
open Pl
open Go.RowKit
attribute [local go_sem ↓] Go.wp_at_zero Go.wp_at_succ
theorem tin_here {lo hi H K : Nat} (h1 : lo ≤ K * pw H) (h2 : (K + 1) * pw H ≤ hi) : tin lo hi H K = [(H, K)] := by
  cases H with
  | zero => rw [tin, if_pos ⟨h1, h2⟩]
  | succ H => rw [tin, if_pos ⟨h1, h2⟩]
theorem tin_out {lo hi H K : Nat} (h : ¬ (lo ≤ K * pw H ∧ (K + 1) * pw H ≤ hi)) (h2 : (K + 1) * pw H ≤ lo ∨ hi ≤ K * pw H) : tin lo hi H K = [] := by
  cases H with
  | zero => rw [tin, if_neg h]
  | succ H => rw [tin, if_neg h, if_pos h2]
theorem tin_two {lo hi H K : Nat} (h : ¬ (lo ≤ K * pw (H + 1) ∧ (K + 1) * pw (H + 1) ≤ hi)) (h2 : ¬ ((K + 1) * pw (H + 1) ≤ lo ∨ hi ≤ K * pw (H + 1))) : tin lo hi (H + 1) K = tin lo hi H (2 * K) ++ tin lo hi H (2 * K + 1) := by
  rw [tin, if_neg h, if_neg h2]
set_option maxHeartbeats 2000000 in
theorem rwithin_zero (lo hi h K : Nat) (w : World) (h0 : h = 0) (hK : K < pw (40 - h)) :
    Calls Tryz.prog 163 #[bv h K, .int .u64 (lo : Int), .int .u64 (hi : Int)] w fun e w' => ∃ v, e = .returned v ∧ OwnB w' w.heap.size v (zl (tin lo hi h K)) ∧ Below w.heap.size w w' := by
  have HS := fun w' => rspan_any h K w' (by omega) hK
  have e0 : pw h = 1 := by rw [h0]; rfl
  obtain ⟨x, hx⟩ : ∃ x, K * pw h = x := ⟨_, rfl⟩
  obtain ⟨y, hy⟩ : ∃ y, (K + 1) * pw h = y := ⟨_, rfl⟩
  rw [hx, hy] at HS
  have hxy : y = x + 1 := by rw [e0] at hx hy; omega
  have T := two_new w (h : Int) K 94
  by_cases c1 : lo ≤ x
  · have c1' : (lo : Int) ≤ (x : Int) := by omega
    by_cases c2 : y ≤ hi
    · have c2' : (y : Int) ≤ (hi : Int) := by omega
      have HT : Hid (tin lo hi h K = [(h, K)]) := tin_here (by rw [hx]; exact c1) (by rw [hy]; exact c2)
      clear hx hy hxy e0 h0 hK
      go_enter Tryz.func163, Tryz.ntmps163
      go_wp2_with (go_at_call 182; with_reducible refine (HS _).mono ?_; rintro e w1 ⟨rfl, hb1⟩; obtain ⟨t0, t1⟩ := T.below hb1)
      go_ret
      rw [HT.out]
      exact ⟨_, rfl, own_lit w1 w.heap.size _ [((h : Int), K)] rfl (by have := hb1.size; simp at this; omega) (by simp), bal (below_new hb1) _⟩
    · have c2' : ¬ (y : Int) ≤ (hi : Int) := by omega
      have c3' : ¬ (y : Int) ≤ (lo : Int) := by omega
      have c4' : (hi : Int) ≤ (x : Int) := by omega
      have c3 : ¬ y ≤ lo := by omega
      have c4 : hi ≤ x := by omega
      have HT : Hid (tin lo hi h K = []) := tin_out (by rw [hx, hy]; omega) (by rw [hx, hy]; omega)
      clear hx hy hxy e0 h0 hK
      go_enter Tryz.func163, Tryz.ntmps163
      go_wp2_with (go_at_call 182; with_reducible refine (HS _).mono ?_; rintro e w1 ⟨rfl, hb1⟩; obtain ⟨t0, t1⟩ := T.below hb1)
      go_ret
      rw [HT.out]
      exact ⟨_, rfl, World.ownsRow_nil _ _ _ _, below_new hb1⟩
  · have c1' : ¬ (lo : Int) ≤ (x : Int) := by omega
    have c3' : (y : Int) ≤ (lo : Int) := by omega
    have c3 : y ≤ lo := by omega
    have HT : Hid (tin lo hi h K = []) := tin_out (by rw [hx, hy]; omega) (by rw [hx, hy]; omega)
    clear hx hy hxy e0 h0 hK
    go_enter Tryz.func163, Tryz.ntmps163
    go_wp2_with (go_at_call 182; with_reducible refine (HS _).mono ?_; rintro e w1 ⟨rfl, hb1⟩; obtain ⟨t0, t1⟩ := T.below hb1)
    go_ret
    rw [HT.out]
    exact ⟨_, rfl, World.ownsRow_nil _ _ _ _, below_new hb1⟩
set_option maxHeartbeats 4000000 in
theorem rwithin_any (lo hi : Nat) : ∀ (H K : Nat) (w : World), H ≤ 40 → K < pw (40 - H) →
    Calls Tryz.prog 163 #[bv H K, .int .u64 (lo : Int), .int .u64 (hi : Int)] w fun e w' => ∃ v, e = .returned v ∧ OwnB w' w.heap.size v (zl (tin lo hi H K)) ∧ Below w.heap.size w w' := by
  intro H
  induction H with
  | zero => intro K w _ hK; exact rwithin_zero lo hi 0 K w rfl hK
  | succ H ih =>
    intro K w hH hK
    have HS := fun w' => rspan_any (H + 1) K w' hH hK
    obtain ⟨x, hx⟩ : ∃ x, K * pw (H + 1) = x := ⟨_, rfl⟩
    obtain ⟨y, hy⟩ : ∃ y, (K + 1) * pw (H + 1) = y := ⟨_, rfl⟩
    have hxy : x < y := by rw [← hx, ← hy]; exact blk_lt _ _
    rw [hx, hy] at HS
    have T := two_new w ((H + 1 : Nat) : Int) K 94
    have hKK := may_two (h := H) (k := K) (by omega) hK
    have hbig := may_big hK
    have I1 := fun w' => ih (2 * K) w' (by omega) (by omega)
    have I2 := fun w' => ih (2 * K + 1) w' (by omega) hKK
    have l1 := tin_len lo hi H (2 * K)
    have l2 := tin_len lo hi H (2 * K + 1)
    have hp40 : pw H ≤ pw 40 := pw_le (by omega)
    have e40 : pw 40 = 2 ^ 40 := rfl
    have HZ : Hid ((zl (tin lo hi H (2 * K))).length + (zl (tin lo hi H (2 * K + 1))).length ≤ 2199023255552) := by
      show _ ≤ _
      rw [zl_len, zl_len]; omega
    have htwo := tin_two (lo := lo) (hi := hi) (H := H) (K := K)
    have hhere := tin_here (lo := lo) (hi := hi) (H := H + 1) (K := K)
    have hout := tin_out (lo := lo) (hi := hi) (H := H + 1) (K := K)
    rw [hx, hy] at htwo hhere hout
    obtain ⟨h, hh⟩ : ∃ h, H + 1 = h := ⟨_, rfl⟩
    rw [hh] at HS T htwo hhere hout ⊢
    obtain ⟨p, hp⟩ : ∃ p, 2 * K = p := ⟨_, rfl⟩
    obtain ⟨q, hq⟩ : ∃ q, p + 1 = q := ⟨_, rfl⟩
    rw [hp] at I1 I2 HZ htwo
    rw [hq] at I2 HZ htwo
    have eh : IntKind.i64.wrap ((h : Int) - 1) = (H : Int) := by rw [IntKind.wrap_i64]; omega
    have ep : IntKind.u64.wrap (2 * (K : Int)) = (p : Int) := by rw [IntKind.wrap_u64]; omega
    have eq : IntKind.u64.wrap ((p : Int) + 1) = (q : Int) := by rw [IntKind.wrap_u64]; omega
    have key : ∀ (b1 b2 b3 b4 : Bool), True := fun _ _ _ _ => trivial
    clear key l1 l2 hp40 e40 hh hp hq hbig hKK hx hy hH hK ih
    by_cases c1 : lo ≤ x
    · have c1' : (lo : Int) ≤ (x : Int) := by omega
      by_cases c2 : y ≤ hi
      · have c2' : (y : Int) ≤ (hi : Int) := by omega
        have HT : Hid (tin lo hi h K = [(h, K)]) := hhere c1 c2
        clear htwo hhere hout hxy I1 I2
        go_enter Tryz.func163, Tryz.ntmps163
        go_wp2_with (go_at_call 182; with_reducible refine (HS _).mono ?_; rintro e w1 ⟨rfl, hb1⟩; obtain ⟨t0, t1⟩ := T.below hb1)
        go_ret
        rw [HT.out]
        exact ⟨_, rfl, own_lit w1 w.heap.size _ [((h : Int), K)] rfl (by have := hb1.size; simp at this; omega) (by simp), bal (below_new hb1) _⟩
      · have c2' : ¬ (y : Int) ≤ (hi : Int) := by omega
        have c3' : ¬ (y : Int) ≤ (lo : Int) := by omega
        have c3 : ¬ y ≤ lo := by omega
        by_cases c4 : hi ≤ x
        · have c4' : (hi : Int) ≤ (x : Int) := by omega
          have HT : Hid (tin lo hi h K = []) := hout (fun h => c2 h.2) (.inr c4)
          clear htwo hhere hout hxy I1 I2
          go_enter Tryz.func163, Tryz.ntmps163
          go_wp2_with (go_at_call 182; with_reducible refine (HS _).mono ?_; rintro e w1 ⟨rfl, hb1⟩; obtain ⟨t0, t1⟩ := T.below hb1)
          go_ret
          rw [HT.out]
          exact ⟨_, rfl, World.ownsRow_nil _ _ _ _, below_new hb1⟩
        · have c4' : ¬ (hi : Int) ≤ (x : Int) := by omega
          have HT : Hid (tin lo hi h K = tin lo hi H p ++ tin lo hi H q) := htwo (fun h => c2 h.2) (fun h => h.elim c3 c4)
          clear htwo hhere hout hxy
          go_enter Tryz.func163, Tryz.ntmps163
          go_upto_region 8 with (first
            | (go_at_call 182; with_reducible refine (HS _).mono ?_; rintro e w1 ⟨rfl, hb1⟩; obtain ⟨t0, t1⟩ := T.below hb1)
            | (go_at_call 163; with_reducible refine (I1 _).mono ?_; rintro e w2 ⟨v2, rfl, o2, hb2⟩; clear t0 t1; obtain ⟨t0, t1⟩ := (T.below hb1).below hb2)
            | (go_at_call 163; with_reducible refine (I2 _).mono ?_; rintro e w3 ⟨v3, rfl, o3, hb3⟩))
          have o23 := (ownB_next o2 hb3).mono (base' := w.heap.size) (by have := hb1.size; simp at this; omega)
          have hb := bnext (bnext (below_new hb1) hb2) hb3
          clear o2 hb1 hb2 hb3 I1 I2 HS t0 t1 T
          go_wp2_with (at_builtin; refine wpList_append_M _ rfl _ _ rfl w.heap.size v2 (zl (tin lo hi H p)) rfl o23 v3 (zl (tin lo hi H q)) rfl (rdc_own o3) HZ.out hb.size ?_)
          intro v' w4 r1 r2
          have R := ownB_step0 hb hb.size o23 r2
          go_wp2
          go_ret
          rw [HT.out, zl_app]
          exact ⟨_, rfl, r1, R.1⟩
    · have c1' : ¬ (lo : Int) ≤ (x : Int) := by omega
      by_cases c3 : y ≤ lo
      · have c3' : (y : Int) ≤ (lo : Int) := by omega
        have HT : Hid (tin lo hi h K = []) := hout (fun h => c1 h.1) (.inl c3)
        clear htwo hhere hout hxy I1 I2
        go_enter Tryz.func163, Tryz.ntmps163
        go_wp2_with (go_at_call 182; with_reducible refine (HS _).mono ?_; rintro e w1 ⟨rfl, hb1⟩; obtain ⟨t0, t1⟩ := T.below hb1)
        go_ret
        rw [HT.out]
        exact ⟨_, rfl, World.ownsRow_nil _ _ _ _, below_new hb1⟩
      · have c3' : ¬ (y : Int) ≤ (lo : Int) := by omega
        by_cases c4 : hi ≤ x
        · have c4' : (hi : Int) ≤ (x : Int) := by omega
          have HT : Hid (tin lo hi h K = []) := hout (fun h => c1 h.1) (.inr c4)
          clear htwo hhere hout hxy I1 I2
          go_enter Tryz.func163, Tryz.ntmps163
          go_wp2_with (go_at_call 182; with_reducible refine (HS _).mono ?_; rintro e w1 ⟨rfl, hb1⟩; obtain ⟨t0, t1⟩ := T.below hb1)
          go_ret
          rw [HT.out]
          exact ⟨_, rfl, World.ownsRow_nil _ _ _ _, below_new hb1⟩
        · have c4' : ¬ (hi : Int) ≤ (x : Int) := by omega
          have HT : Hid (tin lo hi h K = tin lo hi H p ++ tin lo hi H q) := htwo (fun h => c1 h.1) (fun h => h.elim c3 c4)
          clear htwo hhere hout hxy
          go_enter Tryz.func163, Tryz.ntmps163
          go_upto_region 8 with (first
            | (go_at_call 182; with_reducible refine (HS _).mono ?_; rintro e w1 ⟨rfl, hb1⟩; obtain ⟨t0, t1⟩ := T.below hb1)
            | (go_at_call 163; with_reducible refine (I1 _).mono ?_; rintro e w2 ⟨v2, rfl, o2, hb2⟩; clear t0 t1; obtain ⟨t0, t1⟩ := (T.below hb1).below hb2)
            | (go_at_call 163; with_reducible refine (I2 _).mono ?_; rintro e w3 ⟨v3, rfl, o3, hb3⟩))
          have o23 := (ownB_next o2 hb3).mono (base' := w.heap.size) (by have := hb1.size; simp at this; omega)
          have hb := bnext (bnext (below_new hb1) hb2) hb3
          clear o2 hb1 hb2 hb3 I1 I2 HS t0 t1 T
          go_wp2_with (at_builtin; refine wpList_append_M _ rfl _ _ rfl w.heap.size v2 (zl (tin lo hi H p)) rfl o23 v3 (zl (tin lo hi H q)) rfl (rdc_own o3) HZ.out hb.size ?_)
          intro v' w4 r1 r2
          have R := ownB_step0 hb hb.size o23 r2
          go_wp2
          go_ret
          rw [HT.out, zl_app]
          exact ⟨_, rfl, r1, R.1⟩
end Go.Proofs.YtipcenbndhnnhaaGreatDoor.Cv
namespace Go.Proofs.YtipcenbndhnnhaaGreatDoor.Cv
open Pl
open Go.RowKit
attribute [local go_sem ↓] Go.wp_at_zero Go.wp_at_succ
theorem rMountains_any (n : Nat) (w : World) :
    Calls Tryz.prog 83 #[.int .u64 (n : Int)] w fun x w' => ∃ v, x = .returned (.tuple #[v, .int .i64 (errR 0 n n : Nat)]) ∧ OwnB w' w.heap.size v (zl (covR 0 n n)) ∧ Below w.heap.size w w' := by
  by_cases h : 2 ^ 40 < n
  · have e : errR 0 n n = 30 := by rw [errR, if_pos h]
    have ht : decide ((1099511627776 : Int) < (n : Int)) = true := decide_eq_true (by omega)
    rw [covR, e, if_neg (by decide)]
    clear h e
    go_enter Tryz.func83, Tryz.ntmps83
    go_wp2
    go_ret2
    exact ⟨_, rfl, World.ownsRow_nil _ _ _ _, Below.refl _ _⟩
  · have e : errR 0 n n = 0 := by rw [errR, if_neg h, if_neg (by omega), if_neg (by omega)]
    have ht : decide ((1099511627776 : Int) < (n : Int)) = false := decide_eq_false (by omega)
    have HM := fun w' => rmounts_any n w' (by omega)
    rw [covR, e, if_pos rfl, cov_zero n (by omega)]
    clear h e
    go_enter Tryz.func83, Tryz.ntmps83
    go_wp2_with (go_at_call 134; with_reducible refine (HM _).mono ?_; rintro x w1 ⟨v, rfl, h1, h2⟩)
    go_ret2
    exact ⟨_, rfl, h1, h2⟩
theorem rrange_err (lo hi n e : Nat) (w : World) (he : errR lo hi n = e) (h0 : e ≠ 0) :
    Calls Tryz.prog 133 #[.int .u64 (lo : Int), .int .u64 (hi : Int), .int .u64 (n : Int)] w fun x w' => ∃ v, x = .returned (.tuple #[v, .int .i64 (e : Int)]) ∧ OwnB w' w.heap.size v [] ∧ Below w.heap.size w w' := by
  unfold errR at he
  by_cases h1 : 2 ^ 40 < n
  · rw [if_pos h1] at he
    subst he
    have ht : decide ((1099511627776 : Int) < (n : Int)) = true := decide_eq_true (by omega)
    clear h0 h1
    go_enter Tryz.func133, Tryz.ntmps133
    go_wp2
    go_ret2
    exact ⟨_, rfl, World.ownsRow_nil _ _ _ _, Below.refl _ _⟩
  · rw [if_neg h1] at he
    have ht : decide ((1099511627776 : Int) < (n : Int)) = false := decide_eq_false (by omega)
    by_cases h2 : n < hi
    · rw [if_pos h2] at he
      subst he
      have ht2 : (n : Int) < (hi : Int) := by omega
      clear h0 h1
      go_enter Tryz.func133, Tryz.ntmps133
      go_wp2
      go_ret2
      exact ⟨_, rfl, World.ownsRow_nil _ _ _ _, Below.refl _ _⟩
    · rw [if_neg h2] at he
      have ht2 : ¬ (n : Int) < (hi : Int) := by omega
      by_cases h3 : hi < lo
      · rw [if_pos h3] at he
        subst he
        have ht3 : (hi : Int) < (lo : Int) := by omega
        clear h0 h1
        go_enter Tryz.func133, Tryz.ntmps133
        go_wp2
        go_ret2
        exact ⟨_, rfl, World.ownsRow_nil _ _ _ _, Below.refl _ _⟩
      · rw [if_neg h3] at he
        exact absurd he.symm h0
theorem row_mem {q : Nat} : ∀ {L : List (Nat × Nat)} {p : Nat}, Row q p L → ∀ b ∈ L, b.1 ≤ 40 ∧ b.2 < pw (40 - b.1) := by
  intro L
  induction L with
  | nil => intro p _ b hb; cases hb
  | cons c L ih =>
    intro p h b hb
    rcases List.mem_cons.1 hb with rfl | hb
    · exact ⟨h.2.1, h.2.2.1⟩
    · exact ih h.2.2.2 b hb
theorem take_flat {t : Nat × Nat → List (Nat × Nat)} (M : List (Nat × Nat)) (k : Nat) (h : k < M.length) : (M.take (k + 1)).flatMap t = (M.take k).flatMap t ++ t (M.getD k (0, 0)) := by
  rw [List.take_succ_eq_append_getElem h, List.flatMap_append, List.getD_eq_getElem?_getD, List.getElem?_eq_getElem h]
  simp
theorem take_flat_len {t : Nat × Nat → List (Nat × Nat)} (M : List (Nat × Nat)) (k : Nat) : ((M.take k).flatMap t).length ≤ (M.flatMap t).length := by
  conv => rhs; rw [← List.take_append_drop k M, List.flatMap_append, List.length_append]
  omega
set_option maxHeartbeats 1000000 in
theorem rrange_ok (lo hi n : Nat) (w : World) (hn : n ≤ 2 ^ 40) (hh : hi ≤ n) (hl : lo ≤ hi) :
    Calls Tryz.prog 133 #[.int .u64 (lo : Int), .int .u64 (hi : Int), .int .u64 (n : Int)] w fun x w' => ∃ v, x = .returned (.tuple #[v, .int .i64 0]) ∧ OwnB w' w.heap.size v (zl (cov lo hi)) ∧ Below w.heap.size w w' := by
  have ht : decide ((1099511627776 : Int) < (n : Int)) = false := decide_eq_false (by omega)
  have ht2 : ¬ (n : Int) < (hi : Int) := by omega
  have ht3 : ¬ (hi : Int) < (lo : Int) := by omega
  have ht2' : ¬ n < hi := by omega
  have ht3' : ¬ hi < lo := by omega
  have HM := fun w' => rmounts_any n w' hn
  have hrow := cov_row 0 n (Nat.zero_le _) hn
  rw [cov_zero n hn] at hrow
  have hlen := cov_len lo hi hl (by omega)
  rw [range_ref lo hi n hl hh hn] at hlen ⊢
  have HQ : Hid ((∀ b ∈ dnL 41 0 n, b.1 ≤ 40 ∧ b.2 < pw (40 - b.1)) ∧ ((dnL 41 0 n).flatMap (fun b => tin lo hi b.1 b.2)).length ≤ 80 ∧ (dnL 41 0 n).length ≤ 41) := ⟨row_mem hrow, hlen, dn_len 41 0 n⟩
  clear hn hh hl hrow hlen
  generalize dnL 41 0 n = M at *
  go_enter Tryz.func133, Tryz.ntmps133
  go_upto_region 9 with ((go_at_call 134; with_reducible refine (HM _).mono ?_; rintro e w1 ⟨v1, rfl, o1, hb1⟩))
  obtain ⟨ao, g, m, cap, rfl, r, _⟩ := own_rdB o1
  have HR : Hid (RdB w1 ao g m (zl M) ∧ M.length = m ∧ Below w.heap.size w w1) := ⟨r, by have := r.len; rwa [zl_len] at this, hb1⟩
  clear r o1 hb1 HM
  go_wp2
  go_loopg [8, 10] m (fun gg v i wr => ∃ k : Nat, k ≤ m ∧ gg = m - k ∧ i = .int .i64 (k : Int) ∧ OwnB wr w1.heap.size v (zl ((M.take k).flatMap (fun b => tin lo hi b.1 b.2))) ∧ Below w1.heap.size w1 wr)
  case atStart =>
    go_light
    exact ⟨0, Nat.zero_le _, rfl, rfl, World.ownsRow_nil _ _ _ _, Below.refl _ _⟩
  case round =>
    obtain ⟨k, hk, rfl, rfl, hown, hb⟩ := hrel
    obtain ⟨s1, s2, s3⟩ := HR.out
    obtain ⟨g1, g2, g3⟩ := HQ.out
    have hk0 : (0 : Int) ≤ (k : Int) := Int.natCast_nonneg _
    have hk41 : (k : Int) ≤ 41 := by omega
    by_cases hlt : k < m
    · have hlt' : (k : Int) < (m : Int) := by omega
      have r' := s1.below hb
      obtain rfl := r'.addr (by omega)
      have hc := r'.cell k hlt
      rw [zl_getD] at hc
      have htk := take_flat (t := fun b => tin lo hi b.1 b.2) M k (by omega)
      have hl1 := take_flat_len (t := fun b => tin lo hi b.1 b.2) M (k + 1)
      have hmem := g1 (M.getD k (0, 0)) (by rw [List.getD_eq_getElem?_getD, List.getElem?_eq_getElem (by omega)]; exact List.getElem_mem _)
      obtain ⟨⟨h, q⟩, hx⟩ : ∃ x, M.getD k (0, 0) = x := ⟨_, rfl⟩
      rw [hx] at hc hmem htk
      obtain ⟨c1, c2⟩ := hc
      dsimp only at c1 c2 hmem htk
      have HW := fun w' => rwithin_any lo hi h q w' hmem.1 hmem.2
      rw [htk, List.length_append] at hl1
      generalize (M.take k).flatMap (fun b => tin lo hi b.1 b.2) = P at *
      generalize tin lo hi h q = R at *
      have HX : Hid ((M.take (k + 1)).flatMap (fun b => tin lo hi b.1 b.2) = P ++ R ∧ Below w1.heap.size w1 wr ∧ P.length + R.length ≤ 80 ∧ k + 1 ≤ m) := ⟨htk, hb, by omega, hlt⟩
      clear htk hl1 hmem hx r' s1 s2 s3 g1 g2 g3 hlt hk hb
      go_wp2_with (first
        | (go_at_call 163; with_reducible refine (HW _).mono ?_; rintro e w2 ⟨v2, rfl, o2, hb2⟩)
        | (at_builtin; refine wpList_append_B _ rfl _ _ rfl w1.heap.size _ (zl P) rfl (ownB_next hown hb2) _ (zl R) rfl (rdc_own o2) ?c1 ?c2 ?_))
      case c1 => have := HX.out.2.2.1; rw [zl_len, zl_len]; omega
      case c2 => have := (bnext HX.out.2.1 hb2).size; exact this
      intro v' w3 r1 r2 _
      have hb12 := bnext HX.out.2.1 hb2
      have RR := ownB_step0 hb12 hb12.size (ownB_next hown hb2) r2
      clear r2 hown o2 hb2 hb12 HW
      go_wp2
      go_roundg (m - (k + 1))
      case rel =>
        go_light
        refine ⟨k + 1, HX.out.2.2.2, rfl, by go_num, ?_, RR.1⟩
        rw [HX.out.1, zl_app]; exact r1
      case measure => go_light; have := HX.out.2.2.2; omega
    · obtain rfl : k = m := by omega
      have hlt' : ¬ (k : Int) < (k : Int) := by omega
      rw [List.take_of_length_le (by omega)] at hown
      obtain ⟨ao8, m8, c8, rfl⟩ := own_slice hown
      have HF : Hid (OwnB wr w.heap.size (.slice ao8 m8 c8) (zl (M.flatMap (fun b => tin lo hi b.1 b.2))) ∧ Below w.heap.size w wr) := ⟨hown.mono s3.size, bnext s3 hb⟩
      clear s1 s2 s3 g1 g2 g3 hlt hk hb hown HR HQ
      go_wp2
      go_ret2
      exact ⟨_, rfl, HF.out⟩
theorem rrange_any (lo hi n : Nat) (w : World) :
    Calls Tryz.prog 133 #[.int .u64 (lo : Int), .int .u64 (hi : Int), .int .u64 (n : Int)] w fun x w' => ∃ v, x = .returned (.tuple #[v, .int .i64 (errR lo hi n : Nat)]) ∧ OwnB w' w.heap.size v (zl (covR lo hi n)) ∧ Below w.heap.size w w' := by
  by_cases h : errR lo hi n = 0
  · have h' := h
    unfold errR at h'
    split at h'
    · cases h'
    · split at h'
      · cases h'
      · split at h'
        · cases h'
        · rw [h, covR, if_pos h]
          exact rrange_ok lo hi n w (by omega) (by omega) (by omega)
  · rw [covR, if_neg h]
    exact rrange_err lo hi n _ w rfl h
end Go.Proofs.YtipcenbndhnnhaaGreatDoor.Cv
