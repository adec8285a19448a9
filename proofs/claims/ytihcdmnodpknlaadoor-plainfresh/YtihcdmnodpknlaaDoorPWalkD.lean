/-
  The walk of PlainSplits. Own work.
-/
import Derived.Test.YtihcdmnodpknlaaDoorPAlive
import Derived.Test.YtihcdmnodpknlaaDoorPlanG
namespace Go.Proofs.YtihcdmnodpknlaaDoor
open Go.RowKit
attribute [local go_sem ↓] Go.wp_at_zero Go.wp_at_succ
/-- A block lies in two cells. -/
structure Two (w : World) (g : Nat) (h : Int) (k : Nat) : Prop where
  c0 : w.cell? ⟨g, 0, none⟩ = some (.int .i64 h)
  c1 : w.cell? ⟨g, 1, none⟩ = some (.int .u64 (k : Int))
  f0 : w.frozen? ⟨g, 0, none⟩ = false
  f1 : w.frozen? ⟨g, 1, none⟩ = false
theorem Two.below {w w' : World} {B g k : Nat} {h : Int} (t : Two w g h k) (hb : Below B w w') (hg : g < B) : Two w' g h k :=
  ⟨(hb.cell (p := ⟨g, 0, none⟩) hg).trans t.c0, (hb.cell (p := ⟨g, 1, none⟩) hg).trans t.c1, (hb.frozen (p := ⟨g, 0, none⟩) hg).trans t.f0, (hb.frozen (p := ⟨g, 1, none⟩) hg).trans t.f1⟩
theorem two_new (w : World) (h : Int) (k t : Nat) : Two (w.alloc (.cells #[.int .i64 h, .int .u64 (k : Int)] t)) w.heap.size h k := by
  refine ⟨?_, ?_, ?_, ?_⟩ <;> simp
theorem Two.set {w : World} {g k : Nat} {h : Int} (t : Two w g h k) (h' : Int) (k' : Nat) : Two ((w.setCell ⟨g, 0, none⟩ (.int .i64 h')).setCell ⟨g, 1, none⟩ (.int .u64 (k' : Int))) g h' k' := by
  refine ⟨?_, ?_, ?_, ?_⟩
  · exact (World.cell?_setCell_other _ _ _ _ (by simp)).trans (World.cell?_setCell_same _ _ _ t.c0)
  · exact World.cell?_setCell_same _ _ _ ((World.cell?_setCell_other _ _ _ _ (by simp)).trans t.c1)
  · exact (World.frozen?_setCell _ _ _ _).trans ((World.frozen?_setCell _ _ _ _).trans t.f0)
  · exact (World.frozen?_setCell _ _ _ _).trans ((World.frozen?_setCell _ _ _ _).trans t.f1)
/-- A block in a box that was laid behind W0. -/
structure Bx (W0 w : World) (h : Int) (k : Nat) : Prop where
  two : Two w W0.heap.size h k
  lt : W0.heap.size < w.heap.size
  below : Below W0.heap.size W0 w
theorem bx_new (W0 : World) (h : Int) (k t : Nat) : Bx W0 (W0.alloc (.cells #[.int .i64 h, .int .u64 (k : Int)] t)) h k := ⟨two_new W0 h k t, by simp, (Below.refl _ _).alloc (Nat.le_refl _) _⟩
theorem Bx.next {W0 w w' : World} {h : Int} {k : Nat} (b : Bx W0 w h k) (hb : Below w.heap.size w w') : Bx W0 w' h k := ⟨b.two.below hb b.lt, Nat.lt_of_lt_of_le b.lt hb.size, b.below.trans (hb.mono (Nat.le_of_lt b.lt))⟩
theorem Bx.set {W0 w : World} {h : Int} {k : Nat} (b : Bx W0 w h k) (h' : Int) (k' : Nat) : Bx W0 ((w.setCell ⟨W0.heap.size, 0, none⟩ (.int .i64 h')).setCell ⟨W0.heap.size, 1, none⟩ (.int .u64 (k' : Int))) h' k' :=
  ⟨b.two.set h' k', by simpa using b.lt, (b.below.setCell (p := ⟨W0.heap.size, 0, none⟩) (Nat.le_refl _) _).setCell (p := ⟨W0.heap.size, 1, none⟩) (Nat.le_refl _) _⟩
set_option maxRecDepth 100000 in
set_option maxHeartbeats 4000000 in
theorem splits_core (w : World) (ht : Tb w) (k : Int) (ao : Option Addr) (b off n cap : Nat) (L : List ByteArray) (hr : RdS w ao b off n L) (hsz : ∀ s ∈ L, s.size ≤ 140737488351232) (hn : n ≤ 300) (hc : n ≤ cap)
    (len : Nat) (HF1 : ∀ W, Calls Tryd.prog 8 #[.slice ao len cap] W fun e w' => e = .returned (.slice ao n cap) ∧ w' = W) (P : List ByteArray) (hP : Hid (pks (clk k) L 41 = P)) :
    Calls Tryd.prog 4 #[.int .i64 k, .slice ao len cap] w fun e w' => e = .returned (.bool true) ∧ Below w.heap.size w w' := by
  have HA : Hid (∀ W, Below w.heap.size w W → Calls Tryd.prog 7 #[] W fun e w' => e = .returned (.bool true) ∧ Below W.heap.size W w') := fun W hb => alive_any W (ht.next hb)
  have hb := Below.refl w.heap.size w
  have HF := hide HF1
  have HT : Hid (Tb w ∧ RdS w ao b off n L ∧ (∀ s ∈ L, s.size ≤ 140737488351232) ∧ n ≤ 300 ∧ n ≤ cap) := ⟨ht, hr, hsz, hn, hc⟩
  have HPl : Hid (P.length ≤ 41) := by show _ ≤ _; rw [← hP.out]; exact pks_len _ _ _
  have HL : Hid (L.length = n) := hr.hl
  have hn' : (n : Int) ≤ 300 := by omega
  have HPk : Hid (pks (clk k) L 41 = P) := hP
  have HS : Hid ([] ++ pks (clk k) L 41 = P) := by rw [List.nil_append]; exact hP
  clear HF1 ht hr hsz hn hc hP
  go_enter Tryd.func4, Tryd.ntmps4
  go_wp2_with (first
    | (go_at_call 7; with_reducible refine (HA.out _ hb).mono ?_; rintro e w1 ⟨rfl, hb1⟩; replace hb := bnext hb hb1; clear hb1)
    | (go_at_call 8; with_reducible refine (HF.out _).mono ?_; rintro e w2 ⟨rfl, rfl⟩))
  clear HA HF
  go_loopg [5, 6] n (fun gg v a wr => ∃ (g t : Nat) (A : List ByteArray), t ≤ n ∧ gg = n - t ∧ a = .int .i64 (t : Int) ∧ Hid (t + n % 2 ^ g = n ∧ A ++ pks (clk k) L g = P) ∧ OwnS wr w.heap.size v A ∧ Below w.heap.size w wr)
  case atStart =>
    go_light
    exact ⟨41, 0, [], Nat.zero_le _, rfl, rfl, ⟨by have := HT.out.2.2.2.1; omega, HS.out⟩, owns_nil _ _, hb⟩
  case round =>
    clear hb HS
    obtain ⟨g, t, A, htn, rfl, rfl, HE, ho, hb⟩ := hrel
    have ht0 : (0 : Int) ≤ (t : Int) := Int.natCast_nonneg _
    by_cases hlt : t < n
    · have hlt' : (t : Int) < (n : Int) := by omega
      have HX : Hid (OwnS wr w.heap.size u5 A ∧ Below w.heap.size w wr ∧ t < n) := ⟨ho, hb, hlt⟩
      clear ho hb htn hlt
      go_wp2
      go_loopg [7] 20 (fun gg hv wx => ∃ (h : Nat), h ≤ 20 ∧ gg = 20 - h ∧ hv = .int .i64 (h : Int) ∧ Hid (t + 2 ^ h ≤ n) ∧ wr = wx)
      case atStart =>
        go_light
        exact ⟨0, by omega, rfl, rfl, by show t + 2 ^ 0 ≤ n; have := HX.out.2.2; omega, rfl⟩
      case round =>
        obtain ⟨h, hh20, rfl, rfl, HH, rfl⟩ := hrel
        have hh8 : h ≤ 8 := by
          have := HH.out
          have := HT.out.2.2.2.1
          apply Nat.le_of_not_lt
          intro h9
          have := Nat.pow_le_pow_right (n := 2) (by decide) (show 9 ≤ h from h9)
          omega
        have hh0 : (0 : Int) ≤ (h : Int) := Int.natCast_nonneg _
        have hh1 : (h : Int) < 64 := by omega
        obtain ⟨q, hq⟩ : ∃ q : Nat, 2 ^ (h + 1) = q := ⟨_, rfl⟩
        have hq5 : q ≤ 600 := by rw [← hq]; have := Nat.pow_le_pow_right (n := 2) (by decide) (show h + 1 ≤ 9 by omega); omega
        have e1 : IntKind.i64.wrap (2 * (2 : Int) ^ h) = (q : Int) := by
          have : (2 * (2 : Int) ^ h) = (q : Int) := by rw [← hq, Nat.pow_succ]; push_cast; omega
          rw [this, IntKind.wrap_i64]; omega
        have e2 : IntKind.u64.wrap (h : Int) = (h : Int) := wrap_u _ (by omega) (by omega)
        have e3 : IntKind.i64.wrap ((t : Int) + (q : Int)) = (t : Int) + (q : Int) := by rw [IntKind.wrap_i64]; have := HX.out.2.2; omega
        by_cases hgo : t + q ≤ n
        · have hgo' : (t : Int) + (q : Int) ≤ (n : Int) := by omega
          have HY : Hid (t + 2 ^ (h + 1) ≤ n ∧ h ≤ 8) := ⟨by rw [hq]; exact hgo, hh8⟩
          clear HH hq hq5 hgo hh20 hh8
          go_wp2
          go_roundg (20 - (h + 1))
          case rel =>
            go_light
            exact ⟨h + 1, by have := HY.out.2; omega, rfl, by go_num, HY.out.1, rfl⟩
          case measure => go_light; have := HY.out.2; omega
        · have hgo' : ¬ ((t : Int) + (q : Int) ≤ (n : Int)) := by omega
          have hg1 : 2 ^ h ≤ n % 2 ^ g := by have := HE.out.1; have := HH.out; omega
          have hg2 : n % 2 ^ g < 2 ^ (h + 1) := by have := HE.out.1; rw [hq]; omega
          obtain ⟨hsg, hbit, hm1, hm2⟩ := top_bit hg1 hg2
          obtain ⟨hat, hge⟩ := mount_at hbit
          have hat2 : (n / 2 ^ h - 1) * 2 ^ h = t := by have := HE.out.1; omega
          obtain ⟨i, hi⟩ : ∃ i, n / 2 ^ h - 1 = i := ⟨_, rfl⟩
          rw [hi] at hat2
          have hti : t / 2 ^ h = i := by rw [← hat2]; exact Nat.mul_div_cancel _ (Nat.two_pow_pos h)
          have hin : (i + 1) * 2 ^ h ≤ n := by rw [Nat.add_mul, hat2, Nat.one_mul]; exact HH.out
          have hi3 : i ≤ t := by rw [← hti]; exact Nat.div_le_self _ _
          have e4 : (t : Int) / 2 ^ h = (i : Int) := by rw [← hti]; simp
          have e5 : IntKind.u64.wrap (i : Int) = (i : Int) := wrap_u _ (by omega) (by have := HX.out.2.2; omega)
          obtain ⟨q0, hq0⟩ : ∃ q0 : Nat, 2 ^ h = q0 := ⟨_, rfl⟩
          have hq6 : q0 ≤ 300 := by have := HH.out; rw [hq0] at this; omega
          have e6 : IntKind.i64.wrap ((2 : Int) ^ h) = (q0 : Int) := by
            have : ((2 : Int) ^ h) = (q0 : Int) := by rw [← hq0]; push_cast; rfl
            rw [this, IntKind.wrap_i64]; omega
          have e7 : IntKind.i64.wrap ((t : Int) + (q0 : Int)) = (t : Int) + (q0 : Int) := by rw [IntKind.wrap_i64]; have := HX.out.2.2; omega
          obtain ⟨d, hd⟩ : ∃ d, nd (clk k) L h i = d := ⟨_, rfl⟩
          have HNx : Hid (t + q0 ≤ n ∧ t + q0 + n % 2 ^ h = n ∧ A ++ [d] ++ pks (clk k) L h = P ∧ d.size ≤ 9223372036854775807 ∧ 1 ≤ q0) := by
            refine ⟨by rw [← hq0]; exact HH.out, by have := HE.out.1; omega, ?_, ?_, ?_⟩
            · have h3 := pks_next (c := clk k) (L := L) (g := g) (s := h) (by rw [HL.out]; exact hg1) (by rw [HL.out]; exact hg2)
              rw [HL.out, hi, hd] at h3
              rw [← HE.out.2, h3]; simp
            · rw [← hd, nd_size (clk_le k)]; have := clk_le k; omega
            · rw [← hq0]; exact Nat.two_pow_pos h
          have HTr : Hid (∀ W, Below w.heap.size w W → ∀ (j i : Nat) (r : ByteArray), j ≤ 40 → (i + 1) * 2 ^ j ≤ n → nd (clk k) L j i = r → Calls Tryd.prog 10 #[.int .i64 k, .slice ao n cap, .agg #[.int .i64 (j : Int), .int .u64 (i : Int)]] W fun e w' => e = .returned (.tuple #[.string r, .bool true]) ∧ Below W.heap.size W w') := fun W hb j i r h1 h2 h3 => by
            obtain ⟨t1, t2, t3, t4, t5⟩ := HT.out
            exact tree_yes W (t1.next hb) k ao b off n cap L (t2.next hb (Nat.le_refl _)) t3 (by omega) j i h1 h2 r h3
          have T0 := HTr.out (wr.alloc (.cells #[.int .i64 (h : Int), .int .u64 (i : Int)] 34)) (bal HX.out.2.1 _) h i d (by omega) hin hd
          have HIn : Hid ((i + 1) * 2 ^ h ≤ n ∧ h ≤ 8) := ⟨hin, hh8⟩
          have hb0 := bx_new wr (h : Int) i 34
          have HHH := HH
          go_upto_region 10 with (fail)
          clear hgo hg1 hg2 hsg hbit hm1 hm2 hat hge hat2 hi hti hin hi3 hq hq5 hq0 hq6 hd HE HH hh20 hh8 e1 e3 hgo'
          go_wp2_with (go_at_call 10; with_reducible refine T0.mono ?_; rintro e w3 ⟨rfl, hb3⟩; replace hb0 := hb0.next hb3; clear hb3)
          clear T0
          obtain ⟨W0, hW0⟩ : ∃ W0, W0 = wr := ⟨wr, rfl⟩
          subst hW0
          go_loopg [11] h (fun gg x wx => ∃ (j i' : Nat), j = gg ∧ j ≤ 8 ∧ Hid ((i' + 1) * 2 ^ j ≤ n) ∧ Bx W0 wx (j : Int) i')
          case atStart =>
            go_light
            exact ⟨h, i, rfl, HIn.out.2, HIn.out.1, hb0⟩
          case round =>
            clear hb0
            obtain ⟨j, i', hg, hj8, HJ, hbx⟩ := hrel
            subst hg
            cases j with
            | zero =>
              have hi : i' < n := by have := HJ.out; rw [Nat.pow_zero] at this; omega
              have hi' : (i' : Int) < (n : Int) := by omega
              obtain ⟨x, hx⟩ : ∃ x, nd (clk k) L 0 i' = x := ⟨_, rfl⟩
              obtain ⟨s, hs⟩ : ∃ s, L.getD i' ByteArray.empty = s := ⟨_, rfl⟩
              obtain rfl := HT.out.2.1.ptr (by omega)
              have T1 : Hid (∀ W, Below W0.heap.size W0 W → Calls Tryd.prog 10 #[.int .i64 k, .slice (some ⟨b, off, none⟩) n cap, .agg #[.int .i64 0, .int .u64 (i' : Int)]] W fun e w' => e = .returned (.tuple #[.string x, .bool true]) ∧ Below W.heap.size W w') := fun W h => HTr.out W (bnext HX.out.2.1 h) 0 i' x (by omega) HJ.out hx
              have T2 : Hid (∀ W, Below W0.heap.size W0 W → Calls Tryd.prog 12 #[.int .i64 k, .string s] W fun e w' => e = .returned (.string x) ∧ Below W.heap.size W w') := fun W h => leaf_any W (HT.out.1.next (bnext HX.out.2.1 h)) k s (by rw [← hs]; have := HT.out.2.2.1 _ (getD_mem (ss := L) (k := i') (by rw [HL.out]; exact hi)); omega) x (by rw [← hx, nd, hs])
              have HC : Hid (∀ W, Below W0.heap.size W0 W → W.cell? ⟨b, off + i', none⟩ = some (.string s)) := fun W h => by rw [← hs]; exact (HT.out.2.1.next (bnext HX.out.2.1 h) (Nat.le_refl _)).at hi
              have HO : Hid (∀ W, Below W0.heap.size W0 W → OwnS W w.heap.size u5 A) := fun W h => own_next HX.out.1 h (Nat.le_refl _)
              have hbx' : Bx W0 wr 0 i' := hbx
              have hj1 : ¬ ((0 : Int) < 0) := by decide
              have c0 := hbx'.two.c0
              have c1 := hbx'.two.c1
              clear hbx hx hs hj8 HTr HJ HIn hi
              go_wp2_with (first
                | (go_at_call 10; with_reducible refine (T1.out _ hbx'.below).mono ?_; rintro e w5 ⟨rfl, hb5⟩; replace hbx' := hbx'.next hb5; clear hb5 c0 c1 T1; have c1 := hbx'.two.c1; have ci := HC.out _ hbx'.below)
                | (go_at_call 12; with_reducible refine (T2.out _ hbx'.below).mono ?_; rintro e w5 ⟨rfl, hb5⟩; replace hbx' := hbx'.next hb5; clear hb5 c1 ci T2)
                | (at_builtin; refine wpList_append_S _ rfl _ _ rfl w.heap.size _ A rfl (own_al (HO.out _ hbx'.below) _) (some ⟨w5.heap.size, 0, none⟩) w5.heap.size 0 1 [d] rfl (rds_one w5 d HNx.out.2.2.2.1) (fun h => by cases h) ?c1 ?c2 ?_))
              case c1 =>
                have h1 := congrArg List.length HNx.out.2.2.1
                have h2 := HPl.out
                simp at h1 ⊢
                omega
              case c2 => have h1 := hbx'.below.size; have h2 := HX.out.2.1.size; simp; omega
              intro v2 w6 h6 hb6
              have HY : Hid (OwnS w6 w.heap.size v2 (A ++ [d]) ∧ Below w.heap.size w w6) := ⟨h6, (bal (bnext HX.out.2.1 hbx'.below) _).trans hb6⟩
              clear h6 hb6 hbx' HO HC
              go_wp2
              go_roundg (n - (t + q0))
              case rel =>
                go_light
                obtain ⟨k1, k2, k3, k4, k5⟩ := HNx.out
                exact ⟨h, t + q0, A ++ [d], k1, rfl, by go_num, ⟨k2, k3⟩, HY.out.1, HY.out.2⟩
              case measure => go_light; obtain ⟨k1, k2, k3, k4, k5⟩ := HNx.out; have := HX.out.2.2; omega
            | succ j =>
              have hp : 2 ^ (j + 1) = 2 * 2 ^ j := by rw [Nat.pow_succ]; omega
              have hJ := HJ.out
              have h1 : (2 * i' + 1 + 1) * 2 ^ j ≤ n := by
                rw [hp] at hJ
                rw [show 2 * i' + 1 + 1 = (i' + 1) * 2 by omega, Nat.mul_assoc]; exact hJ
              have h2 : (2 * i' + 1) * 2 ^ j ≤ n := Nat.le_trans (Nat.mul_le_mul_right _ (by omega)) h1
              have hi : i' < n := by
                have : (i' + 1) * 1 ≤ (i' + 1) * 2 ^ (j + 1) := Nat.mul_le_mul_left _ (Nat.two_pow_pos (j + 1))
                omega
              obtain ⟨p, hpp⟩ : ∃ p, 2 * i' = p := ⟨_, rfl⟩
              obtain ⟨x, hx⟩ : ∃ x, nd (clk k) L (j + 1) i' = x := ⟨_, rfl⟩
              obtain ⟨y, hy⟩ : ∃ y, nd (clk k) L j p = y := ⟨_, rfl⟩
              obtain ⟨z, hz⟩ : ∃ z, nd (clk k) L j (p + 1) = z := ⟨_, rfl⟩
              have hc := clk_le k
              have zy : y.size = clk k := by rw [← hy]; exact nd_size hc _ _ _
              have zz : z.size = clk k := by rw [← hz]; exact nd_size hc _ _ _
              have hxx : dg (clk k) (nodeT y z) = x := by rw [← hx, nd, hpp, hy, hz]
              rw [hpp] at h1 h2
              have e8 : IntKind.u64.wrap (2 * (i' : Int)) = (p : Int) := by rw [wrap_u _ (by omega) (by omega)]; omega
              have e9 : IntKind.u64.wrap ((p : Int) + 1) = (p : Int) + 1 := wrap_u _ (by omega) (by omega)
              have e10 : IntKind.i64.wrap (j : Int) = (j : Int) := by rw [IntKind.wrap_i64]; omega
              have T1 : Hid (∀ W, Below W0.heap.size W0 W → Calls Tryd.prog 10 #[.int .i64 k, .slice ao n cap, .agg #[.int .i64 ((j : Int) + 1), .int .u64 (i' : Int)]] W fun e w' => e = .returned (.tuple #[.string x, .bool true]) ∧ Below W.heap.size W w') := fun W h => HTr.out W (bnext HX.out.2.1 h) (j + 1) i' x (by omega) hJ hx
              have T2 : Hid (∀ W, Below W0.heap.size W0 W → Calls Tryd.prog 10 #[.int .i64 k, .slice ao n cap, .agg #[.int .i64 (j : Int), .int .u64 (p : Int)]] W fun e w' => e = .returned (.tuple #[.string y, .bool true]) ∧ Below W.heap.size W w') := fun W h => HTr.out W (bnext HX.out.2.1 h) j p y (by omega) h2 hy
              have T3 : Hid (∀ W, Below W0.heap.size W0 W → Calls Tryd.prog 10 #[.int .i64 k, .slice ao n cap, .agg #[.int .i64 (j : Int), .int .u64 ((p : Int) + 1)]] W fun e w' => e = .returned (.tuple #[.string z, .bool true]) ∧ Below W.heap.size W w') := fun W h => HTr.out W (bnext HX.out.2.1 h) j (p + 1) z (by omega) h1 hz
              have T4 : Hid (∀ W, Below W0.heap.size W0 W → Calls Tryd.prog 11 #[.int .i64 k, .string y, .string z] W fun e w' => e = .returned (.string x) ∧ Below W.heap.size W w') := fun W h => node_any W (HT.out.1.next (bnext HX.out.2.1 h)) k y z (by omega) (by omega) x hxx
              have HJ2 : Hid ((p + 1 + 1) * 2 ^ j ≤ n ∧ j ≤ 8) := ⟨h1, by omega⟩
              have hbx' : Bx W0 wr ((j : Int) + 1) i' := hbx
              have hj1 : (0 : Int) < (j : Int) + 1 := by omega
              have c0 := hbx'.two.c0
              have c1 := hbx'.two.c1
              clear hJ HJ h1 h2 hi hpp hx hy hz hc zy zz hxx hp hj8 hbx
              go_wp2_with (first
                | (go_at_call 10; with_reducible refine (T1.out _ hbx'.below).mono ?_; rintro e w5 ⟨rfl, hb5⟩; replace hbx' := hbx'.next hb5; clear hb5 c0 c1 T1; have c0 := hbx'.two.c0; have c1 := hbx'.two.c1)
                | (go_at_call 10; with_reducible refine (T2.out _ hbx'.below).mono ?_; rintro e w5 ⟨rfl, hb5⟩; replace hbx' := hbx'.next hb5; clear hb5 c0 c1 T2; have c0 := hbx'.two.c0; have c1 := hbx'.two.c1)
                | (go_at_call 10; with_reducible refine (T3.out _ hbx'.below).mono ?_; rintro e w5 ⟨rfl, hb5⟩; replace hbx' := hbx'.next hb5; clear hb5 c0 c1 T3; have c0 := hbx'.two.c0; have c1 := hbx'.two.c1)
                | (go_at_call 11; with_reducible refine (T4.out _ hbx'.below).mono ?_; rintro e w5 ⟨rfl, hb5⟩; replace hbx' := hbx'.next hb5; clear hb5 c0 c1 T4; have c0 := hbx'.two.c0; have c1 := hbx'.two.c1; have f0 := hbx'.two.f0; have f1 := hbx'.two.f1))
              go_roundg j
              case rel =>
                go_light
                exact ⟨j, p + 1, rfl, HJ2.out.2, HJ2.out.1, hbx'.set (j : Int) (p + 1)⟩
              case measure => go_light; omega
    · obtain rfl : t = n := by omega
      have hlt' : ¬ ((t : Int) < (t : Int)) := by omega
      have HA : Hid (A = P) := by
        obtain ⟨k1, k2⟩ := HE.out
        rw [pks_zero (by rw [HL.out]; omega), List.append_nil] at k2
        exact k2
      obtain rfl := HA.out
      have e0 : IntKind.u64.wrap (t : Int) = (t : Int) := wrap_u _ (by omega) (by omega)
      obtain ⟨t1, t2, t3, t4, t5⟩ := HT.out
      by_cases hk : k < 1 ∨ 32 < k
      · have HRo := fun W => proot_bad W k hk ao t cap t
        clear t1 t2 t3 t4 t5 HE HA HL HPl HPk ho
        rcases hk with hk | hk
        all_goals
          go_wp2_with (go_at_call 9; with_reducible refine (HRo _).mono ?_; rintro e w5 ⟨rfl, hb5⟩)
          go_ret
          exact ⟨rfl, bal (bnext hb hb5) _⟩
      · have hk1 : 1 ≤ k := by omega
        have hk2 : k ≤ 32 := by omega
        have zA : ∀ s ∈ A, s.size ≤ 140737488351232 := by rw [← HPk.out]; exact small (clk_le k)
        obtain ⟨ao5, b5, c5, rfl, r5, _, _⟩ := owns_rds ho (fun s hs => Nat.le_trans (zA s hs) (by decide))
        obtain ⟨r, hr⟩ : ∃ r, Hid (rtD (clk k) L t = r) := ⟨_, rfl⟩
        have hrr : dg (clk k) (rootT t (bagL (clk k) A)) = r := by
          rw [← hr.out, rtD, List.take_of_length_le (by rw [HL.out]; exact Nat.le_refl _), HPk.out]
        have R0 := proot_ok wr (t1.next hb) k hk1 hk2 ao b off t cap L (t2.next hb (Nat.le_refl _)) t3 (by omega) t5 t (Nat.le_refl _) r hr
        have n1 : ¬ (k < 1) := by omega
        have n2 : ¬ (32 < k) := by omega
        have HQ : Hid (Tb wr ∧ RdS wr ao b off t L ∧ (∀ s ∈ L, s.size ≤ 140737488351232) ∧ RdS wr ao5 b5 0 A.length A ∧ (∀ s ∈ A, s.size ≤ 140737488351232) ∧ Below w.heap.size w wr ∧ dg (clk k) (rootT t (bagL (clk k) A)) = r ∧ t ≤ 300) := ⟨t1.next hb, t2.next hb (Nat.le_refl _), t3, r5, zA, hb, hrr, t4⟩
        clear t1 t2 t3 t4 t5 HE HA ho hk hk1 hk2 zA r5 hb hrr hr HT
        go_upto_region 29 with (go_at_call 9; with_reducible refine R0.mono ?_; rintro e w5 ⟨rfl, hb5⟩)
        obtain ⟨W1, hW1⟩ : ∃ W1, W1 = w5.alloc (.cells #[.int .u64 (t : Int), .string r] 27) := ⟨_, rfl⟩
        have hb6 := bal hb5 (.cells #[.int .u64 (t : Int), .string r] 27)
        have hR6 := rt_new w5 t r 27
        have hl6 : w5.heap.size < (w5.alloc (.cells #[.int .u64 (t : Int), .string r] 27)).heap.size := by simp
        rw [← hW1] at hb6 hR6 hl6 ⊢
        clear hW1
        generalize w5.heap.size = B at *
        obtain ⟨q1, q2, q3, q4, q5, q6, q7, q8⟩ := HQ.out
        have HRt : Hid (∀ W, Below W1.heap.size W1 W → Rt W B t r) := fun W h => hR6.below h hl6
        have HPk2 := HPk
        clear HPk
        have HPk : Hid (∀ W, Below W1.heap.size W1 W → Calls Tryd.prog 14 #[.int .i64 k, .slice ao t cap] W fun e w' => ∃ v, e = .returned v ∧ OwnS w' W.heap.size v A ∧ Below W.heap.size W w') := fun W h => peaks_any W (q1.next (bnext hb6 h)) k ao b off t cap L (q2.next (bnext hb6 h) (Nat.le_refl _)) q3 (by omega) A HPk2
        have HZ : Hid (∀ s ∈ A, s.size ≤ 9223372036854775807) := fun s hs => Nat.le_trans (q5 s hs) (by decide)
        have hlA := HPl.out
        have HSm : Hid (∀ W, Below W1.heap.size W1 W → ∀ ao' b' cap', RdS W ao' b' 0 A.length A → Calls Tryd.prog 13 #[.slice ao' A.length cap', .slice ao5 A.length c5] W fun e w' => e = .returned (.bool true) ∧ Below W.heap.size W w') := fun W h ao' b' cap' h1 => same_any W ao' b' 0 A.length cap' A h1 ao5 b5 0 c5 (q4.next (bnext hb6 h) (Nat.le_refl _)) (by omega)
        have HRo : Hid (∀ W, Below W1.heap.size W1 W → Calls Tryd.prog 15 #[.int .i64 k, .int .u64 (t : Int), .slice ao5 A.length c5] W fun e w' => e = .returned (.string r) ∧ Below W.heap.size W w') := fun W h => root_any W (q1.next (bnext hb6 h)) k t ao5 b5 0 A.length c5 A (q4.next (bnext hb6 h) (Nat.le_refl _)) q5 (by omega) r q7
        have HBw : Hid (∀ W, Below W1.heap.size W1 W → Below w.heap.size w W) := fun W h => bnext (bnext q6 hb6) h
        clear q1 q2 q3 q4 q5 q6 q7 q8 HQ hb6 hR6 hl6 hb5 hlA R0 HPk2 HL HPl
        refine wp_region_plan (by kernel_rfl) [165, 166, 167, 168, 169, 170, 171, 172, 173, 174, 175, 176, 177, 178, 179, 180, 181, 182, 183, 184, 4] (by kernel_rfl) (planG [.int .i64 0, .bool true, .bool true, .int .i64 k, .slice ao t cap, undef, .slice ao5 A.length c5, .bool true, .bool true, .bool true, .pointer (some ⟨B, 1, none⟩), .string r, .int .i64 k, .slice ao t cap, .int .i64 (t : Int), .int .u64 (t : Int), .slice ao5 A.length c5, .string r, .bool true, .bool true, .bool true] [(5, A)]) (planG_mono _ _) ?step ?fin
        case fin =>
          intro Ax w2 hB2 hde hsi hsm hΦ
          have h6 : Ax.tmps.getD 4 undef = .bool true := hΦ 20 (by decide)
          have hr : (results Tryd.f4 Ax.tmps).run Tryd.prog w2 = .ok (.bool true) w2 := by rw [← h6]; exact results_tmp rfl _ _ _
          have HF : Hid (Ax.defers = [] ∧ Below w.heap.size w w2 ∧ (results Tryd.f4 Ax.tmps).run Tryd.prog w2 = .ok (.bool true) w2) := ⟨hde, HBw.out _ hB2, hr⟩
          clear hr hde hsm hΦ h6 hB2 hsi
          go_wp2
          exact bodyPost_ret HF.out.2.2 HF.out.1 ⟨rfl, HF.out.2.1⟩
        case step =>
          refine ⟨?_, ?_, ?_, ?_, ?_, ?_, ?_, ?_, ?_, ?_, ?_, ?_, ?_, ?_, ?_, ?_, ?_, ?_, ?_, ?_, ?_, trivial⟩
          · intro Ac Wc K hB hsm dep hK
            have t20 : Ac.tmps.getD 20 undef = .int .i64 0 := hsm 20 rfl
            show Oper.wp _ _ Ac Wc K _
            go_simp
            exact hK _ _ rfl (Below.refl _ _)
          · intro Ac Wc K hB hsm dep hK
            have t165 : Ac.tmps.getD 165 undef = .int .i64 0 := dep 0 rfl
            show Oper.wp _ _ Ac Wc K _
            go_simp
            exact hK _ _ rfl (Below.refl _ _)
          · intro Ac Wc K hB hsm dep hK
            have t166 : Ac.tmps.getD 166 undef = .bool true := dep 1 rfl
            show Oper.wp _ _ Ac Wc K _
            go_simp
            exact hK _ _ rfl (Below.refl _ _)
          · intro Ac Wc K hB hsm dep hK
            have t0 : Ac.tmps.getD 0 undef = .int .i64 k := hsm 0 rfl
            refine ⟨true, (show Ac.tmps.getD 167 undef = .bool true from dep 2 rfl), ?_⟩
            rw [if_pos rfl]
            go_simp
            exact hK _ _ rfl (Below.refl _ _)
          · intro Ac Wc K hB hsm dep hK
            have t1 : Ac.tmps.getD 1 undef = .slice ao t cap := hsm 1 rfl
            refine ⟨true, (show Ac.tmps.getD 167 undef = .bool true from dep 2 rfl), ?_⟩
            rw [if_pos rfl]
            go_simp
            exact hK _ _ rfl (Below.refl _ _)
          · intro Ac Wc K hB hsm dep hK
            have t168 : Ac.tmps.getD 168 undef = .int .i64 k := dep 3 rfl
            have t169 : Ac.tmps.getD 169 undef = .slice ao t cap := dep 4 rfl
            refine ⟨true, (show Ac.tmps.getD 167 undef = .bool true from dep 2 rfl), ?_⟩
            rw [if_pos rfl]
            go_simp
            refine (HPk.out Wc hB).mono ?_
            rintro e w' ⟨v, rfl, ho, hb⟩
            exact hK _ _ (rdl_own ho HZ.out) hb
          · intro Ac Wc K hB hsm dep hK
            have t5 : Ac.tmps.getD 5 undef = .slice ao5 A.length c5 := hsm 5 rfl
            refine ⟨true, (show Ac.tmps.getD 167 undef = .bool true from dep 2 rfl), ?_⟩
            rw [if_pos rfl]
            go_simp
            exact hK _ _ rfl (Below.refl _ _)
          · intro Ac Wc K hB hsm dep hK
            obtain ⟨ao170, b170, c170, t170, r170⟩ := (show RdL Wc (Ac.tmps.getD 170 undef) A from dep 5 rfl)
            have t171 : Ac.tmps.getD 171 undef = .slice ao5 A.length c5 := dep 6 rfl
            refine ⟨true, (show Ac.tmps.getD 167 undef = .bool true from dep 2 rfl), ?_⟩
            rw [if_pos rfl]
            go_simp
            refine (HSm.out Wc hB _ _ _ r170).mono ?_
            rintro e w' ⟨rfl, hb⟩
            exact hK _ _ rfl hb
          · intro Ac Wc K hB hsm dep hK
            have t167 : Ac.tmps.getD 167 undef = .bool true := dep 2 rfl
            have t172 : Ac.tmps.getD 172 undef = .bool true := dep 7 rfl
            show Oper.wp _ _ Ac Wc K _
            go_simp
            exact hK _ _ rfl (Below.refl _ _)
          · intro Ac Wc K hB hsm dep hK
            have t173 : Ac.tmps.getD 173 undef = .bool true := dep 8 rfl
            show Oper.wp _ _ Ac Wc K _
            go_simp
            exact hK _ _ rfl (Below.refl _ _)
          · intro Ac Wc K hB hsm dep hK
            have t19 : Ac.tmps.getD 19 undef = .pointer (some ⟨B, 0, none⟩) := hsm 19 rfl
            refine ⟨true, (show Ac.tmps.getD 174 undef = .bool true from dep 9 rfl), ?_⟩
            rw [if_pos rfl]
            go_simp
            exact hK _ _ rfl (Below.refl _ _)
          · intro Ac Wc K hB hsm dep hK
            have t175 : Ac.tmps.getD 175 undef = .pointer (some ⟨B, 1, none⟩) := dep 10 rfl
            refine ⟨true, (show Ac.tmps.getD 174 undef = .bool true from dep 9 rfl), ?_⟩
            rw [if_pos rfl]
            have c1 := (HRt.out Wc hB).c1
            go_simp
            exact hK _ _ rfl (Below.refl _ _)
          · intro Ac Wc K hB hsm dep hK
            have t0 : Ac.tmps.getD 0 undef = .int .i64 k := hsm 0 rfl
            refine ⟨true, (show Ac.tmps.getD 174 undef = .bool true from dep 9 rfl), ?_⟩
            rw [if_pos rfl]
            go_simp
            exact hK _ _ rfl (Below.refl _ _)
          · intro Ac Wc K hB hsm dep hK
            have t1 : Ac.tmps.getD 1 undef = .slice ao t cap := hsm 1 rfl
            refine ⟨true, (show Ac.tmps.getD 174 undef = .bool true from dep 9 rfl), ?_⟩
            rw [if_pos rfl]
            go_simp
            exact hK _ _ rfl (Below.refl _ _)
          · intro Ac Wc K hB hsm dep hK
            have t178 : Ac.tmps.getD 178 undef = .slice ao t cap := dep 13 rfl
            refine ⟨true, (show Ac.tmps.getD 174 undef = .bool true from dep 9 rfl), ?_⟩
            rw [if_pos rfl]
            go_simp
            exact hK _ _ rfl (Below.refl _ _)
          · intro Ac Wc K hB hsm dep hK
            have t179 : Ac.tmps.getD 179 undef = .int .i64 (t : Int) := dep 14 rfl
            refine ⟨true, (show Ac.tmps.getD 174 undef = .bool true from dep 9 rfl), ?_⟩
            rw [if_pos rfl]
            go_simp
            exact hK _ _ rfl (Below.refl _ _)
          · intro Ac Wc K hB hsm dep hK
            have t5 : Ac.tmps.getD 5 undef = .slice ao5 A.length c5 := hsm 5 rfl
            refine ⟨true, (show Ac.tmps.getD 174 undef = .bool true from dep 9 rfl), ?_⟩
            rw [if_pos rfl]
            go_simp
            exact hK _ _ rfl (Below.refl _ _)
          · intro Ac Wc K hB hsm dep hK
            have t177 : Ac.tmps.getD 177 undef = .int .i64 k := dep 12 rfl
            have t180 : Ac.tmps.getD 180 undef = .int .u64 (t : Int) := dep 15 rfl
            have t181 : Ac.tmps.getD 181 undef = .slice ao5 A.length c5 := dep 16 rfl
            refine ⟨true, (show Ac.tmps.getD 174 undef = .bool true from dep 9 rfl), ?_⟩
            rw [if_pos rfl]
            go_simp
            refine (HRo.out Wc hB).mono ?_
            rintro e w' ⟨rfl, hb⟩
            exact hK _ _ rfl hb
          · intro Ac Wc K hB hsm dep hK
            have t176 : Ac.tmps.getD 176 undef = .string r := dep 11 rfl
            have t182 : Ac.tmps.getD 182 undef = .string r := dep 17 rfl
            refine ⟨true, (show Ac.tmps.getD 174 undef = .bool true from dep 9 rfl), ?_⟩
            rw [if_pos rfl]
            go_simp
            exact hK _ _ rfl (Below.refl _ _)
          · intro Ac Wc K hB hsm dep hK
            have t174 : Ac.tmps.getD 174 undef = .bool true := dep 9 rfl
            have t183 : Ac.tmps.getD 183 undef = .bool true := dep 18 rfl
            show Oper.wp _ _ Ac Wc K _
            go_simp
            exact hK _ _ rfl (Below.refl _ _)
          · intro Ac Wc K hB hsm dep hK
            have t184 : Ac.tmps.getD 184 undef = .bool true := dep 19 rfl
            show Oper.wp _ _ Ac Wc K _
            go_simp
            exact hK _ _ rfl (Below.refl _ _)
theorem splits_row (w : World) (ht : Tb w) (k : Int) (ao : Option Addr) (b off len cap : Nat) (L : List ByteArray) (hr : RdS w ao b off len L) (hsz : ∀ s ∈ L, s.size ≤ 140737488351232) (hc : len ≤ cap) :
    Calls Tryd.prog 4 #[.int .i64 k, .slice ao len cap] w fun e w' => e = .returned (.bool true) ∧ Below w.heap.size w w' := by
  have t1 := hr.take (n := min len 300) (by omega)
  exact splits_core w ht k ao b off (min len 300) cap _ t1 (fun s hs => hsz s (List.mem_of_mem_take hs)) (by omega) (by omega) len (fun W => few_any W ao len cap hc _ rfl) _ rfl
end Go.Proofs.YtihcdmnodpknlaaDoor
