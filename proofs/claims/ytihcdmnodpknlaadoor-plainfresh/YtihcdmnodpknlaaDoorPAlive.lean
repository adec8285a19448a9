/-
  The walk of alive: the root of two items. Own work.
-/
import Derived.Test.YtihcdmnodpknlaaDoorPLaw
import Derived.Test.YtihcdmnodpknlaaDoorPlanG
namespace Go.Proofs.YtihcdmnodpknlaaDoor
open Go.RowKit
attribute [local go_sem ↓] Go.wp_at_zero Go.wp_at_succ
theorem pks_two (c : Nat) (a b : ByteArray) : pks c [a, b] 41 = [dg c (nodeT (dg c (leafT a)) (dg c (leafT b)))] := by
  have hl : [a, b].length = 2 := rfl
  rw [pks_next (g := 41) (s := 1) (L := [a, b]) (by rw [hl]; decide) (by rw [hl]; decide), pks_zero (L := [a, b]) (by rw [hl]), hl]
  rw [show 2 / 2 ^ 1 - 1 = 0 from rfl, nd, nd, nd]
  rfl
theorem rt_two (c : Nat) (a b : ByteArray) : rtD c [a, b] 2 = dg c (rootT 2 (dg c (nodeT (dg c (leafT a)) (dg c (leafT b))))) := by
  rw [rtD, show [a, b].take 2 = [a, b] from rfl, pks_two, bagL]
theorem rds_two (w : World) (s t : ByteArray) (hs : s.size ≤ 9223372036854775807) (ht : t.size ≤ 9223372036854775807) : RdS (w.alloc (.cells #[.string s, .string t] 9)) (some ⟨w.heap.size, 0, none⟩) w.heap.size 0 2 [s, t] :=
  ⟨rfl, fun _ => rfl, range_new w [.string s, .string t] 9, fun x hx => by simp at hx; rcases hx with rfl | rfl <;> assumption⟩
set_option maxRecDepth 100000 in
set_option maxHeartbeats 1000000 in
theorem alive_any (w : World) (ht : Tb w) : Calls Tryd.prog 7 #[] w fun e w' => e = .returned (.bool true) ∧ Below w.heap.size w w' := by
  obtain ⟨X, hX⟩ : ∃ X, dg (clk 8) (leafT ⟨#[97]⟩) = X := ⟨_, rfl⟩
  obtain ⟨Y, hY⟩ : ∃ Y, dg (clk 8) (leafT ⟨#[98]⟩) = Y := ⟨_, rfl⟩
  have zX : X.size ≤ 32 := by rw [← hX, dg_size (clk_le 8)]; exact clk_le 8
  have zY : Y.size ≤ 32 := by rw [← hY, dg_size (clk_le 8)]; exact clk_le 8
  obtain ⟨x, hx⟩ : ∃ x, dg (clk 8) (nodeT X Y) = x := ⟨_, rfl⟩
  have zx : x.size ≤ 32 := by rw [← hx, dg_size (clk_le 8)]; exact clk_le 8
  obtain ⟨r, hr⟩ : ∃ r, dg (clk 8) (rootT 2 x) = r := ⟨_, rfl⟩
  have H1 : Hid (∀ W, Below w.heap.size w W → Calls Tryd.prog 12 #[.int .i64 8, .string ⟨#[97]⟩] W fun e w' => e = .returned (.string X) ∧ Below W.heap.size W w') := fun W hb => leaf_any W (ht.next hb) 8 _ (by decide) _ hX
  have H2 : Hid (∀ W, Below w.heap.size w W → Calls Tryd.prog 12 #[.int .i64 8, .string ⟨#[98]⟩] W fun e w' => e = .returned (.string Y) ∧ Below W.heap.size W w') := fun W hb => leaf_any W (ht.next hb) 8 _ (by decide) _ hY
  have H3 : Hid (∀ W, Below w.heap.size w W → Calls Tryd.prog 11 #[.int .i64 8, .string X, .string Y] W fun e w' => e = .returned (.string x) ∧ Below W.heap.size W w') := fun W hb => node_any W (ht.next hb) 8 X Y (by omega) (by omega) _ hx
  have H4 : Hid (∀ W, Below w.heap.size w W → ∀ ao b cap, RdS W ao b 0 1 [x] → Calls Tryd.prog 15 #[.int .i64 8, .int .u64 2, .slice ao 1 cap] W fun e w' => e = .returned (.string r) ∧ Below W.heap.size W w') := fun W hb ao b cap h1 =>
    root_any W (ht.next hb) 8 2 ao b 0 1 cap [x] h1 (fun s hs => by simp at hs; subst hs; omega) (by decide) r hr
  have HZ : Hid (x.size ≤ 9223372036854775807) := by show _ ≤ _; omega
  have H5 : Hid (Calls Tryd.prog 9 #[.int .i64 8, .slice (some ⟨w.heap.size, 0, none⟩) 2 2, .int .u64 2] (w.alloc (.cells #[.string ⟨#[97]⟩, .string ⟨#[98]⟩] 9)) fun e w' => e = .returned (.tuple #[.agg #[.int .u64 2, .string r], .int .i64 0]) ∧ Below w.heap.size w w') := by
    refine (proot_ok (w.alloc (.cells #[.string ⟨#[97]⟩, .string ⟨#[98]⟩] 9)) (ht.next (bal (Below.refl _ _) _)) 8 (by decide) (by decide) _ w.heap.size 0 2 2 [⟨#[97]⟩, ⟨#[98]⟩] (rds_two w _ _ (by decide) (by decide)) (fun s hs => by simp at hs; rcases hs with rfl | rfl <;> decide) (by decide) (by decide) 2 (by decide) r (by show _ = _; rw [rt_two, hX, hY, hx, hr])).mono ?_
    rintro e w' ⟨rfl, hb'⟩
    exact ⟨rfl, bnext (bal (Below.refl _ _) _) hb'⟩
  clear hX hY hx hr zX zY zx ht
  go_enter Tryd.func7, Tryd.ntmps7
  go_upto_region 2 with (go_at_call 9; with_reducible refine H5.out.mono ?_; rintro e w1 ⟨rfl, hb⟩)
  have HR := rt_new w1 2 r 27
  rw [show ((2 : Nat) : Int) = 2 from rfl] at HR
  have hB := bal hb (.cells #[.int .u64 2, .string r] 27)
  have hlt : w1.heap.size < (w1.alloc (.cells #[.int .u64 2, .string r] 27)).heap.size := by simp
  clear hb H5
  generalize w1.alloc (.cells #[.int .u64 2, .string r] 27) = w2 at *
  generalize w1.heap.size = g at *
  have HK : Hid (∀ W, Below w2.heap.size w2 W → Rt W g 2 r ∧ Below w.heap.size w W) := fun W h => ⟨HR.below h hlt, bnext hB h⟩
  clear HR hB hlt
  refine wp_region_plan (by kernel_rfl) [8, 9, 10, 11, 12, 13, 14, 15, 16, 17, 18, 19, 20, 21, 22, 23, 24, 0] (by kernel_rfl) (planG [.int .i64 0, .bool true, .bool true, .pointer (some ⟨g, 0, none⟩), .int .u64 2, .bool true, .bool true, .bool true, .pointer (some ⟨g, 1, none⟩), .string r, .string X, .string Y, .string x, undef, .string r, .bool true, .bool true, .bool true] [(13, [x])]) (planG_mono _ _) ?step ?fin
  case fin =>
    intro A w2 hB2 hde hsi hsm hΦ
    have h6 : A.tmps.getD 0 undef = .bool true := hΦ 17 (by decide)
    have hr : (results Tryd.f7 A.tmps).run Tryd.prog w2 = .ok (.bool true) w2 := by rw [← h6]; exact results_tmp rfl _ _ _
    have HF : Hid (A.defers = [] ∧ Below w.heap.size w w2 ∧ (results Tryd.f7 A.tmps).run Tryd.prog w2 = .ok (.bool true) w2) := ⟨hde, (HK.out _ hB2).2, hr⟩
    clear hr hde hsm hΦ h6 hB2 hsi
    go_wp2
    exact bodyPost_ret HF.out.2.2 HF.out.1 ⟨rfl, HF.out.2.1⟩
  case step =>
    refine ⟨?_, ?_, ?_, ?_, ?_, ?_, ?_, ?_, ?_, ?_, ?_, ?_, ?_, ?_, ?_, ?_, ?_, ?_, trivial⟩
    · intro Ac Wc K hB hsm dep hK
      have t2 : Ac.tmps.getD 2 undef = .int .i64 0 := hsm 2 rfl
      show Oper.wp _ _ Ac Wc K _
      go_simp
      exact hK _ _ rfl (Below.refl _ _)
    · intro Ac Wc K hB hsm dep hK
      have t8 : Ac.tmps.getD 8 undef = .int .i64 0 := dep 0 rfl
      show Oper.wp _ _ Ac Wc K _
      go_simp
      exact hK _ _ rfl (Below.refl _ _)
    · intro Ac Wc K hB hsm dep hK
      have t9 : Ac.tmps.getD 9 undef = .bool true := dep 1 rfl
      show Oper.wp _ _ Ac Wc K _
      go_simp
      exact hK _ _ rfl (Below.refl _ _)
    · intro Ac Wc K hB hsm dep hK
      have t1 : Ac.tmps.getD 1 undef = .pointer (some ⟨g, 0, none⟩) := hsm 1 rfl
      refine ⟨true, (show Ac.tmps.getD 10 undef = .bool true from dep 2 rfl), ?_⟩
      rw [if_pos rfl]
      go_simp
      exact hK _ _ rfl (Below.refl _ _)
    · intro Ac Wc K hB hsm dep hK
      have t11 : Ac.tmps.getD 11 undef = .pointer (some ⟨g, 0, none⟩) := dep 3 rfl
      refine ⟨true, (show Ac.tmps.getD 10 undef = .bool true from dep 2 rfl), ?_⟩
      rw [if_pos rfl]
      have c0 := (HK.out Wc hB).1.c0
      rw [show ((2 : Nat) : Int) = 2 from rfl] at c0
      go_simp
      exact hK _ _ rfl (Below.refl _ _)
    · intro Ac Wc K hB hsm dep hK
      have t12 : Ac.tmps.getD 12 undef = .int .u64 2 := dep 4 rfl
      refine ⟨true, (show Ac.tmps.getD 10 undef = .bool true from dep 2 rfl), ?_⟩
      rw [if_pos rfl]
      go_simp
      exact hK _ _ rfl (Below.refl _ _)
    · intro Ac Wc K hB hsm dep hK
      have t10 : Ac.tmps.getD 10 undef = .bool true := dep 2 rfl
      have t13 : Ac.tmps.getD 13 undef = .bool true := dep 5 rfl
      show Oper.wp _ _ Ac Wc K _
      go_simp
      exact hK _ _ rfl (Below.refl _ _)
    · intro Ac Wc K hB hsm dep hK
      have t14 : Ac.tmps.getD 14 undef = .bool true := dep 6 rfl
      show Oper.wp _ _ Ac Wc K _
      go_simp
      exact hK _ _ rfl (Below.refl _ _)
    · intro Ac Wc K hB hsm dep hK
      have t1 : Ac.tmps.getD 1 undef = .pointer (some ⟨g, 0, none⟩) := hsm 1 rfl
      refine ⟨true, (show Ac.tmps.getD 15 undef = .bool true from dep 7 rfl), ?_⟩
      rw [if_pos rfl]
      go_simp
      exact hK _ _ rfl (Below.refl _ _)
    · intro Ac Wc K hB hsm dep hK
      have t16 : Ac.tmps.getD 16 undef = .pointer (some ⟨g, 1, none⟩) := dep 8 rfl
      refine ⟨true, (show Ac.tmps.getD 15 undef = .bool true from dep 7 rfl), ?_⟩
      rw [if_pos rfl]
      have c1 := (HK.out Wc hB).1.c1
      go_simp
      exact hK _ _ rfl (Below.refl _ _)
    · intro Ac Wc K hB hsm dep hK
      refine ⟨true, (show Ac.tmps.getD 15 undef = .bool true from dep 7 rfl), ?_⟩
      rw [if_pos rfl]
      go_simp
      refine (H1.out Wc (HK.out Wc hB).2).mono ?_
      rintro e w' ⟨rfl, hb⟩
      exact hK _ _ rfl hb
    · intro Ac Wc K hB hsm dep hK
      refine ⟨true, (show Ac.tmps.getD 15 undef = .bool true from dep 7 rfl), ?_⟩
      rw [if_pos rfl]
      go_simp
      refine (H2.out Wc (HK.out Wc hB).2).mono ?_
      rintro e w' ⟨rfl, hb⟩
      exact hK _ _ rfl hb
    · intro Ac Wc K hB hsm dep hK
      have t18 : Ac.tmps.getD 18 undef = .string X := dep 10 rfl
      have t19 : Ac.tmps.getD 19 undef = .string Y := dep 11 rfl
      refine ⟨true, (show Ac.tmps.getD 15 undef = .bool true from dep 7 rfl), ?_⟩
      rw [if_pos rfl]
      go_simp
      refine (H3.out Wc (HK.out Wc hB).2).mono ?_
      rintro e w' ⟨rfl, hb⟩
      exact hK _ _ rfl hb
    · intro Ac Wc K hB hsm dep hK
      have t20 : Ac.tmps.getD 20 undef = .string x := dep 12 rfl
      have u20 : Ac.tmps[20]?.getD undef = .string x := by rw [← Array.getD_eq_getD_getElem?]; exact t20
      refine ⟨true, (show Ac.tmps.getD 15 undef = .bool true from dep 7 rfl), ?_⟩
      rw [if_pos rfl]
      go_simp
      exact hK _ _ ⟨_, _, _, rfl, rds_one Wc x HZ.out⟩ ((Below.refl _ _).alloc (Nat.le_refl _) _)
    · intro Ac Wc K hB hsm dep hK
      obtain ⟨ao21, b21, c21, t21, r21⟩ := (show RdL Wc (Ac.tmps.getD 21 undef) [x] from dep 13 rfl)
      refine ⟨true, (show Ac.tmps.getD 15 undef = .bool true from dep 7 rfl), ?_⟩
      rw [if_pos rfl]
      go_simp
      refine (H4.out Wc (HK.out Wc hB).2 _ _ _ r21).mono ?_
      rintro e w' ⟨rfl, hb⟩
      exact hK _ _ rfl hb
    · intro Ac Wc K hB hsm dep hK
      have t17 : Ac.tmps.getD 17 undef = .string r := dep 9 rfl
      have t22 : Ac.tmps.getD 22 undef = .string r := dep 14 rfl
      refine ⟨true, (show Ac.tmps.getD 15 undef = .bool true from dep 7 rfl), ?_⟩
      rw [if_pos rfl]
      go_simp
      exact hK _ _ rfl (Below.refl _ _)
    · intro Ac Wc K hB hsm dep hK
      have t15 : Ac.tmps.getD 15 undef = .bool true := dep 7 rfl
      have t23 : Ac.tmps.getD 23 undef = .bool true := dep 15 rfl
      show Oper.wp _ _ Ac Wc K _
      go_simp
      exact hK _ _ rfl (Below.refl _ _)
    · intro Ac Wc K hB hsm dep hK
      have t24 : Ac.tmps.getD 24 undef = .bool true := dep 16 rfl
      show Oper.wp _ _ Ac Wc K _
      go_simp
      exact hK _ _ rfl (Below.refl _ _)
end Go.Proofs.YtihcdmnodpknlaaDoor
