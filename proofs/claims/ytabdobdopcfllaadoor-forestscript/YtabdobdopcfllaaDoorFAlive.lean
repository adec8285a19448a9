/-
  The walk of alive: the chapter's example. Own work.
-/
import Derived.Test.YtabdobdopcfllaaDoorFWalkD
import Derived.Test.YtabdobdopcfllaaDoorPlanG
import Derived.Test.YtabdobdopcfllaaDoorPlanH
import Derived.Test.YtabdobdopcfllaaDoorPlanU
import Derived.Laws.StructEq
namespace Go.Proofs.YtabdobdopcfllaaDoor
open Go.RowKit
attribute [local go_sem ↓] Go.wp_at_zero Go.wp_at_succ
theorem num_any (w : World) (x : Int) : Calls Tryd.prog 11 #[.int .i64 x] w fun e w' => e = .returned (.int .i64 x) ∧ Below w.heap.size w w' := by
  go_enter Tryd.func11, Tryd.ntmps11
  go_wp2
  go_ret
  exact ⟨rfl, Below.refl _ _⟩
theorem fsize_b (w : World) (m : Nat) (k : Int) (L : List ByteArray) (hF : Frs w m k L) :
    Calls Tryd.prog 13 #[.pointer (some ⟨m + 1, 0, none⟩)] w fun e w' => e = .returned (.int .u64 (L.length : Int)) ∧ Below w.heap.size w w' :=
  (fsize_any w m k L hF).mono fun e w' h => ⟨h.1, by rw [h.2]; exact Below.refl _ _⟩
theorem rds_two (w : World) (s t : ByteArray) (hs : s.size ≤ 9223372036854775807) (ht : t.size ≤ 9223372036854775807) : RdS (w.alloc (.cells #[.string s, .string t] 9)) (some ⟨w.heap.size, 0, none⟩) w.heap.size 0 2 [s, t] :=
  ⟨rfl, fun _ => rfl, range_new w [.string s, .string t] 9, fun x hx => by simp at hx; rcases hx with rfl | rfl <;> assumption⟩
theorem nw_one (c : Nat) (a : ByteArray) : nw c [a] 0 = [dg c (leafT a)] := by simp [nw, nd, List.range_succ]
theorem nw_two (c : Nat) (a b : ByteArray) : nw c [a, b] 1 = [dg c (leafT b), dg c (nodeT (dg c (leafT a)) (dg c (leafT b)))] := by simp [nw, nd, List.range_succ]
theorem nw_three (c : Nat) (a b d : ByteArray) : nw c [a, b, d] 0 = [dg c (leafT d)] := by simp [nw, nd, List.range_succ]
theorem ff_in (c : Nat) (a b d : ByteArray) : ff c [a, b, d] 1 0 = some (dg c (nodeT (dg c (leafT a)) (dg c (leafT b)))) := by
  have := ff_nat c [a, b, d] 1 0 (by simp)
  simpa [nd] using this
theorem ff_out (c : Nat) (a b d : ByteArray) : ff c [a, b, d] 0 3 = none := ff_no c [a, b, d] 0 3 (by simp)
theorem pks_three (c : Nat) (a b d : ByteArray) : pks c [a, b, d] 41 = [dg c (nodeT (dg c (leafT a)) (dg c (leafT b))), dg c (leafT d)] := by
  have hl : [a, b, d].length = 3 := rfl
  rw [pks_next (g := 41) (s := 1) (L := [a, b, d]) (by rw [hl]; decide) (by rw [hl]; decide), pks_next (g := 1) (s := 0) (L := [a, b, d]) (by rw [hl]; decide) (by rw [hl]; decide), pks, hl]
  simp [nd]
set_option maxRecDepth 100000 in
set_option maxHeartbeats 4000000 in
theorem alive_any (w : World) (ht : Tb w) : Calls Tryd.prog 8 #[] w fun e w' => e = .returned (.bool true) ∧ Below w.heap.size w w' := by
  have c32 : clk 32 = 32 := rfl
  obtain ⟨A, hA⟩ : ∃ A, dg (clk 32) (leafT ⟨#[97]⟩) = A := ⟨_, rfl⟩
  obtain ⟨B, hB⟩ : ∃ B, dg (clk 32) (leafT ⟨#[98]⟩) = B := ⟨_, rfl⟩
  obtain ⟨C, hC⟩ : ∃ C, dg (clk 32) (leafT ⟨#[99]⟩) = C := ⟨_, rfl⟩
  obtain ⟨X, hX⟩ : ∃ X, dg (clk 32) (nodeT A B) = X := ⟨_, rfl⟩
  have zA : A.size = 32 := by rw [← hA, dg_size (clk_le 32)]; rfl
  have zB : B.size = 32 := by rw [← hB, dg_size (clk_le 32)]; rfl
  have zC : C.size = 32 := by rw [← hC, dg_size (clk_le 32)]; rfl
  have zX : X.size = 32 := by rw [← hX, dg_size (clk_le 32)]; rfl
  obtain ⟨r, hr⟩ : ∃ r, dg (clk 32) (rootT 3 (bagL (clk 32) [X, C])) = r := ⟨_, rfl⟩
  have H1 : Hid (∀ W, Calls Tryd.prog 10 #[.int .i64 32] W fun e w' => e = .returned (.tuple #[.pointer (some ⟨W.heap.size + 1, 0, none⟩), .int .i64 0]) ∧ Frs w' W.heap.size 32 [] ∧ Below W.heap.size W w') := fun W => fnew_ok W 32 (by decide) (by decide)
  have H2 : Hid (∀ W, Calls Tryd.prog 10 #[.int .i64 33] W fun e w' => e = .returned (.tuple #[.pointer none, .int .i64 70]) ∧ Below W.heap.size W w') := fun W => fnew_no W 33 (by decide)
  have H3 : Hid (∀ W m, Tb W → Frs W m 32 [] → Calls Tryd.prog 12 #[.pointer (some ⟨m + 1, 0, none⟩), .string ⟨#[97]⟩] W fun e w' => ∃ v, e = .returned (.tuple #[v, .int .i64 0]) ∧ Frs w' m 32 [⟨#[97]⟩] ∧ OwnS w' W.heap.size v [A] ∧ Chf m W w') := fun W m h1 h2 => by
    have := fappend_ok W h1 m 32 [] h2 ⟨#[97]⟩ (by decide) (by decide) 0 (by decide)
    rw [List.nil_append, nw_one, hA] at this
    exact this
  have H4 : Hid (∀ W m, Tb W → Frs W m 32 [⟨#[97]⟩] → Calls Tryd.prog 12 #[.pointer (some ⟨m + 1, 0, none⟩), .string ⟨#[98]⟩] W fun e w' => ∃ v, e = .returned (.tuple #[v, .int .i64 0]) ∧ Frs w' m 32 [⟨#[97]⟩, ⟨#[98]⟩] ∧ OwnS w' W.heap.size v [B, X] ∧ Chf m W w') := fun W m h1 h2 => by
    have := fappend_ok W h1 m 32 [⟨#[97]⟩] h2 ⟨#[98]⟩ (by decide) (by decide) 1 (by decide)
    rw [show [(⟨#[97]⟩ : ByteArray)] ++ [⟨#[98]⟩] = [⟨#[97]⟩, ⟨#[98]⟩] from rfl, nw_two, hA, hB, hX] at this
    exact this
  have H5 : Hid (∀ W m, Tb W → Frs W m 32 [⟨#[97]⟩, ⟨#[98]⟩] → Calls Tryd.prog 12 #[.pointer (some ⟨m + 1, 0, none⟩), .string ⟨#[99]⟩] W fun e w' => ∃ v, e = .returned (.tuple #[v, .int .i64 0]) ∧ Frs w' m 32 [⟨#[97]⟩, ⟨#[98]⟩, ⟨#[99]⟩] ∧ OwnS w' W.heap.size v [C] ∧ Chf m W w') := fun W m h1 h2 => by
    have := fappend_ok W h1 m 32 [⟨#[97]⟩, ⟨#[98]⟩] h2 ⟨#[99]⟩ (by decide) (by decide) 0 (by decide)
    rw [show [(⟨#[97]⟩ : ByteArray), ⟨#[98]⟩] ++ [⟨#[99]⟩] = [⟨#[97]⟩, ⟨#[98]⟩, ⟨#[99]⟩] from rfl, nw_three, hC] at this
    exact this
  have H6 : Hid (∀ W, Below w.heap.size w W → Calls Tryd.prog 21 #[.int .i64 32, .string A, .string B] W fun e w' => e = .returned (.string X) ∧ Below W.heap.size W w') := fun W h => node_any W (ht.next h) 32 A B (by omega) (by omega) X hX
  have H7 : Hid (∀ W, Below w.heap.size w W → Calls Tryd.prog 14 #[.int .i64 32, .string ⟨#[99]⟩] W fun e w' => e = .returned (.string C) ∧ Below W.heap.size W w') := fun W h => leaf_any W (ht.next h) 32 _ (by decide) C hC
  have H8 : Hid (∀ W m, Frs W m 32 [⟨#[97]⟩, ⟨#[98]⟩, ⟨#[99]⟩] → Calls Tryd.prog 18 #[.pointer (some ⟨m + 1, 0, none⟩), .int .u64 2] W fun e w' => e = .returned (.tuple #[.string X, .bool true]) ∧ Below W.heap.size W w') := fun W m hF =>
    fnode_any W m 32 _ hF 2 (some X) X true (by show _ = _; rw [if_pos (by decide), show Pl.blk 2 = (1, 0) from by decide]; rw [← hX, ← hA, ← hB]; exact ff_in _ _ _ _) ⟨rfl, rfl⟩
  have H9 : Hid (∀ W m, Frs W m 32 [⟨#[97]⟩, ⟨#[98]⟩, ⟨#[99]⟩] → Calls Tryd.prog 18 #[.pointer (some ⟨m + 1, 0, none⟩), .int .u64 4] W fun e w' => e = .returned (.tuple #[.string ⟨#[]⟩, .bool false]) ∧ Below W.heap.size W w') := fun W m hF =>
    fnode_any W m 32 _ hF 4 none ⟨#[]⟩ false (by show _ = _; rw [if_pos (by decide), show Pl.blk 4 = (0, 3) from by decide]; exact ff_out _ _ _ _) ⟨rfl, rfl⟩
  have H10 : Hid (∀ W m, Tb W → Frs W m 32 [⟨#[97]⟩, ⟨#[98]⟩, ⟨#[99]⟩] → Calls Tryd.prog 16 #[.pointer (some ⟨m + 1, 0, none⟩), .int .u64 3] W fun e w' => e = .returned (.tuple #[.agg #[.int .u64 3, .string r], .int .i64 0]) ∧ Below W.heap.size W w') := fun W m hT hF =>
    froot_ok W hT m 32 _ hF 3 (by decide) r (by show _ = _; rw [rtD, show [(⟨#[97]⟩ : ByteArray), ⟨#[98]⟩, ⟨#[99]⟩].take 3 = [⟨#[97]⟩, ⟨#[98]⟩, ⟨#[99]⟩] from rfl, pks_three, hA, hB, hX, hC, hr])
  have H11 : Hid (∀ W m, Frs W m 32 [⟨#[97]⟩, ⟨#[98]⟩, ⟨#[99]⟩] → Calls Tryd.prog 16 #[.pointer (some ⟨m + 1, 0, none⟩), .int .u64 4] W fun e w' => e = .returned (.tuple #[.agg #[.int .u64 0, .string ⟨#[]⟩], .int .i64 30]) ∧ Below W.heap.size W w') := fun W m hF =>
    froot_no W m 32 _ hF 4 (by decide)
  have H12 : Hid (∀ W, Below w.heap.size w W → ∀ ao b cap, RdS W ao b 0 2 [X, C] → Calls Tryd.prog 30 #[.int .i64 32, .int .u64 3, .slice ao 2 cap] W fun e w' => e = .returned (.string r) ∧ Below W.heap.size W w') := fun W hb ao b cap h1 =>
    root_any W (ht.next hb) 32 3 ao b 0 2 cap [X, C] h1 (fun s hs => by simp at hs; rcases hs with rfl | rfl <;> omega) (by decide) r hr
  have HZ : Hid ((A.size : Int) = 32 ∧ X.size ≤ 9223372036854775807 ∧ C.size ≤ 9223372036854775807) := ⟨by omega, by omega, by omega⟩
  have HT := hide ht
  clear hA hB hC hX zA zB zC zX hr ht c32
  go_enter Tryd.func8, Tryd.ntmps8
  go_upto_region 7 with (first
    | (go_at_call 10; with_reducible refine (H1.out _).mono ?_; rintro e w1 ⟨rfl, hF1, hb1⟩; have T1 := HT.out.next hb1)
    | (go_at_call 11; with_reducible refine (num_any _ 0).mono ?_; rintro e wn ⟨rfl, hbn⟩; replace hF1 := hF1.next hbn (Nat.le_refl _); replace T1 := T1.next hbn; replace hb1 := bnext hb1 hbn; clear hbn)
    | (go_at_call 12; with_reducible refine (H3.out _ _ T1 hF1).mono ?_; rintro e w2 ⟨va, rfl, hF2, ho2, hc2⟩; obtain ⟨ga, ca, rfl, hga, _⟩ := own_form ho2 (Nat.succ_pos _); have T2 := T1.chf hF1 hc2)
    | (go_at_call 12; with_reducible refine (H4.out _ _ T2 hF2).mono ?_; rintro e w3 ⟨vb, rfl, hF3, ho3, hc3⟩; obtain ⟨gb, cb, rfl, hgb, _⟩ := own_form ho3 (Nat.succ_pos _); have T3 := T2.chf hF2 hc3)
    | (go_at_call 12; with_reducible refine (H5.out _ _ T3 hF3).mono ?_; rintro e w4 ⟨vc, rfl, hF4, ho4, hc4⟩; obtain ⟨gc, cc, rfl, hgc, _⟩ := own_form ho4 (Nat.succ_pos _); have T4 := T3.chf hF3 hc4))
  have o2 : OwnS w4 _ (.slice (some ⟨ga, 0, none⟩) 1 ca) [A] := row_chf (row_chf ho2 hF2 hc3 (by decide)) hF3 hc4 (by decide)
  have o3 : OwnS w4 _ (.slice (some ⟨gb, 0, none⟩) 2 cb) [B, X] := row_chf ho3 hF3 hc4 (by decide)
  have hB4 : Below w.heap.size w w4 := ((hb1.trans hc2.below).trans hc3.below).trans hc4.below
  have HK : Hid (∀ W, Below w4.heap.size w4 W → Frs W w.heap.size 32 [⟨#[97]⟩, ⟨#[98]⟩, ⟨#[99]⟩] ∧ Below w.heap.size w W ∧ W.cell? ⟨ga, 0, none⟩ = some (.string A) ∧ W.cell? ⟨gb, 0, none⟩ = some (.string B) ∧ W.cell? ⟨gb, 1, none⟩ = some (.string X) ∧ W.cell? ⟨gc, 0, none⟩ = some (.string C)) := fun W h =>
    ⟨hF4.next h (Nat.le_refl _), bnext hB4 h, (own_cell (own_next o2 h (Nat.le_refl _)) (j := 0) (Nat.succ_pos _)).1, (own_cell (own_next o3 h (Nat.le_refl _)) (j := 0) (Nat.succ_pos _)).1, (own_cell (own_next o3 h (Nat.le_refl _)) (j := 1) (Nat.lt_succ_self _)).1, (own_cell (own_next ho4 h (Nat.le_refl _)) (j := 0) (Nat.succ_pos _)).1⟩
  clear o2 o3 hB4 ho2 ho3 ho4 hF1 hF2 hF3 hF4 hc2 hc3 hc4 T1 T2 T3 T4 hb1 H1 H3 H4 H5 hga hgb hgc
  refine wp_region_planV (by kernel_rfl) [45, 46, 47, 48, 49, 50, 51, 52, 53, 54, 55, 56, 57, 58, 59, 60, 61, 62, 63, 64, 65, 66, 67, 68, 69, 70, 71, 72, 73, 74, 75, 76, 77, 78, 79, 80, 81, 82, 83, 84, 85, 86, 87, 88, 89, 90, 91, 92, 93, 94, 95, 96, 97, 98, 99] [.int .i64 0, .int .i64 0, .bool false, .bool false, .int .i64 0, .int .i64 0, .bool false, .bool false, .bool false, .int .i64 0, .int .i64 0, .bool false, .bool false, .bool false, .slice (some ⟨ga, 0, none⟩) 1 ca, .int .i64 1, .bool false, .bool false, .bool false, .slice (some ⟨gb, 0, none⟩) 2 cb, .int .i64 2, .bool false, .bool false, .bool false, .slice (some ⟨gc, 0, none⟩) 1 cc, .int .i64 1, .bool false, .bool false, .bool false, .slice (some ⟨ga, 0, none⟩) 1 ca, .pointer (some ⟨ga, 0, none⟩), .string A, .int .i64 32, .bool false, .bool false, .bool false, .slice (some ⟨gb, 0, none⟩) 2 cb, .pointer (some ⟨gb, 1, none⟩), .string X, .slice (some ⟨ga, 0, none⟩) 1 ca, .pointer (some ⟨ga, 0, none⟩), .string A, .slice (some ⟨gb, 0, none⟩) 2 cb, .pointer (some ⟨gb, 0, none⟩), .string B, .string X, .bool false, .bool false, .bool false, .slice (some ⟨gc, 0, none⟩) 1 cc, .pointer (some ⟨gc, 0, none⟩), .string C, .string C, .bool false, .bool false] (by kernel_rfl) rfl ?step ?fin
  case step =>
    refine ⟨?_, ?_, ?_, ?_, ?_, ?_, ?_, ?_, ?_, ?_, ?_, ?_, ?_, ?_, ?_, ?_, ?_, ?_, ?_, ?_, ?_, ?_, ?_, ?_, ?_, ?_, ?_, ?_, ?_, ?_, ?_, ?_, ?_, ?_, ?_, ?_, ?_, ?_, ?_, ?_, ?_, ?_, ?_, ?_, ?_, ?_, ?_, ?_, ?_, ?_, ?_, ?_, ?_, ?_, ?_, trivial⟩
    · intro Ac Wc Kc hB hsm dep hK
      have t4 : Ac.tmps.getD 4 undef = .int .i64 0 := hsm 4 rfl
      show Oper.wp _ _ Ac Wc Kc _
      go_simp
      exact hK _ _ rfl (Below.refl _ _)
    · intro Ac Wc Kc hB hsm dep hK
      have t45 : Ac.tmps.getD 45 undef = .int .i64 0 := dep 0 rfl
      show Oper.wp _ _ Ac Wc Kc _
      go_simp
      refine (num_any Wc 0).mono ?_
      rintro e w' ⟨rfl, hb⟩
      exact hK _ _ rfl hb
    · intro Ac Wc Kc hB hsm dep hK
      have t46 : Ac.tmps.getD 46 undef = .int .i64 0 := dep 1 rfl
      show Oper.wp _ _ Ac Wc Kc _
      go_simp
      exact hK _ _ rfl (Below.refl _ _)
    · intro Ac Wc Kc hB hsm dep hK
      have t47 : Ac.tmps.getD 47 undef = .bool false := dep 2 rfl
      show Oper.wp _ _ Ac Wc Kc _
      go_simp
      exact hK _ _ rfl (Below.refl _ _)
    · intro Ac Wc Kc hB hsm dep hK
      have t6 : Ac.tmps.getD 6 undef = .int .i64 0 := hsm 6 rfl
      refine ⟨false, (show Ac.tmps.getD 48 undef = .bool false from dep 3 rfl), ?_⟩
      rw [if_pos rfl]
      go_simp
      exact hK _ _ rfl (Below.refl _ _)
    · intro Ac Wc Kc hB hsm dep hK
      have t49 : Ac.tmps.getD 49 undef = .int .i64 0 := dep 4 rfl
      refine ⟨false, (show Ac.tmps.getD 48 undef = .bool false from dep 3 rfl), ?_⟩
      rw [if_pos rfl]
      go_simp
      refine (num_any Wc 0).mono ?_
      rintro e w' ⟨rfl, hb⟩
      exact hK _ _ rfl hb
    · intro Ac Wc Kc hB hsm dep hK
      have t50 : Ac.tmps.getD 50 undef = .int .i64 0 := dep 5 rfl
      refine ⟨false, (show Ac.tmps.getD 48 undef = .bool false from dep 3 rfl), ?_⟩
      rw [if_pos rfl]
      go_simp
      exact hK _ _ rfl (Below.refl _ _)
    · intro Ac Wc Kc hB hsm dep hK
      have t48 : Ac.tmps.getD 48 undef = .bool false := dep 3 rfl
      have t51 : Ac.tmps.getD 51 undef = .bool false := dep 6 rfl
      show Oper.wp _ _ Ac Wc Kc _
      go_simp
      exact hK _ _ rfl (Below.refl _ _)
    · intro Ac Wc Kc hB hsm dep hK
      have t52 : Ac.tmps.getD 52 undef = .bool false := dep 7 rfl
      show Oper.wp _ _ Ac Wc Kc _
      go_simp
      exact hK _ _ rfl (Below.refl _ _)
    · intro Ac Wc Kc hB hsm dep hK
      have t8 : Ac.tmps.getD 8 undef = .int .i64 0 := hsm 8 rfl
      refine ⟨false, (show Ac.tmps.getD 53 undef = .bool false from dep 8 rfl), ?_⟩
      rw [if_pos rfl]
      go_simp
      exact hK _ _ rfl (Below.refl _ _)
    · intro Ac Wc Kc hB hsm dep hK
      have t54 : Ac.tmps.getD 54 undef = .int .i64 0 := dep 9 rfl
      refine ⟨false, (show Ac.tmps.getD 53 undef = .bool false from dep 8 rfl), ?_⟩
      rw [if_pos rfl]
      go_simp
      refine (num_any Wc 0).mono ?_
      rintro e w' ⟨rfl, hb⟩
      exact hK _ _ rfl hb
    · intro Ac Wc Kc hB hsm dep hK
      have t55 : Ac.tmps.getD 55 undef = .int .i64 0 := dep 10 rfl
      refine ⟨false, (show Ac.tmps.getD 53 undef = .bool false from dep 8 rfl), ?_⟩
      rw [if_pos rfl]
      go_simp
      exact hK _ _ rfl (Below.refl _ _)
    · intro Ac Wc Kc hB hsm dep hK
      have t53 : Ac.tmps.getD 53 undef = .bool false := dep 8 rfl
      have t56 : Ac.tmps.getD 56 undef = .bool false := dep 11 rfl
      show Oper.wp _ _ Ac Wc Kc _
      go_simp
      exact hK _ _ rfl (Below.refl _ _)
    · intro Ac Wc Kc hB hsm dep hK
      have t57 : Ac.tmps.getD 57 undef = .bool false := dep 12 rfl
      show Oper.wp _ _ Ac Wc Kc _
      go_simp
      exact hK _ _ rfl (Below.refl _ _)
    · intro Ac Wc Kc hB hsm dep hK
      have t3 : Ac.tmps.getD 3 undef = .slice (some ⟨ga, 0, none⟩) 1 ca := hsm 3 rfl
      refine ⟨false, (show Ac.tmps.getD 58 undef = .bool false from dep 13 rfl), ?_⟩
      rw [if_pos rfl]
      go_simp
      exact hK _ _ rfl (Below.refl _ _)
    · intro Ac Wc Kc hB hsm dep hK
      have t59 : Ac.tmps.getD 59 undef = .slice (some ⟨ga, 0, none⟩) 1 ca := dep 14 rfl
      refine ⟨false, (show Ac.tmps.getD 58 undef = .bool false from dep 13 rfl), ?_⟩
      rw [if_pos rfl]
      go_simp
      exact hK _ _ rfl (Below.refl _ _)
    · intro Ac Wc Kc hB hsm dep hK
      have t60 : Ac.tmps.getD 60 undef = .int .i64 1 := dep 15 rfl
      refine ⟨false, (show Ac.tmps.getD 58 undef = .bool false from dep 13 rfl), ?_⟩
      rw [if_pos rfl]
      go_simp
      exact hK _ _ rfl (Below.refl _ _)
    · intro Ac Wc Kc hB hsm dep hK
      have t58 : Ac.tmps.getD 58 undef = .bool false := dep 13 rfl
      have t61 : Ac.tmps.getD 61 undef = .bool false := dep 16 rfl
      show Oper.wp _ _ Ac Wc Kc _
      go_simp
      exact hK _ _ rfl (Below.refl _ _)
    · intro Ac Wc Kc hB hsm dep hK
      have t62 : Ac.tmps.getD 62 undef = .bool false := dep 17 rfl
      show Oper.wp _ _ Ac Wc Kc _
      go_simp
      exact hK _ _ rfl (Below.refl _ _)
    · intro Ac Wc Kc hB hsm dep hK
      have t5 : Ac.tmps.getD 5 undef = .slice (some ⟨gb, 0, none⟩) 2 cb := hsm 5 rfl
      refine ⟨false, (show Ac.tmps.getD 63 undef = .bool false from dep 18 rfl), ?_⟩
      rw [if_pos rfl]
      go_simp
      exact hK _ _ rfl (Below.refl _ _)
    · intro Ac Wc Kc hB hsm dep hK
      have t64 : Ac.tmps.getD 64 undef = .slice (some ⟨gb, 0, none⟩) 2 cb := dep 19 rfl
      refine ⟨false, (show Ac.tmps.getD 63 undef = .bool false from dep 18 rfl), ?_⟩
      rw [if_pos rfl]
      go_simp
      exact hK _ _ rfl (Below.refl _ _)
    · intro Ac Wc Kc hB hsm dep hK
      have t65 : Ac.tmps.getD 65 undef = .int .i64 2 := dep 20 rfl
      refine ⟨false, (show Ac.tmps.getD 63 undef = .bool false from dep 18 rfl), ?_⟩
      rw [if_pos rfl]
      go_simp
      exact hK _ _ rfl (Below.refl _ _)
    · intro Ac Wc Kc hB hsm dep hK
      have t63 : Ac.tmps.getD 63 undef = .bool false := dep 18 rfl
      have t66 : Ac.tmps.getD 66 undef = .bool false := dep 21 rfl
      show Oper.wp _ _ Ac Wc Kc _
      go_simp
      exact hK _ _ rfl (Below.refl _ _)
    · intro Ac Wc Kc hB hsm dep hK
      have t67 : Ac.tmps.getD 67 undef = .bool false := dep 22 rfl
      show Oper.wp _ _ Ac Wc Kc _
      go_simp
      exact hK _ _ rfl (Below.refl _ _)
    · intro Ac Wc Kc hB hsm dep hK
      have t7 : Ac.tmps.getD 7 undef = .slice (some ⟨gc, 0, none⟩) 1 cc := hsm 7 rfl
      refine ⟨false, (show Ac.tmps.getD 68 undef = .bool false from dep 23 rfl), ?_⟩
      rw [if_pos rfl]
      go_simp
      exact hK _ _ rfl (Below.refl _ _)
    · intro Ac Wc Kc hB hsm dep hK
      have t69 : Ac.tmps.getD 69 undef = .slice (some ⟨gc, 0, none⟩) 1 cc := dep 24 rfl
      refine ⟨false, (show Ac.tmps.getD 68 undef = .bool false from dep 23 rfl), ?_⟩
      rw [if_pos rfl]
      go_simp
      exact hK _ _ rfl (Below.refl _ _)
    · intro Ac Wc Kc hB hsm dep hK
      have t70 : Ac.tmps.getD 70 undef = .int .i64 1 := dep 25 rfl
      refine ⟨false, (show Ac.tmps.getD 68 undef = .bool false from dep 23 rfl), ?_⟩
      rw [if_pos rfl]
      go_simp
      exact hK _ _ rfl (Below.refl _ _)
    · intro Ac Wc Kc hB hsm dep hK
      have t68 : Ac.tmps.getD 68 undef = .bool false := dep 23 rfl
      have t71 : Ac.tmps.getD 71 undef = .bool false := dep 26 rfl
      show Oper.wp _ _ Ac Wc Kc _
      go_simp
      exact hK _ _ rfl (Below.refl _ _)
    · intro Ac Wc Kc hB hsm dep hK
      have t72 : Ac.tmps.getD 72 undef = .bool false := dep 27 rfl
      show Oper.wp _ _ Ac Wc Kc _
      go_simp
      exact hK _ _ rfl (Below.refl _ _)
    · intro Ac Wc Kc hB hsm dep hK
      have t3 : Ac.tmps.getD 3 undef = .slice (some ⟨ga, 0, none⟩) 1 ca := hsm 3 rfl
      refine ⟨false, (show Ac.tmps.getD 73 undef = .bool false from dep 28 rfl), ?_⟩
      rw [if_pos rfl]
      go_simp
      exact hK _ _ rfl (Below.refl _ _)
    · intro Ac Wc Kc hB hsm dep hK
      have t74 : Ac.tmps.getD 74 undef = .slice (some ⟨ga, 0, none⟩) 1 ca := dep 29 rfl
      refine ⟨false, (show Ac.tmps.getD 73 undef = .bool false from dep 28 rfl), ?_⟩
      rw [if_pos rfl]
      go_simp
      exact hK _ _ rfl (Below.refl _ _)
    · intro Ac Wc Kc hB hsm dep hK
      have t75 : Ac.tmps.getD 75 undef = .pointer (some ⟨ga, 0, none⟩) := dep 30 rfl
      refine ⟨false, (show Ac.tmps.getD 73 undef = .bool false from dep 28 rfl), ?_⟩
      rw [if_pos rfl]
      have c0 := (HK.out Wc hB).2.2.1
      go_simp
      exact hK _ _ rfl (Below.refl _ _)
    · intro Ac Wc Kc hB hsm dep hK
      have t76 : Ac.tmps.getD 76 undef = .string A := dep 31 rfl
      refine ⟨false, (show Ac.tmps.getD 73 undef = .bool false from dep 28 rfl), ?_⟩
      rw [if_pos rfl]
      have z0 := HZ.out.1
      go_simp
      exact hK _ _ rfl (Below.refl _ _)
    · intro Ac Wc Kc hB hsm dep hK
      have t77 : Ac.tmps.getD 77 undef = .int .i64 32 := dep 32 rfl
      refine ⟨false, (show Ac.tmps.getD 73 undef = .bool false from dep 28 rfl), ?_⟩
      rw [if_pos rfl]
      go_simp
      exact hK _ _ rfl (Below.refl _ _)
    · intro Ac Wc Kc hB hsm dep hK
      have t73 : Ac.tmps.getD 73 undef = .bool false := dep 28 rfl
      have t78 : Ac.tmps.getD 78 undef = .bool false := dep 33 rfl
      show Oper.wp _ _ Ac Wc Kc _
      go_simp
      exact hK _ _ rfl (Below.refl _ _)
    · intro Ac Wc Kc hB hsm dep hK
      have t79 : Ac.tmps.getD 79 undef = .bool false := dep 34 rfl
      show Oper.wp _ _ Ac Wc Kc _
      go_simp
      exact hK _ _ rfl (Below.refl _ _)
    · intro Ac Wc Kc hB hsm dep hK
      have t5 : Ac.tmps.getD 5 undef = .slice (some ⟨gb, 0, none⟩) 2 cb := hsm 5 rfl
      refine ⟨false, (show Ac.tmps.getD 80 undef = .bool false from dep 35 rfl), ?_⟩
      rw [if_pos rfl]
      go_simp
      exact hK _ _ rfl (Below.refl _ _)
    · intro Ac Wc Kc hB hsm dep hK
      have t81 : Ac.tmps.getD 81 undef = .slice (some ⟨gb, 0, none⟩) 2 cb := dep 36 rfl
      refine ⟨false, (show Ac.tmps.getD 80 undef = .bool false from dep 35 rfl), ?_⟩
      rw [if_pos rfl]
      go_simp
      exact hK _ _ rfl (Below.refl _ _)
    · intro Ac Wc Kc hB hsm dep hK
      have t82 : Ac.tmps.getD 82 undef = .pointer (some ⟨gb, 1, none⟩) := dep 37 rfl
      refine ⟨false, (show Ac.tmps.getD 80 undef = .bool false from dep 35 rfl), ?_⟩
      rw [if_pos rfl]
      have c0 := (HK.out Wc hB).2.2.2.2.1
      go_simp
      exact hK _ _ rfl (Below.refl _ _)
    · intro Ac Wc Kc hB hsm dep hK
      have t3 : Ac.tmps.getD 3 undef = .slice (some ⟨ga, 0, none⟩) 1 ca := hsm 3 rfl
      refine ⟨false, (show Ac.tmps.getD 80 undef = .bool false from dep 35 rfl), ?_⟩
      rw [if_pos rfl]
      go_simp
      exact hK _ _ rfl (Below.refl _ _)
    · intro Ac Wc Kc hB hsm dep hK
      have t84 : Ac.tmps.getD 84 undef = .slice (some ⟨ga, 0, none⟩) 1 ca := dep 39 rfl
      refine ⟨false, (show Ac.tmps.getD 80 undef = .bool false from dep 35 rfl), ?_⟩
      rw [if_pos rfl]
      go_simp
      exact hK _ _ rfl (Below.refl _ _)
    · intro Ac Wc Kc hB hsm dep hK
      have t85 : Ac.tmps.getD 85 undef = .pointer (some ⟨ga, 0, none⟩) := dep 40 rfl
      refine ⟨false, (show Ac.tmps.getD 80 undef = .bool false from dep 35 rfl), ?_⟩
      rw [if_pos rfl]
      have c0 := (HK.out Wc hB).2.2.1
      go_simp
      exact hK _ _ rfl (Below.refl _ _)
    · intro Ac Wc Kc hB hsm dep hK
      have t5 : Ac.tmps.getD 5 undef = .slice (some ⟨gb, 0, none⟩) 2 cb := hsm 5 rfl
      refine ⟨false, (show Ac.tmps.getD 80 undef = .bool false from dep 35 rfl), ?_⟩
      rw [if_pos rfl]
      go_simp
      exact hK _ _ rfl (Below.refl _ _)
    · intro Ac Wc Kc hB hsm dep hK
      have t87 : Ac.tmps.getD 87 undef = .slice (some ⟨gb, 0, none⟩) 2 cb := dep 42 rfl
      refine ⟨false, (show Ac.tmps.getD 80 undef = .bool false from dep 35 rfl), ?_⟩
      rw [if_pos rfl]
      go_simp
      exact hK _ _ rfl (Below.refl _ _)
    · intro Ac Wc Kc hB hsm dep hK
      have t88 : Ac.tmps.getD 88 undef = .pointer (some ⟨gb, 0, none⟩) := dep 43 rfl
      refine ⟨false, (show Ac.tmps.getD 80 undef = .bool false from dep 35 rfl), ?_⟩
      rw [if_pos rfl]
      have c0 := (HK.out Wc hB).2.2.2.1
      go_simp
      exact hK _ _ rfl (Below.refl _ _)
    · intro Ac Wc Kc hB hsm dep hK
      have t86 : Ac.tmps.getD 86 undef = .string A := dep 41 rfl
      have t89 : Ac.tmps.getD 89 undef = .string B := dep 44 rfl
      refine ⟨false, (show Ac.tmps.getD 80 undef = .bool false from dep 35 rfl), ?_⟩
      rw [if_pos rfl]
      go_simp
      refine (H6.out Wc (HK.out Wc hB).2.1).mono ?_
      rintro e w' ⟨rfl, hb⟩
      exact hK _ _ rfl hb
    · intro Ac Wc Kc hB hsm dep hK
      have t83 : Ac.tmps.getD 83 undef = .string X := dep 38 rfl
      have t90 : Ac.tmps.getD 90 undef = .string X := dep 45 rfl
      refine ⟨false, (show Ac.tmps.getD 80 undef = .bool false from dep 35 rfl), ?_⟩
      rw [if_pos rfl]
      go_simp
      exact hK _ _ rfl (Below.refl _ _)
    · intro Ac Wc Kc hB hsm dep hK
      have t80 : Ac.tmps.getD 80 undef = .bool false := dep 35 rfl
      have t91 : Ac.tmps.getD 91 undef = .bool false := dep 46 rfl
      show Oper.wp _ _ Ac Wc Kc _
      go_simp
      exact hK _ _ rfl (Below.refl _ _)
    · intro Ac Wc Kc hB hsm dep hK
      have t92 : Ac.tmps.getD 92 undef = .bool false := dep 47 rfl
      show Oper.wp _ _ Ac Wc Kc _
      go_simp
      exact hK _ _ rfl (Below.refl _ _)
    · intro Ac Wc Kc hB hsm dep hK
      have t7 : Ac.tmps.getD 7 undef = .slice (some ⟨gc, 0, none⟩) 1 cc := hsm 7 rfl
      refine ⟨false, (show Ac.tmps.getD 93 undef = .bool false from dep 48 rfl), ?_⟩
      rw [if_pos rfl]
      go_simp
      exact hK _ _ rfl (Below.refl _ _)
    · intro Ac Wc Kc hB hsm dep hK
      have t94 : Ac.tmps.getD 94 undef = .slice (some ⟨gc, 0, none⟩) 1 cc := dep 49 rfl
      refine ⟨false, (show Ac.tmps.getD 93 undef = .bool false from dep 48 rfl), ?_⟩
      rw [if_pos rfl]
      go_simp
      exact hK _ _ rfl (Below.refl _ _)
    · intro Ac Wc Kc hB hsm dep hK
      have t95 : Ac.tmps.getD 95 undef = .pointer (some ⟨gc, 0, none⟩) := dep 50 rfl
      refine ⟨false, (show Ac.tmps.getD 93 undef = .bool false from dep 48 rfl), ?_⟩
      rw [if_pos rfl]
      have c0 := (HK.out Wc hB).2.2.2.2.2
      go_simp
      exact hK _ _ rfl (Below.refl _ _)
    · intro Ac Wc Kc hB hsm dep hK
      refine ⟨false, (show Ac.tmps.getD 93 undef = .bool false from dep 48 rfl), ?_⟩
      rw [if_pos rfl]
      go_simp
      refine (H7.out Wc (HK.out Wc hB).2.1).mono ?_
      rintro e w' ⟨rfl, hb⟩
      exact hK _ _ rfl hb
    · intro Ac Wc Kc hB hsm dep hK
      have t96 : Ac.tmps.getD 96 undef = .string C := dep 51 rfl
      have t97 : Ac.tmps.getD 97 undef = .string C := dep 52 rfl
      refine ⟨false, (show Ac.tmps.getD 93 undef = .bool false from dep 48 rfl), ?_⟩
      rw [if_pos rfl]
      go_simp
      exact hK _ _ rfl (Below.refl _ _)
    · intro Ac Wc Kc hB hsm dep hK
      have t93 : Ac.tmps.getD 93 undef = .bool false := dep 48 rfl
      have t98 : Ac.tmps.getD 98 undef = .bool false := dep 53 rfl
      show Oper.wp _ _ Ac Wc Kc _
      go_simp
      exact hK _ _ rfl (Below.refl _ _)
  case fin =>
    intro w5 hb5
    have HK2 : Hid (∀ W, Below w5.heap.size w5 W → _) := fun W h => HK.out W (bnext hb5 h)
    clear HK hb5 H6 H7
    simp only [puts]
    go_simp
    have b0 := Below.refl w5.heap.size w5
    go_upto_region 14 with (first
      | (go_at_call 18; with_reducible refine (H8.out _ _ (HK2.out _ b0).1).mono ?_; rintro e w6 ⟨rfl, hb6⟩; replace b0 := bnext b0 hb6; clear hb6)
      | (go_at_call 18; with_reducible refine (H9.out _ _ (HK2.out _ b0).1).mono ?_; rintro e w6 ⟨rfl, hb6⟩; replace b0 := bnext b0 hb6; clear hb6)
      | (go_at_call 16; with_reducible refine (H10.out _ _ (HT.out.next (HK2.out _ b0).2.1) (HK2.out _ b0).1).mono ?_; rintro e w7 ⟨rfl, hb7⟩; replace b0 := bnext b0 hb7; clear hb7)
      | (go_at_call 16; with_reducible refine (H11.out _ _ (HK2.out _ (bal b0 _)).1).mono ?_; rintro e w8 ⟨rfl, hb8⟩)
      | (go_at_call 10; with_reducible refine (H2.out _).mono ?_; rintro e w9 ⟨rfl, hb9⟩))
    have HR := rt_new w7 3 r 41
    rw [show ((3 : Nat) : Int) = 3 from rfl] at HR
    have hz7 : w7.heap.size < (w7.alloc (.cells #[.int .u64 3, .string r] 41)).heap.size := by simp
    have b8 := bnext (bal (Below.refl w7.heap.size w7) (.cells #[.int .u64 3, .string r] 41)) hb8
    have HR9 : Rt w9 w7.heap.size 3 r := (HR.below hb8 hz7).below (bnext (bal (Below.refl _ _) _) hb9) (Nat.lt_of_lt_of_le hz7 hb8.size)
    have hB9 : Below w5.heap.size w5 w9 := bnext b0 (bnext (bnext (bal (Below.refl _ _) (.cells #[.int .u64 3, .string r] 41)) hb8) (bnext (bal (Below.refl _ _) _) hb9))
    have HG : Hid (∀ W, Below w9.heap.size w9 W → Rt W w7.heap.size 3 r ∧ Frs W w.heap.size 32 [⟨#[97]⟩, ⟨#[98]⟩, ⟨#[99]⟩] ∧ Below w.heap.size w W ∧ W.cell? ⟨gb, 1, none⟩ = some (.string X) ∧ W.cell? ⟨gc, 0, none⟩ = some (.string C)) := fun W h => by
      have h2 := HK2.out W (bnext hB9 h)
      exact ⟨HR9.below h (World.block_lt_of_cell? w9 _ HR9.c0), h2.1, h2.2.1, h2.2.2.2.2.1, h2.2.2.2.2.2⟩
    clear HR hz7 b8 HR9 hB9 b0 hb8 hb9 HK2 H2 H8 H9 H10 H11
    refine wp_region_plan (by kernel_rfl) [124, 125, 126, 127, 128, 129, 130, 131, 132, 133, 134, 135, 136, 137, 138, 139, 140, 141, 142, 143, 144, 145, 146, 147, 148, 149, 150, 151, 152, 153, 154, 155, 156, 157, 158, 159, 160, 161, 162, 163, 164, 165, 166, 167, 168, 169, 170, 171, 172, 0] (by kernel_rfl) (planG [.bool true, .bool true, .string X, .slice (some ⟨gb, 0, none⟩) 2 cb, .pointer (some ⟨gb, 1, none⟩), .string X, .bool true, .bool true, .bool true, .bool false, .bool true, .bool true, .bool true, .int .i64 0, .int .i64 0, .bool true, .bool true, .bool true, .agg #[.int .u64 3, .string r], .slice (some ⟨gb, 0, none⟩) 2 cb, .pointer (some ⟨gb, 1, none⟩), .string X, .slice (some ⟨gc, 0, none⟩) 1 cc, .pointer (some ⟨gc, 0, none⟩), .string C, undef, .string r, .agg #[.int .u64 3, .string r], .bool true, .bool true, .bool true, .int .i64 30, .int .i64 30, .bool true, .bool true, .bool true, .pointer none, .bool true, .bool true, .bool true, .int .i64 70, .int .i64 70, .bool true, .bool true, .bool true, .pointer (some ⟨w.heap.size + 1, 0, none⟩), .int .u64 3, .bool true, .bool true, .bool true] [(25, [X, C])]) (planG_mono _ _) ?step ?fin
    case fin =>
      intro Ax w2 hB2 hde hsi hsm hΦ
      have h6 : Ax.tmps.getD 0 undef = .bool true := hΦ 49 (by decide)
      have hr : (results Tryd.f8 Ax.tmps).run Tryd.prog w2 = .ok (.bool true) w2 := by rw [← h6]; exact results_tmp rfl _ _ _
      have HF : Hid (Ax.defers = [] ∧ Below w.heap.size w w2 ∧ (results Tryd.f8 Ax.tmps).run Tryd.prog w2 = .ok (.bool true) w2) := ⟨hde, (HG.out _ hB2).2.2.1, hr⟩
      clear hr hde hsm hΦ h6 hB2 hsi
      go_wp2
      exact bodyPost_ret HF.out.2.2 HF.out.1 ⟨rfl, HF.out.2.1⟩
    case step =>
      refine ⟨?_, ?_, ?_, ?_, ?_, ?_, ?_, ?_, ?_, ?_, ?_, ?_, ?_, ?_, ?_, ?_, ?_, ?_, ?_, ?_, ?_, ?_, ?_, ?_, ?_, ?_, ?_, ?_, ?_, ?_, ?_, ?_, ?_, ?_, ?_, ?_, ?_, ?_, ?_, ?_, ?_, ?_, ?_, ?_, ?_, ?_, ?_, ?_, ?_, ?_, trivial⟩
      · intro Ac Wc Kc hB hsm dep hK
        have t10 : Ac.tmps.getD 10 undef = .bool true := hsm 10 rfl
        show Oper.wp _ _ Ac Wc Kc _
        go_simp
        exact hK _ _ rfl (Below.refl _ _)
      · intro Ac Wc Kc hB hsm dep hK
        have t124 : Ac.tmps.getD 124 undef = .bool true := dep 0 rfl
        show Oper.wp _ _ Ac Wc Kc _
        go_simp
        exact hK _ _ rfl (Below.refl _ _)
      · intro Ac Wc Kc hB hsm dep hK
        have t9 : Ac.tmps.getD 9 undef = .string X := hsm 9 rfl
        refine ⟨true, (show Ac.tmps.getD 125 undef = .bool true from dep 1 rfl), ?_⟩
        rw [if_pos rfl]
        go_simp
        exact hK _ _ rfl (Below.refl _ _)
      · intro Ac Wc Kc hB hsm dep hK
        have t5 : Ac.tmps.getD 5 undef = .slice (some ⟨gb, 0, none⟩) 2 cb := hsm 5 rfl
        refine ⟨true, (show Ac.tmps.getD 125 undef = .bool true from dep 1 rfl), ?_⟩
        rw [if_pos rfl]
        go_simp
        exact hK _ _ rfl (Below.refl _ _)
      · intro Ac Wc Kc hB hsm dep hK
        have t127 : Ac.tmps.getD 127 undef = .slice (some ⟨gb, 0, none⟩) 2 cb := dep 3 rfl
        refine ⟨true, (show Ac.tmps.getD 125 undef = .bool true from dep 1 rfl), ?_⟩
        rw [if_pos rfl]
        go_simp
        exact hK _ _ rfl (Below.refl _ _)
      · intro Ac Wc Kc hB hsm dep hK
        have t128 : Ac.tmps.getD 128 undef = .pointer (some ⟨gb, 1, none⟩) := dep 4 rfl
        refine ⟨true, (show Ac.tmps.getD 125 undef = .bool true from dep 1 rfl), ?_⟩
        rw [if_pos rfl]
        have c0 := (HG.out Wc hB).2.2.2.1
        go_simp
        exact hK _ _ rfl (Below.refl _ _)
      · intro Ac Wc Kc hB hsm dep hK
        have t126 : Ac.tmps.getD 126 undef = .string X := dep 2 rfl
        have t129 : Ac.tmps.getD 129 undef = .string X := dep 5 rfl
        refine ⟨true, (show Ac.tmps.getD 125 undef = .bool true from dep 1 rfl), ?_⟩
        rw [if_pos rfl]
        go_simp
        exact hK _ _ rfl (Below.refl _ _)
      · intro Ac Wc Kc hB hsm dep hK
        have t125 : Ac.tmps.getD 125 undef = .bool true := dep 1 rfl
        have t130 : Ac.tmps.getD 130 undef = .bool true := dep 6 rfl
        show Oper.wp _ _ Ac Wc Kc _
        go_simp
        exact hK _ _ rfl (Below.refl _ _)
      · intro Ac Wc Kc hB hsm dep hK
        have t131 : Ac.tmps.getD 131 undef = .bool true := dep 7 rfl
        show Oper.wp _ _ Ac Wc Kc _
        go_simp
        exact hK _ _ rfl (Below.refl _ _)
      · intro Ac Wc Kc hB hsm dep hK
        have t12 : Ac.tmps.getD 12 undef = .bool false := hsm 12 rfl
        refine ⟨true, (show Ac.tmps.getD 132 undef = .bool true from dep 8 rfl), ?_⟩
        rw [if_pos rfl]
        go_simp
        exact hK _ _ rfl (Below.refl _ _)
      · intro Ac Wc Kc hB hsm dep hK
        have t133 : Ac.tmps.getD 133 undef = .bool false := dep 9 rfl
        refine ⟨true, (show Ac.tmps.getD 132 undef = .bool true from dep 8 rfl), ?_⟩
        rw [if_pos rfl]
        go_simp
        exact hK _ _ rfl (Below.refl _ _)
      · intro Ac Wc Kc hB hsm dep hK
        have t132 : Ac.tmps.getD 132 undef = .bool true := dep 8 rfl
        have t134 : Ac.tmps.getD 134 undef = .bool true := dep 10 rfl
        show Oper.wp _ _ Ac Wc Kc _
        go_simp
        exact hK _ _ rfl (Below.refl _ _)
      · intro Ac Wc Kc hB hsm dep hK
        have t135 : Ac.tmps.getD 135 undef = .bool true := dep 11 rfl
        show Oper.wp _ _ Ac Wc Kc _
        go_simp
        exact hK _ _ rfl (Below.refl _ _)
      · intro Ac Wc Kc hB hsm dep hK
        have t14 : Ac.tmps.getD 14 undef = .int .i64 0 := hsm 14 rfl
        refine ⟨true, (show Ac.tmps.getD 136 undef = .bool true from dep 12 rfl), ?_⟩
        rw [if_pos rfl]
        go_simp
        exact hK _ _ rfl (Below.refl _ _)
      · intro Ac Wc Kc hB hsm dep hK
        have t137 : Ac.tmps.getD 137 undef = .int .i64 0 := dep 13 rfl
        refine ⟨true, (show Ac.tmps.getD 136 undef = .bool true from dep 12 rfl), ?_⟩
        rw [if_pos rfl]
        go_simp
        refine (num_any Wc 0).mono ?_
        rintro e w' ⟨rfl, hb⟩
        exact hK _ _ rfl hb
      · intro Ac Wc Kc hB hsm dep hK
        have t138 : Ac.tmps.getD 138 undef = .int .i64 0 := dep 14 rfl
        refine ⟨true, (show Ac.tmps.getD 136 undef = .bool true from dep 12 rfl), ?_⟩
        rw [if_pos rfl]
        go_simp
        exact hK _ _ rfl (Below.refl _ _)
      · intro Ac Wc Kc hB hsm dep hK
        have t136 : Ac.tmps.getD 136 undef = .bool true := dep 12 rfl
        have t139 : Ac.tmps.getD 139 undef = .bool true := dep 15 rfl
        show Oper.wp _ _ Ac Wc Kc _
        go_simp
        exact hK _ _ rfl (Below.refl _ _)
      · intro Ac Wc Kc hB hsm dep hK
        have t140 : Ac.tmps.getD 140 undef = .bool true := dep 16 rfl
        show Oper.wp _ _ Ac Wc Kc _
        go_simp
        exact hK _ _ rfl (Below.refl _ _)
      · intro Ac Wc Kc hB hsm dep hK
        have t13 : Ac.tmps.getD 13 undef = .pointer (some ⟨w7.heap.size, 0, none⟩) := hsm 13 rfl
        refine ⟨true, (show Ac.tmps.getD 141 undef = .bool true from dep 17 rfl), ?_⟩
        rw [if_pos rfl]
        have c0 := (HG.out Wc hB).1.c0
        have c1 := (HG.out Wc hB).1.c1
        rw [show ((3 : Nat) : Int) = 3 from rfl] at c0
        go_simp
        exact hK _ _ rfl (Below.refl _ _)
      · intro Ac Wc Kc hB hsm dep hK
        have t5 : Ac.tmps.getD 5 undef = .slice (some ⟨gb, 0, none⟩) 2 cb := hsm 5 rfl
        refine ⟨true, (show Ac.tmps.getD 141 undef = .bool true from dep 17 rfl), ?_⟩
        rw [if_pos rfl]
        go_simp
        exact hK _ _ rfl (Below.refl _ _)
      · intro Ac Wc Kc hB hsm dep hK
        have t143 : Ac.tmps.getD 143 undef = .slice (some ⟨gb, 0, none⟩) 2 cb := dep 19 rfl
        refine ⟨true, (show Ac.tmps.getD 141 undef = .bool true from dep 17 rfl), ?_⟩
        rw [if_pos rfl]
        go_simp
        exact hK _ _ rfl (Below.refl _ _)
      · intro Ac Wc Kc hB hsm dep hK
        have t144 : Ac.tmps.getD 144 undef = .pointer (some ⟨gb, 1, none⟩) := dep 20 rfl
        refine ⟨true, (show Ac.tmps.getD 141 undef = .bool true from dep 17 rfl), ?_⟩
        rw [if_pos rfl]
        have c0 := (HG.out Wc hB).2.2.2.1
        go_simp
        exact hK _ _ rfl (Below.refl _ _)
      · intro Ac Wc Kc hB hsm dep hK
        have t7 : Ac.tmps.getD 7 undef = .slice (some ⟨gc, 0, none⟩) 1 cc := hsm 7 rfl
        refine ⟨true, (show Ac.tmps.getD 141 undef = .bool true from dep 17 rfl), ?_⟩
        rw [if_pos rfl]
        go_simp
        exact hK _ _ rfl (Below.refl _ _)
      · intro Ac Wc Kc hB hsm dep hK
        have t146 : Ac.tmps.getD 146 undef = .slice (some ⟨gc, 0, none⟩) 1 cc := dep 22 rfl
        refine ⟨true, (show Ac.tmps.getD 141 undef = .bool true from dep 17 rfl), ?_⟩
        rw [if_pos rfl]
        go_simp
        exact hK _ _ rfl (Below.refl _ _)
      · intro Ac Wc Kc hB hsm dep hK
        have t147 : Ac.tmps.getD 147 undef = .pointer (some ⟨gc, 0, none⟩) := dep 23 rfl
        refine ⟨true, (show Ac.tmps.getD 141 undef = .bool true from dep 17 rfl), ?_⟩
        rw [if_pos rfl]
        have c0 := (HG.out Wc hB).2.2.2.2
        go_simp
        exact hK _ _ rfl (Below.refl _ _)
      · intro Ac Wc Kc hB hsm dep hK
        have t145 : Ac.tmps.getD 145 undef = .string X := dep 21 rfl
        have u145 : Ac.tmps[145]?.getD undef = .string X := by rw [← Array.getD_eq_getD_getElem?]; exact t145
        have t148 : Ac.tmps.getD 148 undef = .string C := dep 24 rfl
        have u148 : Ac.tmps[148]?.getD undef = .string C := by rw [← Array.getD_eq_getD_getElem?]; exact t148
        refine ⟨true, (show Ac.tmps.getD 141 undef = .bool true from dep 17 rfl), ?_⟩
        rw [if_pos rfl]
        go_simp
        exact hK _ _ ⟨_, _, _, rfl, rds_two Wc X C HZ.out.2.1 HZ.out.2.2⟩ ((Below.refl _ _).alloc (Nat.le_refl _) _)
      · intro Ac Wc Kc hB hsm dep hK
        obtain ⟨ao149, b149, c149, t149, r149⟩ := (show RdL Wc (Ac.tmps.getD 149 undef) [X, C] from dep 25 rfl)
        refine ⟨true, (show Ac.tmps.getD 141 undef = .bool true from dep 17 rfl), ?_⟩
        rw [if_pos rfl]
        go_simp
        refine (H12.out Wc (HG.out Wc hB).2.2.1 _ _ _ r149).mono ?_
        rintro e w' ⟨rfl, hb⟩
        exact hK _ _ rfl hb
      · intro Ac Wc Kc hB hsm dep hK
        have t150 : Ac.tmps.getD 150 undef = .string r := dep 26 rfl
        have u150 : Ac.tmps[150]?.getD undef = .string r := by rw [← Array.getD_eq_getD_getElem?]; exact t150
        refine ⟨true, (show Ac.tmps.getD 141 undef = .bool true from dep 17 rfl), ?_⟩
        rw [if_pos rfl]
        go_simp
        exact hK _ _ rfl (Below.refl _ _)
      · intro Ac Wc Kc hB hsm dep hK
        have t142 : Ac.tmps.getD 142 undef = .agg #[.int .u64 3, .string r] := dep 18 rfl
        have t151 : Ac.tmps.getD 151 undef = .agg #[.int .u64 3, .string r] := dep 27 rfl
        refine ⟨true, (show Ac.tmps.getD 141 undef = .bool true from dep 17 rfl), ?_⟩
        rw [if_pos rfl]
        go_simp
        exact hK _ _ rfl (Below.refl _ _)
      · intro Ac Wc Kc hB hsm dep hK
        have t141 : Ac.tmps.getD 141 undef = .bool true := dep 17 rfl
        have t152 : Ac.tmps.getD 152 undef = .bool true := dep 28 rfl
        show Oper.wp _ _ Ac Wc Kc _
        go_simp
        exact hK _ _ rfl (Below.refl _ _)
      · intro Ac Wc Kc hB hsm dep hK
        have t153 : Ac.tmps.getD 153 undef = .bool true := dep 29 rfl
        show Oper.wp _ _ Ac Wc Kc _
        go_simp
        exact hK _ _ rfl (Below.refl _ _)
      · intro Ac Wc Kc hB hsm dep hK
        have t16 : Ac.tmps.getD 16 undef = .int .i64 30 := hsm 16 rfl
        refine ⟨true, (show Ac.tmps.getD 154 undef = .bool true from dep 30 rfl), ?_⟩
        rw [if_pos rfl]
        go_simp
        exact hK _ _ rfl (Below.refl _ _)
      · intro Ac Wc Kc hB hsm dep hK
        have t155 : Ac.tmps.getD 155 undef = .int .i64 30 := dep 31 rfl
        refine ⟨true, (show Ac.tmps.getD 154 undef = .bool true from dep 30 rfl), ?_⟩
        rw [if_pos rfl]
        go_simp
        refine (num_any Wc 30).mono ?_
        rintro e w' ⟨rfl, hb⟩
        exact hK _ _ rfl hb
      · intro Ac Wc Kc hB hsm dep hK
        have t156 : Ac.tmps.getD 156 undef = .int .i64 30 := dep 32 rfl
        refine ⟨true, (show Ac.tmps.getD 154 undef = .bool true from dep 30 rfl), ?_⟩
        rw [if_pos rfl]
        go_simp
        exact hK _ _ rfl (Below.refl _ _)
      · intro Ac Wc Kc hB hsm dep hK
        have t154 : Ac.tmps.getD 154 undef = .bool true := dep 30 rfl
        have t157 : Ac.tmps.getD 157 undef = .bool true := dep 33 rfl
        show Oper.wp _ _ Ac Wc Kc _
        go_simp
        exact hK _ _ rfl (Below.refl _ _)
      · intro Ac Wc Kc hB hsm dep hK
        have t158 : Ac.tmps.getD 158 undef = .bool true := dep 34 rfl
        show Oper.wp _ _ Ac Wc Kc _
        go_simp
        exact hK _ _ rfl (Below.refl _ _)
      · intro Ac Wc Kc hB hsm dep hK
        have t17 : Ac.tmps.getD 17 undef = .pointer none := hsm 17 rfl
        refine ⟨true, (show Ac.tmps.getD 159 undef = .bool true from dep 35 rfl), ?_⟩
        rw [if_pos rfl]
        go_simp
        exact hK _ _ rfl (Below.refl _ _)
      · intro Ac Wc Kc hB hsm dep hK
        have t160 : Ac.tmps.getD 160 undef = .pointer none := dep 36 rfl
        refine ⟨true, (show Ac.tmps.getD 159 undef = .bool true from dep 35 rfl), ?_⟩
        rw [if_pos rfl]
        go_simp
        exact hK _ _ rfl (Below.refl _ _)
      · intro Ac Wc Kc hB hsm dep hK
        have t159 : Ac.tmps.getD 159 undef = .bool true := dep 35 rfl
        have t161 : Ac.tmps.getD 161 undef = .bool true := dep 37 rfl
        show Oper.wp _ _ Ac Wc Kc _
        go_simp
        exact hK _ _ rfl (Below.refl _ _)
      · intro Ac Wc Kc hB hsm dep hK
        have t162 : Ac.tmps.getD 162 undef = .bool true := dep 38 rfl
        show Oper.wp _ _ Ac Wc Kc _
        go_simp
        exact hK _ _ rfl (Below.refl _ _)
      · intro Ac Wc Kc hB hsm dep hK
        have t18 : Ac.tmps.getD 18 undef = .int .i64 70 := hsm 18 rfl
        refine ⟨true, (show Ac.tmps.getD 163 undef = .bool true from dep 39 rfl), ?_⟩
        rw [if_pos rfl]
        go_simp
        exact hK _ _ rfl (Below.refl _ _)
      · intro Ac Wc Kc hB hsm dep hK
        have t164 : Ac.tmps.getD 164 undef = .int .i64 70 := dep 40 rfl
        refine ⟨true, (show Ac.tmps.getD 163 undef = .bool true from dep 39 rfl), ?_⟩
        rw [if_pos rfl]
        go_simp
        refine (num_any Wc 70).mono ?_
        rintro e w' ⟨rfl, hb⟩
        exact hK _ _ rfl hb
      · intro Ac Wc Kc hB hsm dep hK
        have t165 : Ac.tmps.getD 165 undef = .int .i64 70 := dep 41 rfl
        refine ⟨true, (show Ac.tmps.getD 163 undef = .bool true from dep 39 rfl), ?_⟩
        rw [if_pos rfl]
        go_simp
        exact hK _ _ rfl (Below.refl _ _)
      · intro Ac Wc Kc hB hsm dep hK
        have t163 : Ac.tmps.getD 163 undef = .bool true := dep 39 rfl
        have t166 : Ac.tmps.getD 166 undef = .bool true := dep 42 rfl
        show Oper.wp _ _ Ac Wc Kc _
        go_simp
        exact hK _ _ rfl (Below.refl _ _)
      · intro Ac Wc Kc hB hsm dep hK
        have t167 : Ac.tmps.getD 167 undef = .bool true := dep 43 rfl
        show Oper.wp _ _ Ac Wc Kc _
        go_simp
        exact hK _ _ rfl (Below.refl _ _)
      · intro Ac Wc Kc hB hsm dep hK
        have t1 : Ac.tmps.getD 1 undef = .pointer (some ⟨w.heap.size + 1, 0, none⟩) := hsm 1 rfl
        refine ⟨true, (show Ac.tmps.getD 168 undef = .bool true from dep 44 rfl), ?_⟩
        rw [if_pos rfl]
        go_simp
        exact hK _ _ rfl (Below.refl _ _)
      · intro Ac Wc Kc hB hsm dep hK
        have t169 : Ac.tmps.getD 169 undef = .pointer (some ⟨w.heap.size + 1, 0, none⟩) := dep 45 rfl
        refine ⟨true, (show Ac.tmps.getD 168 undef = .bool true from dep 44 rfl), ?_⟩
        rw [if_pos rfl]
        go_simp
        refine (fsize_b Wc _ 32 _ (HG.out Wc hB).2.1).mono ?_
        rintro e w' ⟨rfl, hb⟩
        exact hK _ _ rfl hb
      · intro Ac Wc Kc hB hsm dep hK
        have t170 : Ac.tmps.getD 170 undef = .int .u64 3 := dep 46 rfl
        refine ⟨true, (show Ac.tmps.getD 168 undef = .bool true from dep 44 rfl), ?_⟩
        rw [if_pos rfl]
        go_simp
        exact hK _ _ rfl (Below.refl _ _)
      · intro Ac Wc Kc hB hsm dep hK
        have t168 : Ac.tmps.getD 168 undef = .bool true := dep 44 rfl
        have t171 : Ac.tmps.getD 171 undef = .bool true := dep 47 rfl
        show Oper.wp _ _ Ac Wc Kc _
        go_simp
        exact hK _ _ rfl (Below.refl _ _)
      · intro Ac Wc Kc hB hsm dep hK
        have t172 : Ac.tmps.getD 172 undef = .bool true := dep 48 rfl
        show Oper.wp _ _ Ac Wc Kc _
        go_simp
        exact hK _ _ rfl (Below.refl _ _)
end Go.Proofs.YtabdobdopcfllaaDoor
