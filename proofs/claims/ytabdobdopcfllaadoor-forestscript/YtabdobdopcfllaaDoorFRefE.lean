/-
  The reference's mountains; the row of all nodes tree by tree. Own work.
-/
import Derived.Test.YtabdobdopcfllaaDoorFRefB
import Derived.Test.YtabdobdopcfllaaDoorFRowS
import Derived.Test.YtabdobdopcfllaaDoorHRefB
namespace Go.Proofs.YtabdobdopcfllaaDoor.Cv
open Pl
open Go.RowKit
attribute [local go_sem ↓] Go.wp_at_zero Go.wp_at_succ
theorem pw_half (m : Nat) : pw (m + 1) / 2 = pw m := by rw [pw_succ]; omega
set_option maxHeartbeats 1000000 in
theorem rmounts_any (n : Nat) (w : World) (hn : n ≤ 2 ^ 40) :
    Calls Tryd.prog 76 #[.int .u64 (n : Int)] w fun e w' => ∃ v, e = .returned v ∧ OwnB w' w.heap.size v (zl (dnL 41 0 n)) ∧ Below w.heap.size w w' := by
  have HN : Hid (n ≤ 2 ^ 40) := hn
  clear hn
  go_enter Tryd.func76, Tryd.ntmps76
  go_wp2
  go_loopg [3, 4, 5, 6] 41 (fun g v f p h wr => ∃ (m x : Nat) (acc : List (Nat × Nat)), m ≤ 41 ∧ m = g ∧ h = .int .i64 ((m : Int) - 1) ∧ p = .int .u64 ((pw m / 2 : Nat) : Int) ∧ f = .int .u64 (x : Int) ∧ x ≤ n ∧ OwnB wr w.heap.size v (zl acc) ∧ acc ++ dnL m x n = dnL 41 0 n ∧ acc.length + m ≤ 41 ∧ Below w.heap.size w wr)
  case atStart =>
    go_light
    exact ⟨41, 0, [], by decide, rfl, rfl, rfl, rfl, Nat.zero_le _, World.ownsRow_nil _ _ _ _, rfl, by decide, Below.refl _ _⟩
  case round =>
    obtain ⟨m, x, acc, hm, rfl, rfl, rfl, rfl, hx, hown, hacc, hlen, hb⟩ := hrel
    have hn := HN.out
    by_cases hm0 : m = 0
    · subst hm0
      have ht : ¬ (0 : Int) ≤ ((0 : Nat) : Int) - 1 := by omega
      have HF : Hid (OwnB wr w.heap.size u3 (zl (dnL 41 0 n)) ∧ Below w.heap.size w wr) := ⟨by
        rw [← hacc]; simpa [dnL] using hown, hb⟩
      clear hx hown hacc hlen hb hn hm
      go_wp2
      go_ret
      exact ⟨_, rfl, HF.out⟩
    · obtain ⟨i, rfl⟩ : ∃ i, m = i + 1 := ⟨m - 1, by omega⟩
      have ei : (((i + 1 : Nat) : Int) - 1) = (i : Int) := by omega
      rw [ei, pw_half]
      have hi0 : (0 : Int) ≤ (i : Int) := Int.natCast_nonneg _
      have hi1 : (i : Int) ≤ 40 := by omega
      obtain ⟨p, hp⟩ : ∃ p, pw i = p := ⟨_, rfl⟩
      have hp40 : pw i ≤ pw 40 := pw_le (by omega)
      have e40 : pw 40 = 2 ^ 40 := rfl
      have hpp := pw_pos i
      rw [hp] at hp40 hpp ⊢
      obtain ⟨d, hd⟩ : ∃ d, n - x = d := ⟨_, rfl⟩
      have ed : IntKind.u64.wrap ((n : Int) - (x : Int)) = (d : Int) := by rw [IntKind.wrap_u64]; omega
      obtain ⟨p2, hp2⟩ : ∃ p2, p / 2 = p2 := ⟨_, rfl⟩
      have ep : IntKind.u64.wrap ((p : Int) / 2) = (p2 : Int) := by rw [IntKind.wrap_u64]; omega
      have hne : ¬ (p : Int) = 0 := by omega
      have hsz := hb.size
      by_cases hfit : p ≤ d
      · have hfi : (p : Int) ≤ (d : Int) := by omega
        obtain ⟨q, hq⟩ : ∃ q, x / pw i = q := ⟨_, rfl⟩
        have hq2 : x / p = q := by rw [← hp]; exact hq
        have hqx : q ≤ x := by rw [← hq]; exact Nat.div_le_self _ _
        have eq : (x : Int) / (p : Int) = (q : Int) := by rw [← hq2]; rfl
        have eq2 : IntKind.u64.wrap (q : Int) = (q : Int) := by rw [IntKind.wrap_u64]; omega
        have ef : IntKind.u64.wrap ((x : Int) + (p : Int)) = ((x + p : Nat) : Int) := by rw [IntKind.wrap_u64]; omega
        have hu := dn_yes (h := i) (lo := x) (hi := n) (by omega)
        rw [hq, hp] at hu
        have HX : Hid (acc ++ [(i, q)] ++ dnL i (x + p) n = dnL 41 0 n ∧ x + p ≤ n ∧ (acc ++ [(i, q)]).length + i ≤ 41 ∧ Below w.heap.size w wr ∧ w.heap.size ≤ wr.heap.size ∧ acc.length ≤ 41 ∧ pw i / 2 = p2) := by
          refine ⟨?_, by omega, by simp; omega, hb, hsz, by omega, by rw [hp, hp2]⟩
          rw [List.append_assoc, ← hacc, hu]; rfl
        clear hx hacc hlen hb hn hm hm0 hp hd hp2 hq hq2 hqx hu e40 hp40 hpp hsz hfit
        go_wp2_with (at_builtin; refine wpList_append_B _ rfl _ _ rfl w.heap.size _ (zl acc) rfl (hown.alloc _) _ [((i : Int), q)] rfl (rdc_block wr (i : Int) q 49) ?c1 ?c2 ?_)
        case c1 => have := HX.out.2.2.2.2.2.1; rw [zl_len]; simp; omega
        case c2 => have := HX.out.2.2.2.2.1; simp; omega
        intro v' w1 r1 r2 _
        have R := ownB_step HX.out.2.2.2.1 HX.out.2.2.2.2.1 hown r2
        clear r2 hown
        go_wp2
        go_roundg i
        case rel =>
          go_light
          obtain ⟨x1, x2, x3, x4, x5, x6, x7⟩ := HX.out
          refine ⟨i, x + p, acc ++ [(i, q)], by omega, rfl, by go_num, by rw [x7], by go_num, x2, ?_, x1, x3, R.1⟩
          rw [zl_app]; exact r1
        case measure => go_light; omega
      · have hfi : ¬ (p : Int) ≤ (d : Int) := by omega
        have hu := dn_no (h := i) (lo := x) (hi := n) (by omega)
        rw [hu] at hacc
        have HX : Hid (acc ++ dnL i x n = dnL 41 0 n ∧ x ≤ n ∧ acc.length + i ≤ 41 ∧ Below w.heap.size w wr ∧ pw i / 2 = p2) := ⟨hacc, hx, by omega, hb, by rw [hp, hp2]⟩
        clear hx hacc hlen hb hn hm hm0 hp hd hp2 hu e40 hp40 hpp hsz
        go_wp2
        go_roundg i
        case rel =>
          go_light
          obtain ⟨x1, x2, x3, x4, x5⟩ := HX.out
          exact ⟨i, x, acc, by omega, rfl, by go_num, by rw [x5], rfl, x2, hown, x1, x3, x4⟩
        case measure => go_light; omega
theorem rmountains_any (n : Nat) (w : World) (hn : n ≤ 2 ^ 40) :
    Calls Tryd.prog 64 #[.int .u64 (n : Int)] w fun e w' => ∃ v, e = .returned (.tuple #[v, .int .i64 0]) ∧ OwnB w' w.heap.size v (zl (dnL 41 0 n)) ∧ Below w.heap.size w w' := by
  have HM := rmounts_any n w hn
  have hd : decide ((1099511627776 : Int) < (n : Int)) = false := decide_eq_false (by omega)
  clear hn
  go_enter Tryd.func64, Tryd.ntmps64
  go_wp2_with (go_at_call 76; with_reducible refine HM.mono ?_; rintro e w1 ⟨v, rfl, ho, hb⟩)
  go_ret2
  exact ⟨_, rfl, ho, hb⟩
end Go.Proofs.YtabdobdopcfllaaDoor.Cv
namespace Go.Proofs.YtabdobdopcfllaaDoor
open Go.RowKit
open Mm (dv)
open Pl (ones pw N at' fr blk most)
attribute [local go_sem ↓] Go.wp_at_zero Go.wp_at_succ
/-- A tree's nodes, by their places. -/
def rowB (c : Nat) (L : List ByteArray) : Nat → Nat → List ByteArray
  | 0, k => [nd c L 0 k]
  | h + 1, k => rowB c L h (2 * k) ++ rowB c L h (2 * k + 1) ++ [nd c L (h + 1) k]
theorem rowB_len (c : Nat) (L : List ByteArray) : ∀ h k, (rowB c L h k).length + 1 = 2 * 2 ^ h
  | 0, k => rfl
  | h + 1, k => by
    have h1 := rowB_len c L h (2 * k)
    have h2 := rowB_len c L h (2 * k + 1)
    rw [rowB, List.length_append, List.length_append, List.length_singleton, Nat.pow_succ]
    omega
theorem rowB_size {c : Nat} (hc : c ≤ 32) (L : List ByteArray) : ∀ h k, ∀ s ∈ rowB c L h k, s.size = c
  | 0, k, s, hs => by
    rw [rowB, List.mem_singleton] at hs
    rw [hs, nd_size hc]
  | h + 1, k, s, hs => by
    rw [rowB, List.mem_append, List.mem_append, List.mem_singleton] at hs
    rcases hs with (hs | hs) | hs
    · exact rowB_size hc L h _ s hs
    · exact rowB_size hc L h _ s hs
    · rw [hs, nd_size hc]
theorem blk_tree {h k : Nat} (hk : (k + 1) * 2 ^ h ≤ 65536) : blk (at' h k) = (h, k) := by
  have hp := Nat.two_pow_pos h
  have h1 : 2 ^ h ≤ (k + 1) * 2 ^ h := Nat.le_mul_of_pos_left _ (by omega)
  have h16 : h ≤ 16 := by
    apply Nat.le_of_not_lt
    intro hlt
    have : 2 ^ 17 ≤ 2 ^ h := Nat.pow_le_pow_right (by decide) (by omega)
    omega
  refine (Pl.at_blk h k (by omega) ?_).2
  have h2 : k + 1 ≤ (k + 1) * 2 ^ h := Nat.le_mul_of_pos_right _ hp
  have h3 : 2 ^ 24 ≤ pw (40 - h) := Nat.pow_le_pow_right (by decide) (by omega)
  omega
/-- A tree's nodes stand from its first place on. -/
theorem rowB_at (c : Nat) (L : List ByteArray) : ∀ h k, (k + 1) * 2 ^ h ≤ 65536 → rowB c L h k = (List.range (2 * 2 ^ h - 1)).map fun a => nd c L (blk (fr h k + a)).1 (blk (fr h k + a)).2
  | 0, k, hk => by
    have e := Pl.at_fr 0 k
    rw [show 2 * pw 0 - 2 = 0 from rfl, Nat.add_zero] at e
    have hb := blk_tree (h := 0) hk
    rw [e] at hb
    show [nd c L 0 k] = [nd c L (blk (fr 0 k + 0)).1 (blk (fr 0 k + 0)).2]
    rw [Nat.add_zero, hb]
  | h + 1, k, hk => by
    have hp := Nat.two_pow_pos h
    have e0 : (k + 1) * 2 ^ (h + 1) = (2 * k + 1 + 1) * 2 ^ h := by rw [Nat.pow_succ, Nat.mul_comm (2 ^ h), ← Nat.mul_assoc, show (k + 1) * 2 = 2 * k + 1 + 1 by omega]
    have hk1 : (2 * k + 1) * 2 ^ h ≤ 65536 := Nat.le_trans (Nat.mul_le_mul_right _ (show 2 * k + 1 ≤ 2 * k + 1 + 1 by omega)) (by rw [e0] at hk; exact hk)
    have hkb : k < 2 ^ 63 := by
      have : k + 1 ≤ (k + 1) * 2 ^ (h + 1) := Nat.le_mul_of_pos_right _ (Nat.two_pow_pos _)
      omega
    rw [rowB, rowB_at c L h (2 * k) hk1, rowB_at c L h (2 * k + 1) (by rw [← e0]; exact hk), Pl.fr_left h k hkb, Pl.fr_right h k hkb]
    have hb := blk_tree (h := h + 1) hk
    rw [Pl.at_fr (h + 1) k] at hb
    have e1 : 2 * 2 ^ (h + 1) - 1 = (2 * 2 ^ h - 1) + (2 * 2 ^ h - 1) + 1 := by rw [Nat.pow_succ]; omega
    rw [e1, List.range_succ, List.map_append, List.range_add, List.map_append, List.map_map]
    have h2 : (List.range (2 * 2 ^ h - 1)).map ((fun a => nd c L (blk (fr (h + 1) k + a)).1 (blk (fr (h + 1) k + a)).2) ∘ fun a => 2 * 2 ^ h - 1 + a) = (List.range (2 * 2 ^ h - 1)).map fun a => nd c L (blk (fr (h + 1) k + (2 * pw h - 1) + a)).1 (blk (fr (h + 1) k + (2 * pw h - 1) + a)).2 := by
      refine List.map_congr_left fun a _ => ?_
      show nd c L (blk (fr (h + 1) k + (2 * 2 ^ h - 1 + a))).1 (blk (fr (h + 1) k + (2 * 2 ^ h - 1 + a))).2 = _
      rw [← Nat.add_assoc]
      rfl
    rw [h2, List.map_singleton, show (2 * 2 ^ h - 1) + (2 * 2 ^ h - 1) = 2 * pw (h + 1) - 2 by show _ = 2 * 2 ^ (h + 1) - 2; rw [Nat.pow_succ]; omega, hb]
/-- The trees of a list's mountains, one behind the other. -/
theorem dn_rows (c : Nat) (L : List ByteArray) (hL : L.length ≤ 65536) : ∀ (h lo : Nat), lo = L.length / 2 ^ h * 2 ^ h → N lo ≤ N L.length ∧ (Cv.dnL h lo L.length).flatMap (fun b => rowB c L b.1 b.2) = (List.range (N L.length - N lo)).map fun a => nd c L (blk (N lo + a)).1 (blk (N lo + a)).2
  | 0, lo, hlo => by
    rw [Nat.pow_zero, Nat.div_one, Nat.mul_one] at hlo
    subst hlo
    rw [Nat.sub_self]
    exact ⟨Nat.le_refl _, rfl⟩
  | h + 1, lo, hlo => by
    have hp := Nat.two_pow_pos h
    have e2 : 2 ^ (h + 1) = 2 * 2 ^ h := by rw [Nat.pow_succ, Nat.mul_comm]
    have d1 := Nat.div_add_mod L.length (2 ^ h)
    have d3 : L.length / 2 ^ (h + 1) = L.length / 2 ^ h / 2 := by rw [Nat.pow_succ, Nat.div_div_eq_div_mul]
    have m1 := Nat.mod_lt L.length hp
    rw [d3, e2] at hlo
    generalize hX : L.length / 2 ^ h = X at *
    have hlo2 : lo = (2 * (X / 2)) * 2 ^ h := by rw [hlo, Nat.mul_comm 2 (X / 2), Nat.mul_assoc]
    have e3 : 2 ^ h * X = X * 2 ^ h := Nat.mul_comm _ _
    rw [Cv.dnL, show pw h = 2 ^ h from rfl]
    by_cases hb : X % 2 = 1
    · have hX2 : X = 2 * (X / 2) + 1 := by omega
      have e4 : X * 2 ^ h = lo + 2 ^ h := by rw [hlo2]; conv => lhs; rw [hX2, Nat.add_mul, Nat.one_mul]
      have hlt : 2 ^ h ≤ L.length - lo := by omega
      have e5 : lo / 2 ^ h = 2 * (X / 2) := by rw [hlo2, Nat.mul_div_cancel _ hp]
      obtain ⟨r1, r2⟩ := dn_rows c L hL h (lo + 2 ^ h) (by rw [hX, ← e4])
      obtain ⟨k, hk⟩ : ∃ k, 2 * (X / 2) = k := ⟨_, rfl⟩
      rw [hk] at hlo2 e5
      have hk1 : (k + 1) * 2 ^ h = lo + 2 ^ h := by rw [Nat.add_mul, Nat.one_mul, ← hlo2]
      have f1 := Pl.N_fr h k (by show k * 2 ^ h < _; omega)
      have f2 := Pl.N_fr h (k + 1) (by show (k + 1) * 2 ^ h < _; omega)
      rw [show k * pw h = lo from hlo2.symm] at f1
      rw [show (k + 1) * pw h = lo + 2 ^ h from hk1] at f2
      have g1 := Pl.fr_eq h k
      have g2 := Pl.fr_eq h (k + 1)
      have g3 : ones 64 (k + 1) = ones 64 k + 1 := ones_even1 63 k (by omega)
      rw [show 2 * pw h * (k + 1) = 2 * pw h * k + 2 * 2 ^ h by rw [Nat.mul_add, Nat.mul_one]; rfl] at g2
      have g4 : N (lo + 2 ^ h) = N lo + (2 * 2 ^ h - 1) := by omega
      refine ⟨by omega, ?_⟩
      rw [if_pos hlt, List.flatMap_cons, r2, e5, rowB_at c L h k (by omega), ← f1, show N L.length - N lo = (2 * 2 ^ h - 1) + (N L.length - N (lo + 2 ^ h)) by omega, List.range_add, List.map_append, List.map_map]
      have h2 : (List.range (N L.length - N (lo + 2 ^ h))).map ((fun a => nd c L (blk (N lo + a)).1 (blk (N lo + a)).2) ∘ fun a => 2 * 2 ^ h - 1 + a) = (List.range (N L.length - N (lo + 2 ^ h))).map fun a => nd c L (blk (N (lo + 2 ^ h) + a)).1 (blk (N (lo + 2 ^ h) + a)).2 := by
        refine List.map_congr_left fun a _ => ?_
        show nd c L (blk (N lo + (2 * 2 ^ h - 1 + a))).1 (blk (N lo + (2 * 2 ^ h - 1 + a))).2 = _
        rw [g4, Nat.add_assoc]
      rw [h2]
    · have hX2 : X = 2 * (X / 2) := by omega
      have e4 : X * 2 ^ h = lo := by rw [hlo2]; conv => lhs; rw [hX2]
      have hlt : ¬ 2 ^ h ≤ L.length - lo := by omega
      obtain ⟨r1, r2⟩ := dn_rows c L hL h lo (by rw [hX, ← e4])
      rw [if_neg hlt]
      exact ⟨r1, r2⟩
theorem rows_Rw (c : Nat) (L : List ByteArray) (hL : L.length ≤ 65536) : (Cv.dnL 41 0 L.length).flatMap (fun b => rowB c L b.1 b.2) = Rw c L := by
  have h0 : 0 = L.length / 2 ^ 41 * 2 ^ 41 := by rw [Nat.div_eq_of_lt (by omega), Nat.zero_mul]
  have := (dn_rows c L hL 41 0 h0).2
  rw [this, Rw]
  have e : N 0 = 0 := by simp [N, ones]
  rw [e, Nat.sub_zero]
  refine List.map_congr_left fun a _ => ?_
  rw [Nat.zero_add]
set_option maxRecDepth 100000 in
set_option maxHeartbeats 1000000 in
theorem refrow_any (B q : Nat) (K : Int) (L : List ByteArray) (gA cA : Nat) (vs : List Value) : ∀ h : Nat, h ≤ 16 → ∀ (k : Nat) (w : World), Rf w B q K L gA cA vs → (k + 1) * 2 ^ h ≤ L.length →
    Calls Tryd.prog 75 #[.pointer (some ⟨q, 0, none⟩), .agg #[.int .i64 (h : Int), .int .u64 (k : Int)]] w fun e w' => ∃ v, e = .returned v ∧ OwnS w' w.heap.size v (rowB (clk K) L h k) ∧ Below w.heap.size w w'
  | 0, _, k, w, hF, hk => by
    have hk9 : k < 65536 := by have := hF.hn; simp at hk; omega
    obtain ⟨d, hd⟩ : ∃ d, nd (clk K) L 0 k = d := ⟨_, rfl⟩
    have HD : Hid (∀ W, Below w.heap.size w W → Calls Tryd.prog 47 #[.pointer (some ⟨q, 0, none⟩), .agg #[.int .i64 0, .int .u64 (k : Int)]] W fun e w' => e = .returned (.tuple #[.string d, .bool true]) ∧ Below W.heap.size W w') := fun W hb =>
      refdigest_any W B q K L gA cA vs (hF.next hb) ((0 : Nat) : Int) k ⟨⟨by omega, by omega⟩, by omega⟩ d true (by show _ ∧ _; rw [ff_nat _ _ _ _ hk, hd]; exact ⟨rfl, rfl⟩)
    have HZ : Hid (d.size ≤ 9223372036854775807) := by show d.size ≤ _; rw [← hd, nd_size (clk_le K)]; have := clk_le K; omega
    have hb0 := bal (Below.refl w.heap.size w) (.cells #[.int .i64 0, .int .u64 (k : Int)] 49)
    rw [rowB, hd]
    clear hF hk hd
    rw [show ((0 : Nat) : Int) = 0 from rfl]
    go_enter Tryd.func75, Tryd.ntmps75
    go_wp2_with (first
      | (go_at_call 47; with_reducible refine (HD.out _ hb0).mono ?_; rintro e w1 ⟨rfl, hb1⟩)
      | (at_builtin; refine wpList_append_S _ rfl _ _ rfl w.heap.size _ [] rfl (owns_nil _ _) (some ⟨w1.heap.size, 0, none⟩) w1.heap.size 0 1 [d] rfl (rds_one w1 d HZ.out) (fun h => by cases h) (by simp) (by have := (bnext hb0 hb1).size; simp; omega) ?_))
    intro v2 w2 ho2 hb2
    have HX : Hid (OwnS w2 w.heap.size v2 [d] ∧ Below w.heap.size w w2) := ⟨ho2, (bal (bnext hb0 hb1) _).trans hb2⟩
    clear ho2 hb2
    go_wp2
    go_ret
    exact ⟨_, rfl, HX.out.1, HX.out.2⟩
  | h + 1, hh, k, w, hF, hk => by
    have hn := hF.hn
    have e0 : (k + 1) * 2 ^ (h + 1) = (2 * k + 1 + 1) * 2 ^ h := by rw [Nat.pow_succ, Nat.mul_comm (2 ^ h), ← Nat.mul_assoc, show (k + 1) * 2 = 2 * k + 1 + 1 by omega]
    have hk2 : (2 * k + 1 + 1) * 2 ^ h ≤ L.length := by rw [← e0]; exact hk
    have hk1 : (2 * k + 1) * 2 ^ h ≤ L.length := Nat.le_trans (Nat.mul_le_mul_right _ (show 2 * k + 1 ≤ 2 * k + 1 + 1 by omega)) hk2
    have hk9 : k + 1 ≤ 65536 := Nat.le_trans (Nat.le_mul_of_pos_right _ (Nat.two_pow_pos (h + 1))) (Nat.le_trans hk hn)
    obtain ⟨d, hd⟩ : ∃ d, nd (clk K) L (h + 1) k = d := ⟨_, rfl⟩
    obtain ⟨hi, hhi⟩ : ∃ hi : Int, ((h + 1 : Nat) : Int) = hi := ⟨_, rfl⟩
    have eh : hi - 1 = (h : Int) := by omega
    have HL : Hid (∀ W, Below w.heap.size w W → Calls Tryd.prog 75 #[.pointer (some ⟨q, 0, none⟩), .agg #[.int .i64 (hi - 1), .int .u64 (2 * (k : Int))]] W fun e w' => ∃ v, e = .returned v ∧ OwnS w' W.heap.size v (rowB (clk K) L h (2 * k)) ∧ Below W.heap.size W w') := fun W hb => by
      have := refrow_any B q K L gA cA vs h (by omega) (2 * k) W (hF.next hb) hk1
      rw [eh, show 2 * (k : Int) = ((2 * k : Nat) : Int) by omega]
      exact this
    have HR : Hid (∀ W, Below w.heap.size w W → Calls Tryd.prog 75 #[.pointer (some ⟨q, 0, none⟩), .agg #[.int .i64 (hi - 1), .int .u64 (2 * (k : Int) + 1)]] W fun e w' => ∃ v, e = .returned v ∧ OwnS w' W.heap.size v (rowB (clk K) L h (2 * k + 1)) ∧ Below W.heap.size W w') := fun W hb => by
      have := refrow_any B q K L gA cA vs h (by omega) (2 * k + 1) W (hF.next hb) hk2
      rw [eh, show 2 * (k : Int) + 1 = ((2 * k + 1 : Nat) : Int) by omega]
      exact this
    have HD : Hid (∀ W, Below w.heap.size w W → Calls Tryd.prog 47 #[.pointer (some ⟨q, 0, none⟩), .agg #[.int .i64 hi, .int .u64 (k : Int)]] W fun e w' => e = .returned (.tuple #[.string d, .bool true]) ∧ Below W.heap.size W w') := fun W hb => by
      rw [← hhi]
      exact refdigest_any W B q K L gA cA vs (hF.next hb) ((h + 1 : Nat) : Int) k ⟨⟨by omega, by omega⟩, by omega⟩ d true (by show _ ∧ _; rw [ff_nat _ _ _ _ hk, hd]; exact ⟨rfl, rfl⟩)
    have HZ : Hid (d.size ≤ 9223372036854775807) := by show d.size ≤ _; rw [← hd, nd_size (clk_le K)]; have := clk_le K; omega
    have HZl : Hid (∀ k', ∀ s ∈ rowB (clk K) L h k', s.size ≤ 9223372036854775807) := fun k' s hs => by rw [rowB_size (clk_le K) L h k' s hs]; have := clk_le K; omega
    have HLn : Hid (∀ k', (rowB (clk K) L h k').length ≤ 200000) := fun k' => by
      have h1 := rowB_len (clk K) L h k'
      have h2 : 2 ^ h ≤ 2 ^ 16 := Nat.pow_le_pow_right (by decide) (by omega)
      omega
    have hb0 := bal (Below.refl w.heap.size w) (.cells #[.int .i64 hi, .int .u64 (k : Int)] 49)
    have hp1 : (1 : Int) ≤ hi := by omega
    have hp2 : hi ≤ 16 := by omega
    have hpos : decide ((0 : Int) < hi) = true := decide_eq_true (by omega)
    have hk8 : (k : Int) ≤ 65536 := by omega
    rw [hhi, rowB, hd]
    have x0 : ∀ W, Below (w.alloc (.cells #[.int .i64 hi, .int .u64 (k : Int)] 49)).heap.size (w.alloc (.cells #[.int .i64 hi, .int .u64 (k : Int)] 49)) W → W.cell? ⟨w.heap.size, 0, none⟩ = some (.int .i64 hi) ∧ W.cell? ⟨w.heap.size, 1, none⟩ = some (.int .u64 (k : Int)) := fun W h =>
      ⟨(h.cell (p := ⟨w.heap.size, 0, none⟩) (by simp)).trans (by simp), (h.cell (p := ⟨w.heap.size, 1, none⟩) (by simp)).trans (by simp)⟩
    have HX0 := hide x0
    obtain ⟨y0, y1⟩ := x0 _ (Below.refl _ _)
    clear hF hk hd hk1 hk2 e0 eh hhi hn x0
    go_enter Tryd.func75, Tryd.ntmps75
    have hz1 : (w.alloc (.cells #[.int .i64 hi, .int .u64 (k : Int)] 49)).heap.size = w.heap.size + 1 := by simp
    have HB0 := hide hb0
    have HZ1 := hide hz1
    clear hz1
    go_upto_region 4 with (first
      | (go_at_call 75; with_reducible refine (HL.out _ HB0.out).mono ?_; rintro e w1 ⟨v1, rfl, ho1, hb1⟩; obtain ⟨a1, b1, c1, rfl, r1, _, hn1⟩ := owns_rds ho1 (HZl.out _))
      | (at_builtin; refine wpList_append_S _ rfl _ _ rfl (w.heap.size + 1) _ [] rfl (owns_nil _ _) a1 b1 0 c1 (rowB (clk K) L h (2 * k)) rfl r1 hn1 (by have := HLn.out (2 * k); simp; omega) (by have := hb1.size; have := HZ1.out; omega) ?_; intro v2 w2 ho2 hb2))
    rw [List.nil_append] at ho2
    have hB2 : Below (w.alloc (.cells #[.int .i64 hi, .int .u64 (k : Int)] 49)).heap.size (w.alloc (.cells #[.int .i64 hi, .int .u64 (k : Int)] 49)) w2 := hb1.trans (by rw [HZ1.out]; exact hb2)
    obtain ⟨y2, y3⟩ := HX0.out _ hB2
    have HO2 := hide ho2
    have HB2 := hide hB2
    clear ho1 hb1 r1 hn1 ho2 hb2 hB2 y0 y1
    go_upto_region 5 with (first
      | (go_at_call 75; with_reducible refine (HR.out _ (bnext HB0.out HB2.out)).mono ?_; rintro e w3 ⟨v3, rfl, ho3, hb3⟩; obtain ⟨a3, b3, c3, rfl, r3, _, hn3⟩ := owns_rds ho3 (HZl.out _))
      | (at_builtin; refine wpList_append_S _ rfl _ _ rfl (w.heap.size + 1) _ (rowB (clk K) L h (2 * k)) rfl (own_next HO2.out hb3 (Nat.le_refl _)) a3 b3 0 c3 (rowB (clk K) L h (2 * k + 1)) rfl r3 hn3 (by have := HLn.out (2 * k); have := HLn.out (2 * k + 1); omega) (by have := hb3.size; have := HB2.out.size; have := HZ1.out; omega) ?_; intro v4 w4 ho4 hb4))
    have hB4 : Below (w.alloc (.cells #[.int .i64 hi, .int .u64 (k : Int)] 49)).heap.size (w.alloc (.cells #[.int .i64 hi, .int .u64 (k : Int)] 49)) w4 := (bnext HB2.out hb3).trans (by rw [HZ1.out]; exact hb4)
    obtain ⟨y4, y5⟩ := HX0.out _ hB4
    have HO4 := hide ho4
    have HB4 := hide hB4
    clear ho3 hb3 r3 hn3 ho4 hb4 hB4 y2 y3
    go_wp2_with (first
      | (go_at_call 47; with_reducible refine (HD.out _ (bnext HB0.out HB4.out)).mono ?_; rintro e w5 ⟨rfl, hb5⟩)
      | (at_builtin; refine wpList_append_S _ rfl _ _ rfl (w.heap.size + 1) _ (rowB (clk K) L h (2 * k) ++ rowB (clk K) L h (2 * k + 1)) rfl (own_al (own_next HO4.out hb5 (Nat.le_refl _)) _) (some ⟨w5.heap.size, 0, none⟩) w5.heap.size 0 1 [d] rfl (rds_one w5 d HZ.out) (fun h => by cases h) (by have := HLn.out (2 * k); have := HLn.out (2 * k + 1); simp; omega) (by have := hb5.size; have := HB4.out.size; have := HZ1.out; simp; omega) ?_))
    intro v6 w6 ho6 hb6
    have HX : Hid (OwnS w6 w.heap.size v6 (rowB (clk K) L h (2 * k) ++ rowB (clk K) L h (2 * k + 1) ++ [d]) ∧ Below w.heap.size w w6) := ⟨by rw [List.append_assoc]; exact own_mono ho6 (Nat.le_succ _), (bal (bnext HB0.out (bnext HB4.out hb5)) _).trans (hb6.mono (by omega))⟩
    clear ho6 hb6
    go_wp2
    go_ret
    exact ⟨_, rfl, HX.out.1, HX.out.2⟩
end Go.Proofs.YtabdobdopcfllaaDoor
