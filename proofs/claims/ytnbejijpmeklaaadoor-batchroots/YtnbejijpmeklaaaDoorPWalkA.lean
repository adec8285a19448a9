/-
  Walks of package plain: blocks, node, Tree. Own work.
-/
import Derived.Test.YtnbejijpmeklaaaDoorPSpec
import Derived.Test.YtnbejijpmeklaaaDoorHList
import Derived.BigQuiet
namespace Go.Proofs.YtnbejijpmeklaaaDoor
open Go.RowKit
attribute [local go_sem ↓] Go.wp_at_zero Go.wp_at_succ
theorem wrap_u (x : Int) (h0 : 0 ≤ x) (h1 : x < 18446744073709551616) : IntKind.u64.wrap x = x := by
  simp [IntKind.wrap, IntKind.signed, IntKind.bits]; omega
set_option maxRecDepth 100000 in
theorem blocks_any (w : World) (ao : Option Addr) (len cap h : Nat) (hh : h ≤ 40) (hm : len ≤ 8796093022208) (m : Nat) (hq : len / 2 ^ h = m) :
    Calls Tryd.prog 40 #[.slice ao len cap, .int .i64 (h : Int)] w fun e w' => e = .returned (.int .u64 (m : Int)) ∧ w' = w := by
  have h0 : (0 : Int) ≤ (h : Int) := by omega
  have h1 : (h : Int) < 64 := by omega
  have e0 : IntKind.u64.wrap (len : Int) = (len : Int) := wrap_u _ (by omega) (by omega)
  have e1 : (len : Int) / 2 ^ h = (m : Int) := by rw [← hq]; simp
  clear hm hh hq
  go_enter Tryd.func40, Tryd.ntmps40
  go_wp2
  go_ret
  exact ⟨rfl, rfl⟩
set_option maxRecDepth 100000 in
theorem pnode_any (k : Int) (ao : Option Addr) (b off len cap : Nat) (L : List ByteArray) (hsz : ∀ s ∈ L, s.size ≤ 140737488351232) (hmx : len ≤ 8796093022208) : ∀ h : Nat, h ≤ 40 → ∀ (i : Nat) (w : World) (r : ByteArray), Tb w → RdS w ao b off len L → (i + 1) * 2 ^ h ≤ len → nd (clk k) L h i = r →
    Calls Tryd.prog 41 #[.int .i64 k, .slice ao len cap, .agg #[.int .i64 (h : Int), .int .u64 (i : Int)]] w fun e w' => e = .returned (.string r) ∧ Below w.heap.size w w' := by
  intro h
  induction h with
  | zero =>
    intro _ i w r ht hr hw hq
    rw [Nat.pow_zero, Nat.mul_one] at hw
    have hi : (i : Int) < (len : Int) := by omega
    have hi0 : (0 : Int) ≤ (i : Int) := by omega
    obtain rfl := hr.ptr (by omega)
    have HL : Hid (∀ W, Below w.heap.size w W → Calls Tryd.prog 51 #[.int .i64 k, .string (L.getD i ByteArray.empty)] W fun e w' => e = .returned (.string r) ∧ Below W.heap.size W w') := fun W hb => leaf_any W (ht.next hb) k _ (Nat.lt_of_le_of_lt (hsz _ (getD_mem (by rw [hr.hl]; omega))) (by decide)) r hq
    have hb := Below.refl w.heap.size w
    have ci := fun o => ((hr.next (bal hb o) (Nat.le_refl _)).at (k := i) (by omega))
    generalize L.getD i ByteArray.empty = s at *
    rw [show ((0 : Nat) : Int) = 0 from rfl]
    clear hq ht hr hw hmx hsz
    go_enter Tryd.func41, Tryd.ntmps41
    go_wp2_with (go_at_call 51; with_reducible refine (HL.out _ (bal hb _)).mono ?_; rintro e w1 ⟨rfl, hb1⟩)
    go_ret
    exact ⟨rfl, bnext (bal hb _) hb1⟩
  | succ h ih =>
    intro hh i w r ht hr hw hq
    have hp : 2 ^ (h + 1) = 2 * 2 ^ h := by rw [Nat.pow_succ]; omega
    have h1 : (2 * i + 1 + 1) * 2 ^ h ≤ len := by
      rw [hp] at hw
      rw [show 2 * i + 1 + 1 = (i + 1) * 2 by omega, Nat.mul_assoc]; exact hw
    have h2 : (2 * i + 1) * 2 ^ h ≤ len := Nat.le_trans (Nat.mul_le_mul_right _ (by omega)) h1
    have hi : i < len := by
      have := Nat.two_pow_pos (h + 1)
      have : (i + 1) * 1 ≤ (i + 1) * 2 ^ (h + 1) := Nat.mul_le_mul_left _ this
      omega
    obtain ⟨x, hx⟩ : ∃ x, nd (clk k) L h (2 * i) = x := ⟨_, rfl⟩
    obtain ⟨y, hy⟩ : ∃ y, nd (clk k) L h (2 * i + 1) = y := ⟨_, rfl⟩
    have zx := nd_size (clk_le k) L h (2 * i)
    have zy := nd_size (clk_le k) L h (2 * i + 1)
    have hc := clk_le k
    rw [nd, hx, hy] at hq
    rw [hx] at zx
    rw [hy] at zy
    obtain ⟨j, hj⟩ : ∃ j, 2 * i = j := ⟨_, rfl⟩
    have e1 : IntKind.u64.wrap (2 * (i : Int)) = (j : Int) := by rw [wrap_u _ (by omega) (by omega)]; omega
    have e2 : IntKind.u64.wrap ((j : Int) + 1) = ((j : Int) + 1) := wrap_u _ (by omega) (by omega)
    have e3 : IntKind.i64.wrap (h : Int) = (h : Int) := by simp [IntKind.wrap, IntKind.signed, IntKind.bits]; omega
    rw [hj] at h1 h2 hx hy
    have H1 : Hid (∀ W, Below w.heap.size w W → Calls Tryd.prog 41 #[.int .i64 k, .slice ao len cap, .agg #[.int .i64 (h : Int), .int .u64 (j : Int)]] W fun e w' => e = .returned (.string x) ∧ Below W.heap.size W w') := fun W hb => ih (by omega) j W x (ht.next hb) (hr.next hb (Nat.le_refl _)) h2 hx
    have H2 : Hid (∀ W, Below w.heap.size w W → Calls Tryd.prog 41 #[.int .i64 k, .slice ao len cap, .agg #[.int .i64 (h : Int), .int .u64 ((j : Int) + 1)]] W fun e w' => e = .returned (.string y) ∧ Below W.heap.size W w') := fun W hb => by
      have := ih (by omega) (j + 1) W y (ht.next hb) (hr.next hb (Nat.le_refl _)) h1 hy
      rwa [show ((j + 1 : Nat) : Int) = (j : Int) + 1 from rfl] at this
    have H3 : Hid (∀ W, Below w.heap.size w W → Calls Tryd.prog 53 #[.int .i64 k, .string x, .string y] W fun e w' => e = .returned (.string r) ∧ Below W.heap.size W w') := fun W hb => node_any W (ht.next hb) k x y (by omega) (by omega) r hq
    have hb := Below.refl w.heap.size w
    have hne : ¬ ((h : Int) + 1 = 0) := by omega
    rw [show ((h + 1 : Nat) : Int) = (h : Int) + 1 from rfl]
    clear ih hh hw hq hp h1 h2 hi hx hy zx zy hc hj ht hr hmx hsz
    go_enter Tryd.func41, Tryd.ntmps41
    go_wp2_with (first
      | (go_at_call 41; with_reducible refine (H1.out _ (bal hb _)).mono ?_; rintro e w1 ⟨rfl, hb1⟩; have c0 := hb1.cell (p := ⟨w.heap.size, 0, none⟩) (by simp); have c1 := hb1.cell (p := ⟨w.heap.size, 1, none⟩) (by simp); rw [World.cell?_alloc_new] at c0 c1; replace hb := bnext (bal hb _) hb1; clear hb1)
      | (go_at_call 41; with_reducible refine (H2.out _ hb).mono ?_; rintro e w2 ⟨rfl, hb2⟩; clear c0 c1; replace hb := bnext hb hb2; clear hb2)
      | (go_at_call 53; with_reducible refine (H3.out _ hb).mono ?_; rintro e w3 ⟨rfl, hb3⟩; replace hb := bnext hb hb3; clear hb3))
    go_ret
    exact ⟨rfl, hb⟩
set_option maxRecDepth 100000 in
theorem tree_yes (w : World) (ht : Tb w) (k : Int) (ao : Option Addr) (b off len cap : Nat) (L : List ByteArray) (hr : RdS w ao b off len L) (hsz : ∀ s ∈ L, s.size ≤ 140737488351232) (hmx : len ≤ 8796093022208) (h i : Nat) (hh : h ≤ 40) (hi : (i + 1) * 2 ^ h ≤ len) (r : ByteArray) (hq : nd (clk k) L h i = r) :
    Calls Tryd.prog 17 #[.int .i64 k, .slice ao len cap, .agg #[.int .i64 (h : Int), .int .u64 (i : Int)]] w fun e w' => e = .returned (.tuple #[.string r, .bool true]) ∧ Below w.heap.size w w' := by
  obtain ⟨m, hm⟩ : ∃ m, len / 2 ^ h = m := ⟨_, rfl⟩
  have hlt := within.2 hi
  rw [hm] at hlt
  have HB := fun W => blocks_any W ao len cap h hh hmx m hm
  have HN : Hid (∀ W, Below w.heap.size w W → Calls Tryd.prog 41 #[.int .i64 k, .slice ao len cap, .agg #[.int .i64 (h : Int), .int .u64 (i : Int)]] W fun e w' => e = .returned (.string r) ∧ Below W.heap.size W w') := fun W hb => pnode_any k ao b off len cap L hsz hmx h hh i W r (ht.next hb) (hr.next hb (Nat.le_refl _)) hi hq
  have hb := Below.refl w.heap.size w
  have t1 : ¬ ((h : Int) < 0) := by omega
  have t2 : ¬ ((40 : Int) < (h : Int)) := by omega
  have t3 : ¬ ((m : Int) ≤ (i : Int)) := by omega
  clear hm hlt hi hh hq hr ht hsz hmx
  go_enter Tryd.func17, Tryd.ntmps17
  go_wp2
  go_quiet ((go_at_call 40; refine Calls.quiet_of_same (HB _)))
  go_wp2_with (go_at_call 41; with_reducible refine (HN.out _ (below_drewN (bal hb _) _)).mono ?_; rintro e w1 ⟨rfl, hb1⟩)
  go_ret2
  exact ⟨rfl, bnext (below_drewN (bal hb _) _) hb1⟩
set_option maxRecDepth 100000 in
set_option maxHeartbeats 1000000 in
theorem tree_no (w : World) (k : Int) (ao : Option Addr) (len cap : Nat) (hmx : len ≤ 8796093022208) (h : Int) (i : Nat) (hno : h < 0 ∨ 40 < h ∨ (0 ≤ h ∧ h ≤ 40 ∧ len < (i + 1) * 2 ^ h.toNat)) :
    Calls Tryd.prog 17 #[.int .i64 k, .slice ao len cap, .agg #[.int .i64 h, .int .u64 (i : Int)]] w fun e w' => e = .returned (.tuple #[.string ⟨#[]⟩, .bool false]) ∧ Below w.heap.size w w' := by
  have hb := Below.refl w.heap.size w
  rcases hno with h1 | h1 | ⟨h1, h2, h3⟩
  · clear hmx
    go_enter Tryd.func17, Tryd.ntmps17
    go_wp2
    go_quiet (fail)
    go_wp2
    go_ret2
    exact ⟨rfl, below_drewN (bal hb _) _⟩
  · have h0 : decide (h < 0) = false := by simp; omega
    have h2 : decide ((40 : Int) < h) = true := by simp; omega
    clear hmx h1
    go_enter Tryd.func17, Tryd.ntmps17
    go_wp2
    go_quiet (fail)
    go_wp2
    go_ret2
    exact ⟨rfl, below_drewN (bal hb _) _⟩
  · obtain ⟨g, rfl⟩ : ∃ g : Nat, h = (g : Int) := ⟨h.toNat, by omega⟩
    rw [Int.toNat_natCast] at h3
    obtain ⟨m, hm⟩ : ∃ m, len / 2 ^ g = m := ⟨_, rfl⟩
    have hle : ¬ (i < m) := by rw [← hm]; intro hh; have := within.1 hh; omega
    have HB := fun W => blocks_any W ao len cap g (by omega) hmx m hm
    have t1 : ¬ ((g : Int) < 0) := by omega
    have t2 : ¬ ((40 : Int) < (g : Int)) := by omega
    have t3 : (m : Int) ≤ (i : Int) := by omega
    clear hm hle h1 h2 h3 hmx
    go_enter Tryd.func17, Tryd.ntmps17
    go_wp2
    go_quiet ((go_at_call 40; refine Calls.quiet_of_same (HB _)))
    go_wp2
    go_ret2
    exact ⟨rfl, below_drewN (bal hb _) _⟩
end Go.Proofs.YtnbejijpmeklaaaDoor
