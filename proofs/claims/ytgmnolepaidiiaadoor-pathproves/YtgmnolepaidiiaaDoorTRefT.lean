/-
  The reference's walks: Tree. Own work.
-/
import Derived.Test.YtgmnolepaidiiaaDoorTRefC
import Derived.Test.YtgmnolepaidiiaaDoorTLawD
namespace Go.Proofs.YtgmnolepaidiiaaDoor
open Go.RowKit
attribute [local go_sem ↓] Go.wp_at_zero Go.wp_at_succ
set_option maxRecDepth 100000 in
set_option maxHeartbeats 2000000 in
theorem rtr_leaf (k : Int) (k1 : 1 ≤ k) (k2 : k ≤ 32) (ao : Option Addr) (b off len cap : Nat) (L : List ByteArray) (hsz : ∀ s ∈ L, s.size ≤ 2000) (hl : len ≤ 80) (w : World) (ht : Tr w) (hr : RdS w ao b off len L) (lo : Nat) (hlo : lo < len) (r : ByteArray) (hq : nd (clk k) L 0 lo = r) :
    Calls Tryd.prog 42 #[.int .i64 k, .slice ao len cap, .int .i64 0, .int .i64 (lo : Int)] w fun e w' => e = .returned (.string r) ∧ Below w.heap.size w w' := by
  obtain rfl := hr.ptr (by omega)
  have ci := hr.at hlo
  obtain ⟨s, hs⟩ : ∃ s, L.getD lo ByteArray.empty = s := ⟨_, rfl⟩
  rw [hs] at ci
  have zs : s.size ≤ 2000 := by rw [← hs]; exact hsz _ (getD_mem (by rw [hr.hl]; exact hlo))
  obtain ⟨t, ht'⟩ : ∃ t, leafT s = t := ⟨_, rfl⟩
  have hx := s0 s
  rw [ht'] at hx
  have zt : t.size ≤ 3000 := by rw [← ht', leafT_size]; omega
  have HH := refH_any w ht k k1 k2 t (by omega) r (by rw [← hq, nd, hs, ht'])
  have h0 : (0 : Int) ≤ (lo : Int) := Int.natCast_nonneg _
  have h1 : (lo : Int) < (len : Int) := by omega
  have h2 : ¬ (9223372036854775807 < 1 + s.size) := by omega
  clear ht hr hsz hq hs zs ht' zt hlo hl k1 k2
  go_enter Tryd.func42, Tryd.ntmps42
  go_wp2_with (go_at_call 22; with_reducible refine HH.mono ?_; rintro e w1 ⟨rfl, hb1⟩)
  go_ret
  exact ⟨rfl, hb1⟩
set_option maxRecDepth 100000 in
set_option maxHeartbeats 2000000 in
theorem rtr_any (k : Int) (k1 : 1 ≤ k) (k2 : k ≤ 32) (ao : Option Addr) (b off len cap : Nat) (L : List ByteArray) (hsz : ∀ s ∈ L, s.size ≤ 2000) (hl : len ≤ 80) : ∀ (H : Nat) (w : World) (_ : Tr w) (_ : RdS w ao b off len L) (q lo : Nat) (_ : (q + 1) * 2 ^ H ≤ len) (_ : q * 2 ^ H = lo) (r : ByteArray) (_ : nd (clk k) L H q = r),
    Calls Tryd.prog 42 #[.int .i64 k, .slice ao len cap, .int .i64 (H : Int), .int .i64 (lo : Int)] w fun e w' => e = .returned (.string r) ∧ Below w.heap.size w w'
  | 0, w, ht, hr, q, lo, hle, hlo, r, hq => by
    rw [Nat.pow_zero, Nat.mul_one] at hle hlo
    subst hlo
    exact rtr_leaf k k1 k2 ao b off len cap L hsz hl w ht hr q hle r hq
  | H + 1, w, ht, hr, q, lo, hle, hlo, r, hq => by
    obtain ⟨h, hh⟩ : ∃ h, H + 1 = h := ⟨_, rfl⟩
    obtain ⟨p, hp⟩ : ∃ p, 2 ^ H = p := ⟨_, rfl⟩
    have hp0 : 0 < p := by rw [← hp]; exact Nat.two_pow_pos _
    have e2 : 2 ^ (H + 1) = 2 * p := by rw [Nat.pow_succ, hp]; omega
    rw [e2] at hle hlo
    have a1 : (q + 1) * (2 * p) = 2 * q * p + 2 * p := by rw [Nat.add_mul, Nat.one_mul, Nat.mul_left_comm, ← Nat.mul_assoc]
    have a2 : 2 * q * p = lo := by rw [← hlo, Nat.mul_left_comm, Nat.mul_assoc]
    have a3 : (2 * q + 1) * p = lo + p := by rw [Nat.add_mul, Nat.one_mul, a2]
    have a4 : (2 * q + 1 + 1) * p = lo + p + p := by rw [Nat.add_mul, Nat.one_mul, a3]
    rw [a1, a2] at hle
    obtain ⟨x, hx⟩ : ∃ x, nd (clk k) L H (2 * q) = x := ⟨_, rfl⟩
    obtain ⟨y, hy⟩ : ∃ y, nd (clk k) L H (2 * q + 1) = y := ⟨_, rfl⟩
    obtain ⟨t, ht'⟩ : ∃ t, nodeT x y = t := ⟨_, rfl⟩
    have zx : x.size ≤ 32 := by rw [← hx, nd_size (clk_le k)]; exact clk_le k
    have zy : y.size ≤ 32 := by rw [← hy, nd_size (clk_le k)]; exact clk_le k
    have zt : t.size ≤ 1000 := by rw [← ht', nodeT_size]; omega
    obtain ⟨lp, hlp⟩ : ∃ lp, lo + p = lp := ⟨_, rfl⟩
    have H1 : Hid (∀ W, Below w.heap.size w W → Calls Tryd.prog 42 #[.int .i64 k, .slice ao len cap, .int .i64 (H : Int), .int .i64 (lo : Int)] W fun e w' => e = .returned (.string x) ∧ Below W.heap.size W w') := fun W hb => rtr_any k k1 k2 ao b off len cap L hsz hl H W (ht.next hb) (hr.next hb (Nat.le_refl _)) (2 * q) lo (by rw [hp, a3]; omega) (by rw [hp, a2]) x hx
    have H2 : Hid (∀ W, Below w.heap.size w W → Calls Tryd.prog 42 #[.int .i64 k, .slice ao len cap, .int .i64 (H : Int), .int .i64 (lp : Int)] W fun e w' => e = .returned (.string y) ∧ Below W.heap.size W w') := fun W hb => rtr_any k k1 k2 ao b off len cap L hsz hl H W (ht.next hb) (hr.next hb (Nat.le_refl _)) (2 * q + 1) lp (by rw [hp, a4]; omega) (by rw [hp, a3, hlp]) y hy
    have HH : Hid (∀ W, Below w.heap.size w W → Calls Tryd.prog 22 #[.int .i64 k, .string t] W fun e w' => e = .returned (.string r) ∧ Below W.heap.size W w') := fun W hb => refH_any W (ht.next hb) k k1 k2 t (by omega) r (by rw [← hq, nd, hx, hy, ht'])
    have hs := s1 x y
    rw [ht'] at hs
    have q1 : ¬ (9223372036854775807 < 1 + x.size) := by omega
    have q2 : ¬ (9223372036854775807 < 1 + x.size + y.size) := by omega
    have e5 : IntKind.i64.wrap ((h : Int) - 1) = (H : Int) := by rw [IntKind.wrap_i64]; have : h ≤ 80 := by { have := Nat.lt_two_pow_self (n := H); omega }; omega
    have e6 : IntKind.i64.wrap ((lo : Int) + (p : Int)) = (lp : Int) := by rw [IntKind.wrap_i64]; omega
    have hz : ¬ (h : Int) = 0 := by omega
    have HX : Hid (H + 1 = h ∧ 2 ^ H = p ∧ p ≤ 80) := ⟨hh, hp, by omega⟩
    have hb := Below.refl w.heap.size w
    rw [hh]
    clear hh hp hp0 e2 hle hlo a1 a2 a3 a4 hx hy ht' zx zy zt hlp ht hr hsz hl hq k1 k2
    go_enter Tryd.func42, Tryd.ntmps42
    go_wp2
    go_loopg [9, 10] h (fun gh v jj wr => ∃ j f : Nat, 1 ≤ j ∧ j ≤ h ∧ gh = h + 1 - j ∧ jj = .int .i64 (j : Int) ∧ v = .int .i64 (f : Int) ∧ Hid (2 ^ (j - 1) = f) ∧ w = wr)
    case atStart =>
      go_light
      exact ⟨1, 1, Nat.le_refl _, by have := HX.out.1; omega, by omega, rfl, rfl, rfl, rfl⟩
    case round =>
      obtain ⟨j, f, hj1, hj, rfl, rfl, rfl, HF, rfl⟩ := hrel
      by_cases hlt : j < h
      · have hz1 : (j : Int) < (h : Int) := by omega
        have hf : f ≤ 80 := by rw [← HF.out]; refine Nat.le_trans ?_ HX.out.2.2; rw [← HX.out.2.1]; exact Nat.pow_le_pow_right (by decide) (by have := HX.out.1; omega)
        have hjh : h ≤ 80 := by have := Nat.lt_two_pow_self (n := H); have := HX.out; omega
        have e7 : IntKind.i64.wrap (2 * (f : Int)) = ((2 * f : Nat) : Int) := by rw [IntKind.wrap_i64]; omega
        have hj80 : (j : Int) < 80 := by omega
        go_wp2
        go_roundg (h + 1 - (j + 1))
        case rel =>
          go_light
          exact ⟨j + 1, 2 * f, by omega, hlt, rfl, by go_num, by first | rfl | go_num, by show _ = _; rw [show j + 1 - 1 = (j - 1) + 1 by omega, Nat.pow_succ, HF.out]; omega, rfl⟩
        case measure => go_light; omega
      · obtain rfl : j = h := by omega
        have hz1 : ¬ ((j : Int) < (j : Int)) := by omega
        obtain rfl : p = f := by rw [← HF.out, ← HX.out.2.1]; congr 1; have := HX.out.1; omega
        clear hj1 hj hlt HF HX
        go_wp2_with (first
          | (go_at_call 42; with_reducible refine (H1.out _ hb).mono ?_; rintro e w1 ⟨rfl, hb1⟩)
          | (go_at_call 42; with_reducible refine (H2.out _ hb1).mono ?_; rintro e w2 ⟨rfl, hb2⟩)
          | (go_at_call 22; with_reducible refine (HH.out _ (bnext hb1 hb2)).mono ?_; rintro e w3 ⟨rfl, hb3⟩))
        go_ret
        exact ⟨rfl, bnext (bnext hb1 hb2) hb3⟩
end Go.Proofs.YtgmnolepaidiiaaDoor
