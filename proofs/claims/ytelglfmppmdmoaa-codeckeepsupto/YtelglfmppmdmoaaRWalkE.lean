/-
  Walks of the reference of codec: rest. Own work.
-/
import Derived.Test.YtelglfmppmdmoaaRWalkC
import Derived.Test.YtelglfmppmdmoaaGWalkA
namespace Go.Proofs.Ytelglfmppmdmoaa.Cv
open Pl
open Go.RowKit
attribute [local go_sem ↓] Go.wp_at_zero Go.wp_at_succ
theorem within_inb {lo hi H K : Nat} (h1 : K * pw H = lo) (h2 : (K + 1) * pw H = hi) : (fun i => decide (lo ≤ i) && decide (i < hi)) = inb H K := by
  funext i; rw [inb, h1, h2]
theorem tno_one {H K : Nat} {X : List Nat} (h : (X.filter (inb H K)).length = 0) : (tno H K X).length = 1 := (tno_count H K X).1 h
theorem tno_zero {K : Nat} {X : List Nat} (h : (X.filter (inb 0 K)).length ≠ 0) : (tno 0 K X).length = 0 := by
  rw [tno, if_neg h]; rfl
theorem tno_two {H K : Nat} {X : List Nat} (h : (X.filter (inb (H + 1) K)).length ≠ 0) : (tno (H + 1) K X).length = (tno H (2 * K) (X.filter (inb (H + 1) K))).length + (tno H (2 * K + 1) (X.filter (inb (H + 1) K))).length := by
  rw [tno, if_neg h, List.length_append]
set_option maxRecDepth 100000 in
set_option maxHeartbeats 1000000 in
theorem rrest_any : ∀ (H K : Nat) (X : List Nat) (w : World) (sa : Option Addr) (sb so sc : Nat), RdU w sa sb so (X.filter (inb H K)).length (X.filter (inb H K)) → X.length ≤ 17592186043904 → H ≤ 40 → (K + 1) * pw H ≤ 2 ^ 40 →
    Calls Try.prog 39 #[.int .i64 (H : Int), .int .u64 (K : Int), .slice sa (X.filter (inb H K)).length sc] w fun e w' => e = .returned (.int .u64 ((tno H K X).length : Nat)) ∧ Below w.heap.size w w' := by
  intro H
  induction H with
  | zero =>
    intro K X w sa sb so sc rs hX hH hK
    by_cases h0 : (X.filter (inb 0 K)).length = 0
    · rw [tno_one h0]
      have h0' : (((X.filter (inb 0 K)).length : Int) == 0) = true := beq_iff_eq.2 (by omega)
      generalize (X.filter (inb 0 K)).length = m at *
      clear rs h0
      go_enter Try.func39, Try.ntmps39
      go_wp2
      go_ret
      exact ⟨rfl, Below.refl _ _⟩
    · rw [tno_zero h0]
      have h0' : (((X.filter (inb 0 K)).length : Int) == 0) = false := beq_eq_false_iff_ne.2 (by omega)
      generalize (X.filter (inb 0 K)).length = m at *
      clear rs h0
      go_enter Try.func39, Try.ntmps39
      go_wp2
      go_ret
      exact ⟨rfl, Below.refl _ _⟩
  | succ H ih =>
    intro K X w sa sb so sc rs hX hH hK
    have hY : (X.filter (inb (H + 1) K)).length ≤ X.length := List.length_filter_le _ _
    by_cases h0 : (X.filter (inb (H + 1) K)).length = 0
    · rw [tno_one h0]
      have h0' : (((X.filter (inb (H + 1) K)).length : Int) == 0) = true := beq_iff_eq.2 (by omega)
      generalize (X.filter (inb (H + 1) K)).length = m at *
      clear rs h0 ih hH hK hX hY
      go_enter Try.func39, Try.ntmps39
      go_wp2
      go_ret
      exact ⟨rfl, Below.refl _ _⟩
    · rw [tno_two h0]
      have h0' : (((X.filter (inb (H + 1) K)).length : Int) == 0) = false := beq_eq_false_iff_ne.2 (by omega)
      have hh0 : (((H + 1 : Nat) : Int) == 0) = false := beq_eq_false_iff_ne.2 (by omega)
      generalize X.filter (inb (H + 1) K) = Y at *
      obtain ⟨p, hp⟩ : ∃ p, pw (H + 1) = p := ⟨_, rfl⟩
      obtain ⟨q, hq⟩ : ∃ q, pw H = q := ⟨_, rfl⟩
      have HPw : ∀ W, Calls Try.prog 37 #[.int .i64 ((H : Int) + 1)] W fun e w' => e = .returned (.int .u64 (p : Int)) ∧ W = w' := fun W => pow_any W (H + 1) hH p hp
      have HPq := fun W => pow_any W H (by omega) q hq
      have g2 := half_mid H K
      have g3 := half_hi H K
      have g1 := half_lo H K
      have g4 := blk_len H K
      have hpp := pw_pos H
      obtain ⟨a, ha⟩ : ∃ a, K * pw (H + 1) = a := ⟨_, rfl⟩
      have hb : (K + 1) * pw (H + 1) = a + p := by rw [Nat.add_mul, Nat.one_mul, ha, hp]
      have hKa : K ≤ a := by rw [← ha]; exact Nat.le_mul_of_pos_right _ (pw_pos _)
      have i1 := fun (w' : World) (sa' : Option Addr) (sb' sc' : Nat) hr => ih (2 * K) Y w' sa' sb' 0 sc' hr (by omega) (by omega) (by rw [g2]; omega)
      have i2 := fun (w' : World) (sa' : Option Addr) (sb' sc' : Nat) hr => ih (2 * K + 1) Y w' sa' sb' 0 sc' hr (by omega) (by omega) (by rw [g3]; omega)
      have f1 : (fun i => decide (a ≤ i) && decide (i < a + q)) = inb H (2 * K) := within_inb (by rw [g1, ha]) (by rw [g2, ha, hq])
      have f2 : (fun i => decide (a + q ≤ i) && decide (i < a + p)) = inb H (2 * K + 1) := within_inb (by rw [g2, ha, hq]) (by rw [g3, hb])
      have HR : Hid (∀ F, Below w.heap.size w F → RdU F sa sb so Y.length Y) := fun F hF => rs.next hF
      have HW1 : Hid (∀ F, Below w.heap.size w F → Calls Try.prog 38 #[.slice sa Y.length sc, .int .u64 (a : Int), .int .u64 ((a + q : Nat) : Int)] F fun e w' => ∃ sa' sb' sc', e = .returned (.slice sa' (Y.filter (inb H (2 * K))).length sc') ∧ RdU w' sa' sb' 0 (Y.filter (inb H (2 * K))).length (Y.filter (inb H (2 * K))) ∧ Below F.heap.size F w') := fun F hF => (within_any F sa sb so sc Y a (a + q) (HR.out F hF) (by omega)).mono (by
        rintro e w' ⟨v, rfl, o, hb'⟩
        rw [f1] at o
        obtain ⟨ao, b, c, rfl, r, _⟩ := own_read o
        exact ⟨ao, b, c, rfl, r, hb'⟩)
      have HW2 : Hid (∀ F, Below w.heap.size w F → Calls Try.prog 38 #[.slice sa Y.length sc, .int .u64 ((a + q : Nat) : Int), .int .u64 ((a + p : Nat) : Int)] F fun e w' => ∃ sa' sb' sc', e = .returned (.slice sa' (Y.filter (inb H (2 * K + 1))).length sc') ∧ RdU w' sa' sb' 0 (Y.filter (inb H (2 * K + 1))).length (Y.filter (inb H (2 * K + 1))) ∧ Below F.heap.size F w') := fun F hF => (within_any F sa sb so sc Y (a + q) (a + p) (HR.out F hF) (by omega)).mono (by
        rintro e w' ⟨v, rfl, o, hb'⟩
        rw [f2] at o
        obtain ⟨ao, b, c, rfl, r, _⟩ := own_read o
        exact ⟨ao, b, c, rfl, r, hb'⟩)
      have l1 := tno_len H (2 * K) Y
      have l2 := tno_len H (2 * K + 1) Y
      have hp40 : pw H ≤ 2 ^ 40 := by omega
      rw [hb] at hK
      have hqp : q + q = p := by rw [← hq, ← hp, pw_succ]; omega
      rw [hq] at l1 l2 hp40
      have e40 : (2 : Nat) ^ 40 = 1099511627776 := by decide
      rw [e40] at hK hp40
      generalize (Y.filter (inb H (2 * K))) = Y1 at *
      generalize (Y.filter (inb H (2 * K + 1))) = Y2 at *
      generalize (tno H (2 * K) Y).length = x at *
      generalize (tno H (2 * K + 1) Y).length = y at *
      have I1 : Hid (∀ (w' : World) (sa' : Option Addr) (sb' sc' : Nat), RdU w' sa' sb' 0 Y1.length Y1 → Calls Try.prog 39 #[.int .i64 (H : Int), .int .u64 ((2 * K : Nat) : Int), .slice sa' Y1.length sc'] w' fun e w'' => e = .returned (.int .u64 (x : Int)) ∧ Below w'.heap.size w' w'') := i1
      have I2 : Hid (∀ (w' : World) (sa' : Option Addr) (sb' sc' : Nat), RdU w' sa' sb' 0 Y2.length Y2 → Calls Try.prog 39 #[.int .i64 (H : Int), .int .u64 ((2 * K + 1 : Nat) : Int), .slice sa' Y2.length sc'] w' fun e w'' => e = .returned (.int .u64 (y : Int)) ∧ Below w'.heap.size w' w'') := i2
      have ea : IntKind.u64.wrap ((K : Int) * (p : Int)) = (a : Int) := by rw [show (K : Int) * (p : Int) = (a : Int) by rw [← ha, hp, Int.natCast_mul], IntKind.wrap_u64]; omega
      have eb : IntKind.u64.wrap ((a : Int) + (p : Int)) = ((a + p : Nat) : Int) := by rw [IntKind.wrap_u64]; omega
      have eq' : IntKind.u64.wrap ((a : Int) + (q : Int)) = ((a + q : Nat) : Int) := by rw [IntKind.wrap_u64]; omega
      have e1 : IntKind.u64.wrap (2 * (K : Int)) = ((2 * K : Nat) : Int) := by rw [IntKind.wrap_u64]; omega
      have e2 : IntKind.u64.wrap (((2 * K : Nat) : Int) + 1) = ((2 * K + 1 : Nat) : Int) := by rw [IntKind.wrap_u64]; omega
      have e3 : ((H + 1 : Nat) : Int) - 1 = (H : Int) := by omega
      have e4 : IntKind.u64.wrap ((x : Int) + (y : Int)) = ((x + y : Nat) : Int) := by rw [IntKind.wrap_u64]; omega
      have hH1 : (H : Int) ≤ 40 := by omega
      clear ih i1 i2 g1 g2 g3 g4 hpp ha hb hKa l1 l2 hp hq hp40 f1 f2 h0 rs hX hY hK hqp hH HR e40
      generalize 2 * K = k2 at *
      generalize k2 + 1 = k3 at *
      generalize x + y = z at *
      generalize a + q = aq at *
      generalize a + p = ap at *
      generalize Y.length = m at *
      go_enter Try.func39, Try.ntmps39
      go_upto_region 7 with (first
        | (go_at_call 37; with_reducible refine (HPw _).mono ?_; rintro e w' ⟨rfl, rfl⟩)
        | (go_at_call 37; with_reducible refine (HPq _).mono ?_; rintro e w' ⟨rfl, rfl⟩))
      go_wp2_with (first
        | (go_at_call 38; with_reducible refine (HW1.out _ (Below.refl _ _)).mono ?_; rintro e w1 ⟨ta, tb, tc, rfl, r1, b1⟩)
        | (go_at_call 39; with_reducible refine (I1.out _ _ _ _ r1).mono ?_; rintro e w2 ⟨rfl, b2⟩; (have b3 := bnext b1 b2); clear b1 b2)
        | (go_at_call 37; with_reducible refine (HPw _).mono ?_; rintro e w' ⟨rfl, rfl⟩)
        | (go_at_call 38; with_reducible refine (HW2.out _ b3).mono ?_; rintro e w4 ⟨ua, ub, uc, rfl, r2, b4⟩)
        | (go_at_call 39; with_reducible refine (I2.out _ _ _ _ r2).mono ?_; rintro e w5 ⟨rfl, b5⟩))
      go_ret
      exact ⟨rfl, bnext (bnext b3 b4) b5⟩
end Go.Proofs.Ytelglfmppmdmoaa.Cv
