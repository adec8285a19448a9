/-
  The reference's walks: Well, where the numbers are no path's. Own work.
-/
import Derived.Test.YtgmnolepaidiiaaDoorTRefB
namespace Go.Proofs.YtgmnolepaidiiaaDoor
open Go.RowKit
attribute [local go_sem ↓] Go.wp_at_zero Go.wp_at_succ
set_option maxRecDepth 100000 in
set_option maxHeartbeats 2000000 in
theorem well_form (w : World) (kd k : Int) (old size : Nat) (sa : Option Addr) (ns sc : Nat) (da : Option Addr) (n2 dc : Nat) (i : Nat) (hx : ns = 1 → ∃ b o, sa = some ⟨b, o, none⟩ ∧ w.cell? ⟨b, o, none⟩ = some (.int .u64 (i : Int)))
    (hno : ¬ (kd = 1 ∧ (1 ≤ k ∧ k ≤ 32) ∧ size ≤ 2 ^ 40 ∧ old = 0 ∧ ns = 1 ∧ i < size)) :
    Calls Tryd.prog 30 #[.agg #[.int .i64 kd, .int .i64 k, .int .u64 (old : Int), .int .u64 (size : Int), .slice sa ns sc, .slice da n2 dc]] w fun e w' => e = .returned (.bool false) ∧ Below w.heap.size w w' := by
  have hb := box_next w kd k old size (.slice sa ns sc) (.slice da n2 dc)
  by_cases c1 : kd = 1
  · subst c1
    by_cases c2 : ¬ k < 1
    · have f3 : decide (k < 1) = false := decide_eq_false c2
      by_cases c3 : ¬ 32 < k
      · have f4 : decide ((32 : Int) < k) = false := decide_eq_false c3
        by_cases c4 : old = 0
        · subst c4
          rw [show ((0 : Nat) : Int) = 0 from rfl] at *
          by_cases c5 : ¬ 2 ^ 40 < size
          · have f8 : decide ((1099511627776 : Int) < (size : Int)) = false := decide_eq_false (by omega)
            by_cases c6 : ns = 1
            · subst c6
              obtain ⟨b, o, rfl, c0⟩ := hx rfl
              have hge : size ≤ i := by
                apply Nat.le_of_not_lt
                intro h
                exact hno ⟨rfl, ⟨by omega, by omega⟩, by omega, rfl, rfl, h⟩
              have g1 : decide ((size : Int) ≤ (i : Int)) = true := decide_eq_true (by omega)
              have g2 : decide (size ≤ i) = true := decide_eq_true hge
              have cc := (hb.cell (p := ⟨b, o, none⟩) (World.block_lt_of_cell? w _ c0)).trans c0
              clear hx hno c0 hge c2 c3 c5
              go_enter Tryd.func30, Tryd.ntmps30
              go_upto_region 1 with (fail)
              go_quiet (fail)
              go_wp2
              go_ret
              exact ⟨rfl, below_drewN hb _⟩
            · have f9 : (((ns : Nat) : Int) == 1) = false := by simp; omega
              have f10 : decide (ns = 1) = false := decide_eq_false c6
              have f11 : ¬ (ns : Int) = 1 := by omega
              clear hx hno c2 c3 c5
              go_enter Tryd.func30, Tryd.ntmps30
              go_upto_region 1 with (fail)
              go_quiet (fail)
              go_wp2
              go_ret
              exact ⟨rfl, below_drewN hb _⟩
          · have f8 : decide ((1099511627776 : Int) < (size : Int)) = true := decide_eq_true (by omega)
            clear hx hno c2 c3
            go_enter Tryd.func30, Tryd.ntmps30
            go_upto_region 1 with (fail)
            go_quiet (fail)
            go_wp2
            go_ret
            exact ⟨rfl, below_drewN hb _⟩
        · have f5 : (((old : Nat) : Int) == 0) = false := by simp; omega
          have f6 : decide (old = 0) = false := decide_eq_false c4
          have f7 : ¬ (old : Int) = 0 := by omega
          clear hx hno c2 c3
          go_enter Tryd.func30, Tryd.ntmps30
          go_upto_region 1 with (fail)
          go_quiet (fail)
          go_wp2
          go_ret
          exact ⟨rfl, below_drewN hb _⟩
      · have f4 : decide ((32 : Int) < k) = true := decide_eq_true (by omega)
        clear hx hno c2
        go_enter Tryd.func30, Tryd.ntmps30
        go_upto_region 1 with (fail)
        go_quiet (fail)
        go_wp2
        go_ret
        exact ⟨rfl, below_drewN hb _⟩
    · have f3 : decide (k < 1) = true := decide_eq_true (by omega)
      clear hx hno
      go_enter Tryd.func30, Tryd.ntmps30
      go_upto_region 1 with (fail)
      go_quiet (fail)
      go_wp2
      go_ret
      exact ⟨rfl, below_drewN hb _⟩
  · have f1 : (kd == 1) = false := by simp; exact c1
    have f2 : decide (kd = 1) = false := decide_eq_false c1
    clear hx hno
    go_enter Tryd.func30, Tryd.ntmps30
    go_upto_region 1 with (fail)
    go_quiet (fail)
    go_wp2
    go_ret
    exact ⟨rfl, below_drewN hb _⟩
end Go.Proofs.YtgmnolepaidiiaaDoor
