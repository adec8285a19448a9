/-
  Own work: JRefB.
-/
import Derived.Test.YtipcenbndhnnhaaGreatDoorQk40
namespace Go.Proofs.YtipcenbndhnnhaaGreatDoor
open Go.RowKit
open Cv (RdC zl cU cov)
attribute [local go_sem ↓] Go.wp_at_zero Go.wp_at_succ
set_option maxRecDepth 100000 in
set_option maxHeartbeats 2000000 in
theorem kformed_1 (w : World) (kd k : Int) (old size : Nat) (sa : Option Addr) (ns sc : Nat) (da : Option Addr) (dn dc : Nat) (c1 : ¬ kd = 3) :
    Calls Tryz.prog 81 #[vP kd k old size (.slice sa ns sc) (.slice da dn dc)] w fun e w' => e = .returned (.bool false) ∧ Below w.heap.size w w' := by
  have h6 := six_new w (.int .i64 kd) (.int .i64 k) (.int .u64 (old : Int)) (.int .u64 (size : Int)) (.slice sa ns sc) (.slice da dn dc)
  have hb := bal (Below.refl w.heap.size w) (.cells #[.int .i64 kd, .int .i64 k, .int .u64 (old : Int), .int .u64 (size : Int), .slice sa ns sc, .slice da dn dc] 38)
  obtain ⟨W0, hW0⟩ : ∃ W0, w.alloc (.cells #[.int .i64 kd, .int .i64 k, .int .u64 (old : Int), .int .u64 (size : Int), .slice sa ns sc, .slice da dn dc] 38) = W0 := ⟨_, rfl⟩
  rw [hW0] at h6 hb
  obtain ⟨g0, g1, g2, g3, g4, g5⟩ := h6.cells
  have HB := hide hb
  unfold vP
  have a1 : decide (kd = 3) = false := decide_eq_false c1
  have a2 : (kd != 3) = true := by simp; exact c1
  have a3 : (!decide (kd = 3)) = true := by rw [a1]; rfl
  clear h6 hb a1
  go_enter Tryz.func81, Tryz.ntmps81
  go_upto_region 1 with (fail)
  try rw [hW0]
  clear hW0
  go_quiet (fail)
  go_wp2
  go_ret
  exact ⟨rfl, below_drewN HB.out _⟩
set_option maxRecDepth 100000 in
set_option maxHeartbeats 2000000 in
theorem kformed_2 (w : World) (kd k : Int) (old size : Nat) (sa : Option Addr) (ns sc : Nat) (da : Option Addr) (dn dc : Nat) (c1 : kd = 3) (c2 : k < 1) :
    Calls Tryz.prog 81 #[vP kd k old size (.slice sa ns sc) (.slice da dn dc)] w fun e w' => e = .returned (.bool false) ∧ Below w.heap.size w w' := by
  have h6 := six_new w (.int .i64 kd) (.int .i64 k) (.int .u64 (old : Int)) (.int .u64 (size : Int)) (.slice sa ns sc) (.slice da dn dc)
  have hb := bal (Below.refl w.heap.size w) (.cells #[.int .i64 kd, .int .i64 k, .int .u64 (old : Int), .int .u64 (size : Int), .slice sa ns sc, .slice da dn dc] 38)
  obtain ⟨W0, hW0⟩ : ∃ W0, w.alloc (.cells #[.int .i64 kd, .int .i64 k, .int .u64 (old : Int), .int .u64 (size : Int), .slice sa ns sc, .slice da dn dc] 38) = W0 := ⟨_, rfl⟩
  rw [hW0] at h6 hb
  obtain ⟨g0, g1, g2, g3, g4, g5⟩ := h6.cells
  have HB := hide hb
  subst c1
  unfold vP
  have f2 : decide (k < 1) = true := decide_eq_true (by omega)
  clear h6 hb c2
  go_enter Tryz.func81, Tryz.ntmps81
  go_upto_region 1 with (fail)
  try rw [hW0]
  clear hW0
  go_quiet (fail)
  go_wp2
  go_ret
  exact ⟨rfl, below_drewN HB.out _⟩
set_option maxRecDepth 100000 in
set_option maxHeartbeats 2000000 in
theorem kformed_3 (w : World) (kd k : Int) (old size : Nat) (sa : Option Addr) (ns sc : Nat) (da : Option Addr) (dn dc : Nat) (c1 : kd = 3) (c2 : ¬ k < 1) (c3 : 32 < k) :
    Calls Tryz.prog 81 #[vP kd k old size (.slice sa ns sc) (.slice da dn dc)] w fun e w' => e = .returned (.bool false) ∧ Below w.heap.size w w' := by
  have h6 := six_new w (.int .i64 kd) (.int .i64 k) (.int .u64 (old : Int)) (.int .u64 (size : Int)) (.slice sa ns sc) (.slice da dn dc)
  have hb := bal (Below.refl w.heap.size w) (.cells #[.int .i64 kd, .int .i64 k, .int .u64 (old : Int), .int .u64 (size : Int), .slice sa ns sc, .slice da dn dc] 38)
  obtain ⟨W0, hW0⟩ : ∃ W0, w.alloc (.cells #[.int .i64 kd, .int .i64 k, .int .u64 (old : Int), .int .u64 (size : Int), .slice sa ns sc, .slice da dn dc] 38) = W0 := ⟨_, rfl⟩
  rw [hW0] at h6 hb
  obtain ⟨g0, g1, g2, g3, g4, g5⟩ := h6.cells
  have HB := hide hb
  subst c1
  unfold vP
  have f2 : decide (k < 1) = false := decide_eq_false (by omega)
  have f3 : decide (32 < k) = true := decide_eq_true (by omega)
  clear h6 hb c2 c3
  go_enter Tryz.func81, Tryz.ntmps81
  go_upto_region 1 with (fail)
  try rw [hW0]
  clear hW0
  go_quiet (fail)
  go_wp2
  go_ret
  exact ⟨rfl, below_drewN HB.out _⟩
set_option maxRecDepth 100000 in
set_option maxHeartbeats 2000000 in
theorem kformed_4 (w : World) (kd k : Int) (old size : Nat) (sa : Option Addr) (ns sc : Nat) (da : Option Addr) (dn dc : Nat) (c1 : kd = 3) (c2 : ¬ k < 1) (c3 : ¬ 32 < k) (c4 : 2 ^ 40 < size) :
    Calls Tryz.prog 81 #[vP kd k old size (.slice sa ns sc) (.slice da dn dc)] w fun e w' => e = .returned (.bool false) ∧ Below w.heap.size w w' := by
  have h6 := six_new w (.int .i64 kd) (.int .i64 k) (.int .u64 (old : Int)) (.int .u64 (size : Int)) (.slice sa ns sc) (.slice da dn dc)
  have hb := bal (Below.refl w.heap.size w) (.cells #[.int .i64 kd, .int .i64 k, .int .u64 (old : Int), .int .u64 (size : Int), .slice sa ns sc, .slice da dn dc] 38)
  obtain ⟨W0, hW0⟩ : ∃ W0, w.alloc (.cells #[.int .i64 kd, .int .i64 k, .int .u64 (old : Int), .int .u64 (size : Int), .slice sa ns sc, .slice da dn dc] 38) = W0 := ⟨_, rfl⟩
  rw [hW0] at h6 hb
  obtain ⟨g0, g1, g2, g3, g4, g5⟩ := h6.cells
  have HB := hide hb
  subst c1
  unfold vP
  have f2 : decide (k < 1) = false := decide_eq_false (by omega)
  have f3 : decide (32 < k) = false := decide_eq_false (by omega)
  have f4 : decide ((1099511627776 : Int) < (size : Int)) = true := decide_eq_true (by omega)
  clear h6 hb c2 c3 c4
  go_enter Tryz.func81, Tryz.ntmps81
  go_upto_region 1 with (fail)
  try rw [hW0]
  clear hW0
  go_quiet (fail)
  go_wp2
  go_ret
  exact ⟨rfl, below_drewN HB.out _⟩
set_option maxRecDepth 100000 in
set_option maxHeartbeats 2000000 in
theorem kformed_5 (w : World) (kd k : Int) (old size : Nat) (sa : Option Addr) (ns sc : Nat) (da : Option Addr) (dn dc : Nat) (c1 : kd = 3) (c2 : ¬ k < 1) (c3 : ¬ 32 < k) (c4 : ¬ 2 ^ 40 < size) (c5 : size < old) :
    Calls Tryz.prog 81 #[vP kd k old size (.slice sa ns sc) (.slice da dn dc)] w fun e w' => e = .returned (.bool false) ∧ Below w.heap.size w w' := by
  have h6 := six_new w (.int .i64 kd) (.int .i64 k) (.int .u64 (old : Int)) (.int .u64 (size : Int)) (.slice sa ns sc) (.slice da dn dc)
  have hb := bal (Below.refl w.heap.size w) (.cells #[.int .i64 kd, .int .i64 k, .int .u64 (old : Int), .int .u64 (size : Int), .slice sa ns sc, .slice da dn dc] 38)
  obtain ⟨W0, hW0⟩ : ∃ W0, w.alloc (.cells #[.int .i64 kd, .int .i64 k, .int .u64 (old : Int), .int .u64 (size : Int), .slice sa ns sc, .slice da dn dc] 38) = W0 := ⟨_, rfl⟩
  rw [hW0] at h6 hb
  obtain ⟨g0, g1, g2, g3, g4, g5⟩ := h6.cells
  have HB := hide hb
  subst c1
  unfold vP
  have f2 : decide (k < 1) = false := decide_eq_false (by omega)
  have f3 : decide (32 < k) = false := decide_eq_false (by omega)
  have f4 : decide ((1099511627776 : Int) < (size : Int)) = false := decide_eq_false (by omega)
  have f5 : decide ((size : Int) < (old : Int)) = true := decide_eq_true (by omega)
  have f5n : decide (size < old) = true := decide_eq_true (by omega)
  clear h6 hb c2 c3 c4 c5
  go_enter Tryz.func81, Tryz.ntmps81
  go_upto_region 1 with (fail)
  try rw [hW0]
  clear hW0
  go_quiet (fail)
  go_wp2
  go_ret
  exact ⟨rfl, below_drewN HB.out _⟩
set_option maxRecDepth 100000 in
set_option maxHeartbeats 2000000 in
theorem kformed_6 (w : World) (kd k : Int) (old size : Nat) (sa : Option Addr) (ns sc : Nat) (da : Option Addr) (dn dc : Nat) (c1 : kd = 3) (c2 : ¬ k < 1) (c3 : ¬ 32 < k) (c4 : ¬ 2 ^ 40 < size) (c5 : ¬ size < old) (c6 : ¬ ns = 0) :
    Calls Tryz.prog 81 #[vP kd k old size (.slice sa ns sc) (.slice da dn dc)] w fun e w' => e = .returned (.bool false) ∧ Below w.heap.size w w' := by
  have h6 := six_new w (.int .i64 kd) (.int .i64 k) (.int .u64 (old : Int)) (.int .u64 (size : Int)) (.slice sa ns sc) (.slice da dn dc)
  have hb := bal (Below.refl w.heap.size w) (.cells #[.int .i64 kd, .int .i64 k, .int .u64 (old : Int), .int .u64 (size : Int), .slice sa ns sc, .slice da dn dc] 38)
  obtain ⟨W0, hW0⟩ : ∃ W0, w.alloc (.cells #[.int .i64 kd, .int .i64 k, .int .u64 (old : Int), .int .u64 (size : Int), .slice sa ns sc, .slice da dn dc] 38) = W0 := ⟨_, rfl⟩
  rw [hW0] at h6 hb
  obtain ⟨g0, g1, g2, g3, g4, g5⟩ := h6.cells
  have HB := hide hb
  subst c1
  unfold vP
  have f2 : decide (k < 1) = false := decide_eq_false (by omega)
  have f3 : decide (32 < k) = false := decide_eq_false (by omega)
  have f4 : decide ((1099511627776 : Int) < (size : Int)) = false := decide_eq_false (by omega)
  have f5 : decide ((size : Int) < (old : Int)) = false := decide_eq_false (by omega)
  have f5n : decide (size < old) = false := decide_eq_false (by omega)
  have a1 : decide (ns = 0) = false := decide_eq_false c6
  have a2 : decide ((ns : Int) = 0) = false := decide_eq_false (by omega)
  have a3 : ((ns : Int) != 0) = true := by simp; omega
  have a4 : (!decide (ns = 0)) = true := by rw [a1]; rfl
  have a5 : (!decide ((ns : Int) = 0)) = true := by rw [a2]; rfl
  clear h6 hb c2 c3 c4 c5 c6 a1 a2
  go_enter Tryz.func81, Tryz.ntmps81
  go_upto_region 1 with (fail)
  try rw [hW0]
  clear hW0
  go_quiet (fail)
  go_wp2
  go_ret
  exact ⟨rfl, below_drewN HB.out _⟩
set_option maxRecDepth 100000 in
set_option maxHeartbeats 4000000 in
theorem kformed_7 (w : World) (k : Int) (old size : Nat) (sa : Option Addr) (sc : Nat) (da : Option Addr) (db dO dc : Nat) (D : List ByteArray) (hr : RdS w da db dO D.length D) (hm : D.length ≤ 8796093022208) (c2 : ¬ k < 1) (c3 : ¬ 32 < k) (c4 : ¬ 2 ^ 40 < size) (c5 : ¬ size < old) (r : Bool) (hq : decide (fil k (kb old size).length D) = r) :
    Calls Tryz.prog 81 #[vP 3 k old size (.slice sa 0 sc) (.slice da D.length dc)] w fun e w' => e = .returned (.bool r) ∧ Below w.heap.size w w' := by
  have h6 := six_new w (.int .i64 3) (.int .i64 k) (.int .u64 (old : Int)) (.int .u64 (size : Int)) (.slice sa 0 sc) (.slice da D.length dc)
  have hb := bal (Below.refl w.heap.size w) (.cells #[.int .i64 3, .int .i64 k, .int .u64 (old : Int), .int .u64 (size : Int), .slice sa 0 sc, .slice da D.length dc] 38)
  obtain ⟨W0, hW0⟩ : ∃ W0, w.alloc (.cells #[.int .i64 3, .int .i64 k, .int .u64 (old : Int), .int .u64 (size : Int), .slice sa 0 sc, .slice da D.length dc] 38) = W0 := ⟨_, rfl⟩
  rw [hW0] at h6 hb
  obtain ⟨g0, g1, g2, g3, g4, g5⟩ := h6.cells
  have HB := hide hb
  have f2 : decide (k < 1) = false := decide_eq_false (by omega)
  have f3 : decide (32 < k) = false := decide_eq_false (by omega)
  have f4 : decide ((1099511627776 : Int) < (size : Int)) = false := decide_eq_false (by omega)
  have f5 : decide ((size : Int) < (old : Int)) = false := decide_eq_false (by omega)
  have f5n : decide (size < old) = false := decide_eq_false (by omega)
  have HBk : Hid (∀ W, Calls Tryz.prog 82 #[.int .u64 (old : Int), .int .u64 (size : Int)] W fun e w' => ∃ ao cap, e = .returned (.slice ao (kb old size).length cap) ∧ Below W.heap.size W w') := fun W => (rblocks_any W old size (by omega) (by omega)).mono fun e w' ⟨v, e1, e2, e3⟩ => by
    obtain ⟨ao, n', cap, rfl⟩ := Cv.own_slice e2
    have hl := own_len e2
    rw [Cv.zl_len] at hl
    subst hl
    exact ⟨_, _, e1, e3⟩
  obtain ⟨lb, hlb⟩ : ∃ lb, (kb old size).length = lb := ⟨_, rfl⟩
  rw [hlb] at HBk hq
  have HX : Hid (∀ Z, Below W0.heap.size W0 Z → Below w.heap.size w Z ∧ RdS Z da db dO D.length D ∧ Six Z w.heap.size (.int .i64 3) (.int .i64 k) (.int .u64 (old : Int)) (.int .u64 (size : Int)) (.slice sa 0 sc) (.slice da D.length dc)) := fun Z hZ => ⟨bnext hb hZ, hr.next (bnext hb hZ) (Nat.le_refl _), h6.next hZ⟩
  have HC : Hid (∀ Z, Below W0.heap.size W0 Z → Z.cell? ⟨w.heap.size, 0, none⟩ = some (.int .i64 3) ∧ Z.cell? ⟨w.heap.size, 1, none⟩ = some (.int .i64 k) ∧ Z.cell? ⟨w.heap.size, 2, none⟩ = some (.int .u64 (old : Int)) ∧ Z.cell? ⟨w.heap.size, 3, none⟩ = some (.int .u64 (size : Int)) ∧ Z.cell? ⟨w.heap.size, 4, none⟩ = some (.slice sa 0 sc) ∧ Z.cell? ⟨w.heap.size, 5, none⟩ = some (.slice da D.length dc)) := fun Z hZ => (HX.out Z hZ).2.2.cells
  have hb0 := Below.refl W0.heap.size W0
  have hm1 : (D.length : Int) ≤ 8796093022208 := by omega
  unfold vP
  clear h6 hb c2 c3 c4 c5 hr hm hlb
  go_enter Tryz.func81, Tryz.ntmps81
  go_upto_region 1 with (fail)
  try rw [hW0]
  clear hW0
  by_cases hl : D.length = lb
  · have HQ : Hid (decide (∀ d ∈ D, (d.size : Int) = k) = r) := by
      rw [← hq]
      show decide _ = decide _
      simp only [fil, hl, true_and]
    subst hl
    clear hq
    go_region_held3 (fun Z => Z.cell? ⟨w.heap.size, 0, none⟩ = some (.int .i64 3) ∧ Z.cell? ⟨w.heap.size, 1, none⟩ = some (.int .i64 k) ∧ Z.cell? ⟨w.heap.size, 2, none⟩ = some (.int .u64 (old : Int)) ∧ Z.cell? ⟨w.heap.size, 3, none⟩ = some (.int .u64 (size : Int)) ∧ Z.cell? ⟨w.heap.size, 4, none⟩ = some (.slice sa 0 sc) ∧ Z.cell? ⟨w.heap.size, 5, none⟩ = some (.slice da D.length dc))
      (exact HC.out _ (by first | exact hb0 | exact hb0.drew | exact hb1)) (first
      | (go_at_call 82; with_reducible refine (HBk.out _).mono ?_; rintro e w1 ⟨ao, cap, rfl, hb1'⟩; have hb1 : Below W0.heap.size W0 w1 := by first | exact bnext hb0.drew hb1' | exact bnext hb0 hb1'))
    all_goals
      have HBx := hide hb1
      obtain ⟨m0, m1, m2, m3, m4, m5⟩ := (HX.out w1 hb1).2.2.cells
      clear hb1 hb1' hb0 HBk HC g0 g1 g2 g3 g4 g5 m0 m2 m3 m4
      go_wp2
      go_loopg [3] D.length (fun gg i wr => ∃ j : Nat, j ≤ D.length ∧ gg = D.length - j ∧ i = .int .i64 (j : Int) ∧ (∀ t, t < j → ((D.getD t ByteArray.empty).size : Int) = k) ∧ Hid (Below W0.heap.size W0 wr))
      case atStart =>
        go_light
        exact ⟨0, Nat.zero_le _, rfl, rfl, fun t ht => absurd ht (Nat.not_lt_zero _), HBx⟩
      case round =>
        clear HBx m1 m5
        obtain ⟨j, hj, rfl, rfl, hal, HI⟩ := hrel
        obtain ⟨_, m1, _, _, _, m5⟩ := (HX.out wr HI.out).2.2.cells
        by_cases hlt : j < D.length
        · have hz : (j : Int) < (D.length : Int) := by omega
          have hz0 : (0 : Int) ≤ (j : Int) := Int.natCast_nonneg _
          have hrd := (HX.out wr HI.out).2.1
          obtain rfl := hrd.ptr (by omega)
          have cj := hrd.at hlt
          obtain ⟨d, hd⟩ : ∃ d, D.getD j ByteArray.empty = d := ⟨_, rfl⟩
          rw [hd] at cj
          have HBw : Hid (Below W0.heap.size W0 wr.drew) := HI.out.drew
          have HBy : Hid (Below w.heap.size w wr.drew) := (HX.out wr HI.out).1.drew
          by_cases hk : (d.size : Int) = k
          · have HN : Hid (∀ t, t < j + 1 → ((D.getD t ByteArray.empty).size : Int) = k) := fun t ht => by
              rcases Nat.lt_or_eq_of_le (Nat.le_of_lt_succ ht) with hx | rfl
              · exact hal t hx
              · rw [hd]; exact hk
            clear hd hal hrd HI
            go_upto_region 6 with (fail)
            go_region
            go_wp2
            go_roundg (D.length - (j + 1))
            case rel =>
              go_light
              exact ⟨j + 1, by omega, rfl, by go_num, HN.out, HBw⟩
            case measure => go_light; omega
          · obtain rfl : false = r := by
              rw [← HQ.out]
              refine (decide_eq_false fun h => hk ?_).symm
              rw [← hd]
              exact h _ (getD_mem hlt)
            clear hd hal hrd HI
            go_upto_region 6 with (fail)
            go_region
            go_wp2
            go_ret
            exact ⟨rfl, HBy.out⟩
        · obtain rfl : j = D.length := by omega
          have hz : ¬ ((D.length : Int) < (D.length : Int)) := by omega
          obtain rfl : true = r := by
            rw [← HQ.out]
            refine (decide_eq_true fun d hd => ?_).symm
            obtain ⟨t, ht, rfl⟩ := List.getElem_of_mem hd
            have := hal t ht
            rwa [List.getD_eq_getElem?_getD, List.getElem?_eq_getElem ht] at this
          have HBy := hide (HX.out wr HI.out).1
          clear hal hlt HI
          go_wp2
          go_ret
          exact ⟨rfl, HBy.out⟩
  · have hne : (!decide (D.length = lb)) = true := by rw [decide_eq_false hl]; rfl
    have hne2 : ((D.length : Int) != (lb : Int)) = true := by simp; omega
    have hne3 : (!decide ((D.length : Int) = (lb : Int))) = true := by rw [decide_eq_false (by omega)]; rfl
    obtain rfl : false = r := by rw [← hq]; exact (decide_eq_false (by rintro ⟨h, _⟩; exact hl h)).symm
    clear hl hq
    go_region_held3 (fun Z => Z.cell? ⟨w.heap.size, 0, none⟩ = some (.int .i64 3) ∧ Z.cell? ⟨w.heap.size, 1, none⟩ = some (.int .i64 k) ∧ Z.cell? ⟨w.heap.size, 2, none⟩ = some (.int .u64 (old : Int)) ∧ Z.cell? ⟨w.heap.size, 3, none⟩ = some (.int .u64 (size : Int)) ∧ Z.cell? ⟨w.heap.size, 4, none⟩ = some (.slice sa 0 sc) ∧ Z.cell? ⟨w.heap.size, 5, none⟩ = some (.slice da D.length dc))
      (exact HC.out _ (by first | exact hb0 | exact hb0.drew | exact hb1)) (first
      | (go_at_call 82; with_reducible refine (HBk.out _).mono ?_; rintro e w1 ⟨ao, cap, rfl, hb1'⟩; have hb1 : Below W0.heap.size W0 w1 := by first | exact bnext hb0.drew hb1' | exact bnext hb0 hb1'))
    all_goals
      have HBy := hide (HX.out w1 hb1).1
      clear hb1 hb1' hb0 HBk HC g0 g1 g2 g3 g4 g5
      go_wp2
      go_ret
      exact ⟨rfl, HBy.out⟩
theorem kformed_any (w : World) (kd k : Int) (old size : Nat) (sa : Option Addr) (ns sc : Nat) (da : Option Addr) (db dO dc : Nat) (D : List ByteArray) (hr : RdS w da db dO D.length D) (hm : D.length ≤ 8796093022208) (r : Bool) (hq : decide (okK kd k old size ns D) = r) :
    Calls Tryz.prog 81 #[vP kd k old size (.slice sa ns sc) (.slice da D.length dc)] w fun e w' => e = .returned (.bool r) ∧ Below w.heap.size w w' := by
  have no : ¬ isK kd k old size ns → false = r := fun h => by rw [← hq]; exact (decide_eq_false fun h' => h h'.1).symm
  by_cases c1 : kd = 3
  · by_cases c2 : k < 1
    · obtain rfl := no fun h => by have := h.1.2; omega
      exact kformed_2 w kd k old size sa ns sc da D.length dc c1 c2
    · by_cases c3 : 32 < k
      · obtain rfl := no fun h => by have := h.1.2; omega
        exact kformed_3 w kd k old size sa ns sc da D.length dc c1 c2 c3
      · by_cases c4 : 2 ^ 40 < size
        · obtain rfl := no fun h => by have := h.2.1; omega
          exact kformed_4 w kd k old size sa ns sc da D.length dc c1 c2 c3 c4
        · by_cases c5 : size < old
          · obtain rfl := no fun h => by have := h.2.2.1; omega
            exact kformed_5 w kd k old size sa ns sc da D.length dc c1 c2 c3 c4 c5
          · by_cases c6 : ns = 0
            · subst c1 c6
              refine kformed_7 w k old size sa sc da db dO dc D hr hm c2 c3 c4 c5 r ?_
              rw [← hq]
              refine decide_eq_decide.2 ⟨fun h => ⟨⟨⟨rfl, by omega, by omega⟩, by omega, by omega, rfl⟩, h⟩, fun h => h.2⟩
            · obtain rfl := no fun h => c6 h.2.2.2
              exact kformed_6 w kd k old size sa ns sc da D.length dc c1 c2 c3 c4 c5 c6
  · obtain rfl := no fun h => c1 h.1.1
    exact kformed_1 w kd k old size sa ns sc da D.length dc c1
end Go.Proofs.YtipcenbndhnnhaaGreatDoor
