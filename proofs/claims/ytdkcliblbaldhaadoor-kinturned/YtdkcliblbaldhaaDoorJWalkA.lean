/-
  Walks of package kin: isKin, filled, blocksOf, beside, Prove. Own work.
-/
import Derived.Test.YtdkcliblbaldhaaDoorJMem
import Derived.Test.YtdkcliblbaldhaaDoorJSpec
namespace Go.Proofs.YtdkcliblbaldhaaDoor
open Go.RowKit
open Cv (RdC zl cU cov)
open Pl (pw)
attribute [local go_sem ↓] Go.wp_at_zero Go.wp_at_succ
/-- The numbers of a kin. -/
def isK (kd k : Int) (old size ns : Nat) : Prop := (kd = 3 ∧ (1 ≤ k ∧ k ≤ 32)) ∧ size ≤ 2 ^ 40 ∧ old ≤ size ∧ ns = 0
instance (kd k : Int) (old size ns : Nat) : Decidable (isK kd k old size ns) := by unfold isK; infer_instance
set_option maxRecDepth 100000 in
theorem isk_core (w : World) (kd k : Int) (old size : Nat) (sa : Option Addr) (ns sc : Nat) (da : Option Addr) (n2 dc : Nat) (r : Bool) (hr : decide (isK kd k old size ns) = r) :
    Calls Tryd.prog 36 #[vP kd k old size (.slice sa ns sc) (.slice da n2 dc)] w fun e w' => e = .returned (.bool r) ∧ Below w.heap.size w w' := by
  have hb := bal (Below.refl w.heap.size w) (oP kd k old size (.slice sa ns sc) (.slice da n2 dc))
  by_cases h1 : kd = 3
  · subst h1
    by_cases h2 : 1 ≤ k ∧ k ≤ 32
    · have HC : Hid (∀ W, Calls Tryd.prog 60 #[.int .i64 k] W fun e w' => e = .returned (.int .i64 0) ∧ W = w') := fun W => by
        have := (check_any W k)
        rw [show chk k = 0 by rw [chk, if_neg (by omega)]] at this
        exact this.mono fun _ _ h => ⟨h.1, h.2.symm⟩
      by_cases h3 : size ≤ 2 ^ 40
      · have z3 : (size : Int) ≤ 1099511627776 := by omega
        by_cases h4 : old ≤ size
        · have z4 : (old : Int) ≤ (size : Int) := by omega
          by_cases h5 : ns = 0
          · subst h5
            obtain rfl : true = r := by rw [← hr]; exact (decide_eq_true ⟨⟨rfl, h2⟩, h3, h4, rfl⟩).symm
            clear hr h2 h3 h4
            unfold vP
            unfold oP at hb
            go_enter Tryd.func36, Tryd.ntmps36
            go_wp2_with (go_at_call 60; with_reducible refine (HC.out _).mono ?_; rintro e w1 ⟨rfl, rfl⟩)
            go_ret
            exact ⟨rfl, hb⟩
          · have hz : ((ns : Int) == 0) = false := beq_false_of_ne (by omega)
            obtain rfl : false = r := by rw [← hr]; exact (decide_eq_false (by rintro ⟨_, _, _, h⟩; exact h5 h)).symm
            clear hr h2 h3 h4 h5
            go_enter Tryd.func36, Tryd.ntmps36
            go_wp2_with (go_at_call 60; with_reducible refine (HC.out _).mono ?_; rintro e w1 ⟨rfl, rfl⟩)
            go_ret
            exact ⟨rfl, hb⟩
        · have z4 : ¬ (old : Int) ≤ (size : Int) := by omega
          obtain rfl : false = r := by rw [← hr]; exact (decide_eq_false (by rintro ⟨_, _, h, _⟩; exact h4 h)).symm
          clear hr h2 h3 h4
          go_enter Tryd.func36, Tryd.ntmps36
          go_wp2_with (go_at_call 60; with_reducible refine (HC.out _).mono ?_; rintro e w1 ⟨rfl, rfl⟩)
          go_ret
          exact ⟨rfl, hb⟩
      · have z3 : ¬ (size : Int) ≤ 1099511627776 := by omega
        obtain rfl : false = r := by rw [← hr]; exact (decide_eq_false (by rintro ⟨_, h, _⟩; exact h3 h)).symm
        clear hr h2 h3
        go_enter Tryd.func36, Tryd.ntmps36
        go_wp2_with (go_at_call 60; with_reducible refine (HC.out _).mono ?_; rintro e w1 ⟨rfl, rfl⟩)
        go_ret
        exact ⟨rfl, hb⟩
    · have HC : Hid (∀ W, Calls Tryd.prog 60 #[.int .i64 k] W fun e w' => e = .returned (.int .i64 70) ∧ W = w') := fun W => by
        have := (check_any W k)
        rw [show chk k = 70 by rw [chk, if_pos (by omega)]] at this
        exact this.mono fun _ _ h => ⟨h.1, h.2.symm⟩
      obtain rfl : false = r := by rw [← hr]; exact (decide_eq_false (by rintro ⟨⟨_, h⟩, _⟩; exact h2 h)).symm
      clear hr h2
      go_enter Tryd.func36, Tryd.ntmps36
      go_wp2_with (go_at_call 60; with_reducible refine (HC.out _).mono ?_; rintro e w1 ⟨rfl, rfl⟩)
      go_ret
      exact ⟨rfl, hb⟩
  · obtain rfl : false = r := by rw [← hr]; exact (decide_eq_false (by rintro ⟨⟨h, _⟩, _⟩; exact h1 h)).symm
    clear hr
    go_enter Tryd.func36, Tryd.ntmps36
    go_wp2
    go_ret
    exact ⟨rfl, hb⟩
set_option maxRecDepth 100000 in
set_option maxHeartbeats 1000000 in
theorem kfilled_core (w : World) (kd k : Int) (old size : Nat) (sa : Option Addr) (ns sc : Nat) (da : Option Addr) (db dO dc : Nat) (D : List ByteArray) (hr : RdS w da db dO D.length D) (hm : D.length ≤ 8796093022208) (ao : Option Addr) (m0 c0 : Nat) (r : Bool) (hq : decide (fil k m0 D) = r) :
    Calls Tryd.prog 37 #[.slice ao m0 c0, vP kd k old size (.slice sa ns sc) (.slice da D.length dc)] w fun e w' => e = .returned (.bool r) ∧ Below w.heap.size w w' := by
  obtain ⟨o1, ho1⟩ : ∃ o1, oP kd k old size (.slice sa ns sc) (.slice da D.length dc) = o1 := ⟨_, rfl⟩
  have hb0 := bal (Below.refl w.heap.size w) o1
  have h6 : Six (w.alloc o1) w.heap.size (.int .i64 kd) (.int .i64 k) (.int .u64 (old : Int)) (.int .u64 (size : Int)) (.slice sa ns sc) (.slice da D.length dc) := by rw [← ho1]; exact six_new w _ _ _ _ _ _
  have HB := hide hb0
  obtain ⟨z0, z1, z2, z3, z4, z5⟩ := h6.cells
  have HR : Hid (∀ W, Below w.heap.size w W → RdS W da db dO D.length D) := fun W hb => hr.next hb (Nat.le_refl _)
  have hm1 : (D.length : Int) ≤ 8796093022208 := by omega
  by_cases hl : D.length = m0
  · subst hl
    have HQ : Hid (decide (∀ d ∈ D, (d.size : Int) = k) = r) := by
      rw [← hq]
      show decide _ = decide _
      simp only [fil, true_and]
    clear hr hq hm hb0 h6
    unfold vP
    go_enter Tryd.func37, Tryd.ntmps37
    go_upto_region 1 with (fail)
    clear ho1
    go_wp2
    go_loopg [16] D.length (fun g i wr => ∃ j : Nat, j ≤ D.length ∧ g = D.length - j ∧ i = .int .i64 (j : Int) ∧ (∀ t, t < j → ((D.getD t ByteArray.empty).size : Int) = k) ∧ w.alloc o1 = wr)
    case atStart =>
      go_light
      exact ⟨0, Nat.zero_le _, rfl, rfl, fun t ht => absurd ht (Nat.not_lt_zero _), rfl⟩
    case round =>
      obtain ⟨j, hj, rfl, rfl, hal, rfl⟩ := hrel
      by_cases hlt : j < D.length
      · have hz : (j : Int) < (D.length : Int) := by omega
        have hz0 : (0 : Int) ≤ (j : Int) := Int.natCast_nonneg _
        have hrd := HR.out _ HB.out
        obtain rfl := hrd.ptr (by omega)
        have cj := hrd.at hlt
        obtain ⟨d, hd⟩ : ∃ d, D.getD j ByteArray.empty = d := ⟨_, rfl⟩
        rw [hd] at cj
        by_cases hk : (d.size : Int) = k
        · have HN : Hid (∀ t, t < j + 1 → ((D.getD t ByteArray.empty).size : Int) = k) := fun t ht => by
            rcases Nat.lt_or_eq_of_le (Nat.le_of_lt_succ ht) with hx | rfl
            · exact hal t hx
            · rw [hd]; exact hk
          clear hd hal hrd
          go_wp2
          go_roundg (D.length - (j + 1))
          case rel =>
            go_light
            exact ⟨j + 1, by omega, rfl, by go_num, HN.out, rfl⟩
          case measure => go_light; omega
        · obtain rfl : false = r := by
            rw [← HQ.out]
            refine (decide_eq_false fun h => hk ?_).symm
            rw [← hd]
            exact h _ (getD_mem hlt)
          clear hd hal hrd
          go_wp2
          go_ret
          exact ⟨rfl, HB.out⟩
      · obtain rfl : j = D.length := by omega
        have hz : ¬ ((D.length : Int) < (D.length : Int)) := by omega
        obtain rfl : true = r := by
          rw [← HQ.out]
          refine (decide_eq_true fun d hd => ?_).symm
          obtain ⟨t, ht, rfl⟩ := List.getElem_of_mem hd
          have := hal t ht
          rwa [List.getD_eq_getElem?_getD, List.getElem?_eq_getElem ht] at this
        clear hal hlt
        go_wp2
        go_ret
        exact ⟨rfl, HB.out⟩
  · have hz : ¬ (D.length : Int) = (m0 : Int) := by omega
    obtain rfl : false = r := by rw [← hq]; exact (decide_eq_false (by rintro ⟨h, _⟩; exact hl h)).symm
    rw [← ho1] at z0 z1 z2 z3 z4 z5 HB
    clear hr hq hm hb0 h6 ho1 hl HR
    go_enter Tryd.func37, Tryd.ntmps37
    go_wp2
    go_ret
    exact ⟨rfl, HB.out⟩
theorem row_nextJ {w W : World} {B T s n : Nat} {v : Value} {xs : List Value} (h : w.ownsRow B T s v n xs) (hb : Below w.heap.size w W) : W.ownsRow B T s v n xs :=
  keep_row h fun g hg _ => hb.block g (World.ownsRow.lt h g hg).2
theorem cat2_B {w : World} {g0 : Nat} {u0 u1 : Value} {L0 L1 : List (Int × Nat)} (c0 : w.cell? ⟨g0, 0, none⟩ = some u0) (c1 : w.cell? ⟨g0, 1, none⟩ = some u1) (r0 : RdC w u0 L0.length (Cv.cB L0)) (r1 : RdC w u1 L1.length (Cv.cB L1)) : CatB w g0 [u0, u1] [L0, L1] := by
  refine ⟨rfl, fun j hj => ?_, fun j hj => ?_⟩
  · match j with
    | 0 => exact c0
    | 1 => exact c1
    | n + 2 => simp at hj; omega
  · match j with
    | 0 => exact r0
    | 1 => exact r1
    | n + 2 => simp at hj; omega
theorem range40 {m n : Nat} (hm : m ≤ n) (hn : n ≤ 2 ^ 40) : Cv.errR m n n = 0 ∧ Cv.covR m n n = cov m n := by
  have : Cv.errR m n n = 0 := by unfold Cv.errR; rw [if_neg (by omega), if_neg (by omega), if_neg (by omega)]
  exact ⟨this, by rw [Cv.covR, if_pos this]⟩
theorem kb_zl (m n : Nat) : zl (cov 0 m) ++ zl (cov m n) = zl (kb m n) := by rw [kb, Cv.zl_app]
set_option maxRecDepth 100000 in
theorem blocksof_any (w : World) (m n : Nat) (hm : m ≤ n) (hn : n ≤ 2 ^ 40) :
    Calls Tryd.prog 34 #[.int .u64 (m : Int), .int .u64 (n : Int)] w fun e w' => ∃ v, e = .returned v ∧ Cv.OwnB w' w.heap.size v (zl (kb m n)) ∧ Below w.heap.size w w' := by
  have HM : Hid (∀ W, Calls Tryd.prog 40 #[.int .u64 (m : Int)] W fun e w' => ∃ ao n1 cap, e = .returned (.tuple #[.slice ao n1 cap, .int .i64 0]) ∧ Cv.OwnB w' W.heap.size (.slice ao n1 cap) (zl (cov 0 m)) ∧ Below W.heap.size W w') := fun W => by
    have h := Cv.mountains_any m W
    rw [(range40 (Nat.zero_le _) (by omega)).1, (range40 (Nat.zero_le _) (by omega)).2] at h
    refine h.mono fun e w' ⟨v, e1, e2, e3⟩ => ?_
    obtain ⟨ao, n1, cap, rfl⟩ := Cv.own_slice e2
    exact ⟨ao, n1, cap, e1, e2, e3⟩
  have HR : Hid (∀ W, Calls Tryd.prog 15 #[.int .u64 (m : Int), .int .u64 (n : Int), .int .u64 (n : Int)] W fun e w' => ∃ ao n1 cap, e = .returned (.tuple #[.slice ao n1 cap, .int .i64 0]) ∧ Cv.OwnB w' W.heap.size (.slice ao n1 cap) (zl (cov m n)) ∧ Below W.heap.size W w') := fun W => by
    have h := Cv.range_any m n n W
    rw [(range40 hm hn).1, (range40 hm hn).2] at h
    refine h.mono fun e w' ⟨v, e1, e2, e3⟩ => ?_
    obtain ⟨ao, n1, cap, rfl⟩ := Cv.own_slice e2
    exact ⟨ao, n1, cap, e1, e2, e3⟩
  have hl := kb_len hm hn
  have HCat : Hid (∀ W v0 v1, Cv.OwnB W w.heap.size v0 (zl (cov 0 m)) → Cv.OwnB W w.heap.size v1 (zl (cov m n)) → ∀ t, Calls Tryd.prog 63 #[.slice (some ⟨W.heap.size, 0, none⟩) 2 2] (W.alloc (.cells #[v0, v1] t)) fun e w' => ∃ v, e = .returned v ∧ Cv.OwnB w' W.heap.size v (zl (kb m n)) ∧ Below W.heap.size W w') := fun W v0 v1 o0 o1 t => by
    have hb := bal (Below.refl W.heap.size W) (.cells #[v0, v1] t)
    have hx := heap_alloc_new W (.cells #[v0, v1] t)
    have hc : CatB (W.alloc (.cells #[v0, v1] t)) W.heap.size [v0, v1] [zl (cov 0 m), zl (cov m n)] := by
      refine cat2_B ?_ ?_ (Cv.rdc_keep (Cv.rdc_own o0) hb) (Cv.rdc_keep (Cv.rdc_own o1) hb)
      · rw [cell_of_row _ _ 0 _ _ (0, 0) hx]; rfl
      · rw [cell_of_row _ _ 1 _ _ (0, 0) hx]; rfl
    have hf : [zl (cov 0 m), zl (cov m n)].flatten = zl (kb m n) := by
      simp only [List.flatten_cons, List.flatten_nil, List.append_nil]
      exact kb_zl m n
    refine (concat_B _ _ 2 _ _ hc (by simp) (by rw [hf, Cv.zl_len]; omega) _ hf).mono fun e w' ⟨v, e1, e2, e3⟩ => ⟨v, e1, ?_, bnext hb e3⟩
    exact World.ownsRow.mono e2 (by simp)
  clear hm hn hl
  go_enter Tryd.func34, Tryd.ntmps34
  go_wp2_with (first
    | (go_at_call 40; with_reducible refine (HM.out _).mono ?_; rintro e w1 ⟨a1, n1, c1, rfl, h1, hb1⟩)
    | (go_at_call 15; with_reducible refine (HR.out _).mono ?_; rintro e w2 ⟨a2, n2, c2, rfl, h2, hb2⟩)
    | (go_at_call 63; with_reducible refine (HCat.out w2 _ _ (World.ownsRow.mono (row_nextJ h1 hb2) (Nat.le_refl _)) (World.ownsRow.mono h2 hb1.size) _).mono ?_; rintro e w3 ⟨v, rfl, h3, hb3⟩))
  obtain ⟨a3, n3, c3, rfl⟩ := Cv.own_slice h3
  go_ret
  exact ⟨_, rfl, World.ownsRow.mono h3 (Nat.le_trans hb1.size hb2.size), bnext (bnext hb1 hb2) hb3⟩
end Go.Proofs.YtdkcliblbaldhaaDoor
