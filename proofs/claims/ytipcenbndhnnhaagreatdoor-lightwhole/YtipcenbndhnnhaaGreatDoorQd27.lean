/-
  Own work: JSpec, JWalkA, JWalkB.
-/
import Derived.Test.YtipcenbndhnnhaaGreatDoorQd26
namespace Go.Proofs.YtipcenbndhnnhaaGreatDoor
open Pl (pw pw_succ pw_pos pw_zero pw_add pw_le)
open Cv (dnL cov cov_zero Row row_app cov_row)
theorem dn_nil (h x : Nat) : dnL h x x = [] := by
  induction h with
  | zero => rfl
  | succ h ih => rw [dnL, if_neg (by have := pw_pos h; omega)]; exact ih
theorem pw_cut {h j : Nat} (hj : h ≤ j) : pw j = pw (j - h) * pw h := by rw [← pw_add]; congr 1; omega
theorem dn_split (h : Nat) : ∀ j lo hi q, h ≤ j → hi - lo < pw j → (hi - lo) / pw h * pw h = q → dnL j lo hi = dnL j lo (lo + q) ++ dnL h (lo + q) hi := by
  intro j
  induction j with
  | zero =>
    intro lo hi q hj _ _
    obtain rfl : h = 0 := by omega
    rfl
  | succ j ih =>
    intro lo hi q hj hl hq
    have hp := pw_pos h
    have hpj := pw_pos j
    by_cases he : h = j + 1
    · subst he
      have : q = 0 := by rw [← hq, Nat.div_eq_of_lt hl, Nat.zero_mul]
      subst this
      show dnL (j + 1) lo hi = dnL (j + 1) lo lo ++ dnL (j + 1) lo hi
      rw [dn_nil, List.nil_append]
    · have hj' : h ≤ j := by omega
      have hc := pw_cut hj'
      have hps := pw_succ j
      rw [dnL, dnL]
      by_cases hf : pw j ≤ hi - lo
      · have hq1 : pw j ≤ q := by
          rw [← hq, hc]
          refine Nat.mul_le_mul_right _ ?_
          rw [Nat.le_div_iff_mul_le hp, ← hc]
          exact hf
        have e2 : (hi - (lo + pw j)) / pw h * pw h = q - pw j := by
          have e3 : hi - lo = (hi - (lo + pw j)) + pw (j - h) * pw h := by rw [← hc]; omega
          rw [e3, Nat.add_mul_div_right _ _ hp, Nat.add_mul, ← hc] at hq
          omega
        have := ih (lo + pw j) hi (q - pw j) hj' (by omega) e2
        rw [show lo + pw j + (q - pw j) = lo + q by omega] at this
        rw [if_pos hf, if_pos (by omega), this, List.cons_append]
      · have hq1 : ¬ pw j ≤ q := by
          have := Nat.div_mul_le_self (hi - lo) (pw h)
          omega
        rw [if_neg hf, if_neg (by omega)]
        exact ih lo hi q hj' (by omega) hq
theorem dn_high (h : Nat) : ∀ j lo hi, hi - lo < pw j → (∃ c, hi - lo = c * pw h) → ∀ b ∈ dnL j lo hi, h ≤ b.1 := by
  intro j
  induction j with
  | zero => intro lo hi _ _ b hb; cases hb
  | succ j ih =>
    intro lo hi hl hc b hb
    obtain ⟨c, hc⟩ := hc
    have hps := pw_succ j
    have hpj := pw_pos j
    rw [dnL] at hb
    split at hb
    · rename_i hf
      have hj : h ≤ j := by
        apply Classical.byContradiction
        intro hlt
        have h1 : pw (j + 1) ≤ pw h := pw_le (by omega)
        have h2 : c = 0 := by
          apply Classical.byContradiction
          intro h0
          have := Nat.mul_le_mul_right (pw h) (show 1 ≤ c by omega)
          omega
        subst h2
        omega
      rcases List.mem_cons.1 hb with rfl | hb
      · exact hj
      · refine ih (lo + pw j) hi (by omega) ⟨c - pw (j - h), ?_⟩ b hb
        rw [Nat.sub_mul, ← pw_cut hj, ← hc]; omega
    · exact ih lo hi (by omega) ⟨c, hc⟩ b hb
theorem h40_of {h k : Nat} (hk : 0 < k) (hl : k * pw h ≤ 2 ^ 40) : h ≤ 40 := Cv.pw40 (Nat.le_trans (by have := Nat.mul_le_mul_right (pw h) hk; rwa [Nat.one_mul] at this) hl)
theorem cov_odd (h K : Nat) (hl : (2 * K + 1) * pw h ≤ 2 ^ 40) : cov 0 ((2 * K + 1) * pw h) = cov 0 (2 * K * pw h) ++ [(h, 2 * K)] := by
  have h40 := h40_of (by omega) hl
  have hp := pw_pos h
  have e1 : (2 * K + 1) * pw h = 2 * K * pw h + pw h := by rw [Nat.add_mul, Nat.one_mul]
  have e2 : 2 * K * pw h = K * pw (h + 1) := (Cv.mul_half K h).symm
  have hps := pw_succ h
  have h41 : pw 41 = 2 ^ 41 := rfl
  rw [cov_zero _ hl, cov_zero _ (by omega), dn_split (h + 1) 41 0 ((2 * K + 1) * pw h) (2 * K * pw h) (by omega) (by omega) ?_]
  · rw [Nat.zero_add]
    congr 1
    rw [dnL, if_pos (by omega), Nat.mul_div_cancel _ hp, ← e1, dn_nil]
  · rw [Nat.sub_zero, e1, e2]
    congr 1
    rw [Nat.add_comm, Nat.add_mul_div_right _ _ (pw_pos _), Nat.div_eq_of_lt (by omega), Nat.zero_add]
theorem cov_even (h K : Nat) (hl : 2 * K * pw h ≤ 2 ^ 40) : ∀ b ∈ cov 0 (2 * K * pw h), h < b.1 := by
  intro b hb
  have h41 : pw 41 = 2 ^ 41 := rfl
  rw [cov_zero _ hl] at hb
  exact dn_high (h + 1) 41 0 _ (by omega) ⟨K, by rw [Nat.sub_zero, Cv.mul_half]⟩ b hb
theorem cov_none : cov 0 0 = [] := Cv.cov_self 0
def kb (m n : Nat) : List (Nat × Nat) := cov 0 m ++ cov m n
theorem kb_row {m n : Nat} (hm : m ≤ n) (hn : n ≤ 2 ^ 40) : Row n 0 (kb m n) := row_app (cov_row m n hm hn) (cov_row 0 m (Nat.zero_le _) (by omega))
theorem kb_len {m n : Nat} (hm : m ≤ n) (hn : n ≤ 2 ^ 40) : (kb m n).length ≤ 120 := by
  have h1 := Cv.cov_forty m (by omega)
  have h2 := Cv.cov_len m n hm hn
  rw [kb, List.length_append]; omega
theorem row_leJ {q : Nat} : ∀ {M : List (Nat × Nat)} {p : Nat}, Row q p M → p ≤ q
  | [], _, h => Nat.le_of_eq h
  | m :: M, p, h => by
    have := row_leJ h.2.2.2
    have h1 := Cv.blk_lt m.1 m.2
    have h2 := h.1
    omega
theorem row_fromJ {q : Nat} : ∀ {M : List (Nat × Nat)} {p : Nat}, Row q p M → ∀ b ∈ M, p ≤ b.2 * pw b.1 ∧ (b.2 + 1) * pw b.1 ≤ q
  | [], _, _, b, hb => by cases hb
  | m :: M, p, h, b, hb => by
    rcases List.mem_cons.1 hb with rfl | hb
    · exact ⟨Nat.le_of_eq h.1, row_leJ h.2.2.2⟩
    · have := row_fromJ h.2.2.2 b hb
      have h1 := Cv.blk_lt m.1 m.2
      have h2 := h.1
      exact ⟨by omega, this.2⟩
theorem row_end {q : Nat} : ∀ {L : List (Nat × Nat)} {p : Nat}, Row q p L → ∀ b ∈ L, ∀ b' ∈ L, (b.2 + 1) * pw b.1 = (b'.2 + 1) * pw b'.1 → b = b'
  | [], _, _, b, hb, _, _, _ => by cases hb
  | c :: L, p, h, b, hb, b', hb', he => by
    have hf := row_fromJ h.2.2.2
    rcases List.mem_cons.1 hb with h1 | h1
    · rcases List.mem_cons.1 hb' with h2 | h2
      · rw [h1, h2]
      · have := hf b' h2
        have := Cv.blk_lt b'.1 b'.2
        rw [h1] at he
        omega
    · rcases List.mem_cons.1 hb' with h2 | h2
      · have := hf b h1
        have := Cv.blk_lt b.1 b.2
        rw [h2] at he
        omega
      · exact row_end h.2.2.2 b h1 b' h2 he
theorem mem_getD {L : List (Nat × Nat)} {j : Nat} (hj : j < L.length) : L.getD j (0, 0) ∈ L := by
  rw [List.getD_eq_getElem?_getD, List.getElem?_eq_getElem hj]; exact List.getElem_mem hj
structure Jn (c : Nat) (L : List (Nat × Nat)) (D : List ByteArray) (F : Nat → Nat → ByteArray) : Prop where
  at' : ∀ j, j < L.length → F (L.getD j (0, 0)).1 (L.getD j (0, 0)).2 = D.getD j ⟨#[]⟩
  up : ∀ h k, (h + 1, k) ∉ L → F (h + 1) k = dg c (nodeT (F h (2 * k)) (F h (2 * k + 1)))
  sz : ∀ h k, (F h k).size ≤ 32
theorem Jn.join {c q p : Nat} {L : List (Nat × Nat)} {D : List ByteArray} {F : Nat → Nat → ByteArray} (hJ : Jn c L D F) (hr : Row q p L) {h k : Nat} (hb : (h, k) ∈ L) {h' K : Nat} (hh : h ≤ h') (he : (K + 1) * pw (h' + 1) = (k + 1) * pw h) : F (h' + 1) K = dg c (nodeT (F h' (2 * K)) (F h' (2 * K + 1))) :=
  hJ.up h' K fun hm => by
    have := row_end hr _ hm _ hb he
    injection this with h1 _
    omega
end Go.Proofs.YtipcenbndhnnhaaGreatDoor
namespace Go.Proofs.YtipcenbndhnnhaaGreatDoor
open Go.RowKit
open Cv (RdC zl cU cov)
open Pl (pw)
attribute [local go_sem ↓] Go.wp_at_zero Go.wp_at_succ
def isK (kd k : Int) (old size ns : Nat) : Prop := (kd = 3 ∧ (1 ≤ k ∧ k ≤ 32)) ∧ size ≤ 2 ^ 40 ∧ old ≤ size ∧ ns = 0
instance (kd k : Int) (old size ns : Nat) : Decidable (isK kd k old size ns) := by unfold isK; infer_instance
set_option maxRecDepth 100000 in
theorem isk_core (w : World) (kd k : Int) (old size : Nat) (sa : Option Addr) (ns sc : Nat) (da : Option Addr) (n2 dc : Nat) (r : Bool) (hr : decide (isK kd k old size ns) = r) :
    Calls Tryz.prog 74 #[vP kd k old size (.slice sa ns sc) (.slice da n2 dc)] w fun e w' => e = .returned (.bool r) ∧ Below w.heap.size w w' := by
  have hb := bal (Below.refl w.heap.size w) (oP kd k old size (.slice sa ns sc) (.slice da n2 dc))
  by_cases h1 : kd = 3
  · subst h1
    by_cases h2 : 1 ≤ k ∧ k ≤ 32
    · have HC : Hid (∀ W, Calls Tryz.prog 48 #[.int .i64 k] W fun e w' => e = .returned (.int .i64 0) ∧ W = w') := fun W => by
        have := (check_any W k)
        rw [show chk k = 0 by rw [chk, if_neg (by omega)]] at this
        exact this.mono fun _ _ h => ⟨h.1, h.2.symm⟩
      by_cases h3 : size ≤ 2 ^ 40
      · have z3 : (size : Int) ≤ 1099511627776 := by omega
        by_cases h4 : old ≤ size
        · have z4 : (old : Int) ≤ (size : Int) := by omega
          by_cases h5 : ns = 0
          · subst h5
            obtain rfl : true = r := by rw [← hr]; exact (decide_eq_true ⟨⟨rfl, h2⟩, h3, h4, rfl⟩).symm
            clear hr h2 h3 h4
            unfold vP
            unfold oP at hb
            go_enter Tryz.func74, Tryz.ntmps74
            go_wp2_with (go_at_call 48; with_reducible refine (HC.out _).mono ?_; rintro e w1 ⟨rfl, rfl⟩)
            go_ret
            exact ⟨rfl, hb⟩
          · have hz : ((ns : Int) == 0) = false := beq_false_of_ne (by omega)
            obtain rfl : false = r := by rw [← hr]; exact (decide_eq_false (by rintro ⟨_, _, _, h⟩; exact h5 h)).symm
            clear hr h2 h3 h4 h5
            go_enter Tryz.func74, Tryz.ntmps74
            go_wp2_with (go_at_call 48; with_reducible refine (HC.out _).mono ?_; rintro e w1 ⟨rfl, rfl⟩)
            go_ret
            exact ⟨rfl, hb⟩
        · have z4 : ¬ (old : Int) ≤ (size : Int) := by omega
          obtain rfl : false = r := by rw [← hr]; exact (decide_eq_false (by rintro ⟨_, _, h, _⟩; exact h4 h)).symm
          clear hr h2 h3 h4
          go_enter Tryz.func74, Tryz.ntmps74
          go_wp2_with (go_at_call 48; with_reducible refine (HC.out _).mono ?_; rintro e w1 ⟨rfl, rfl⟩)
          go_ret
          exact ⟨rfl, hb⟩
      · have z3 : ¬ (size : Int) ≤ 1099511627776 := by omega
        obtain rfl : false = r := by rw [← hr]; exact (decide_eq_false (by rintro ⟨_, h, _⟩; exact h3 h)).symm
        clear hr h2 h3
        go_enter Tryz.func74, Tryz.ntmps74
        go_wp2_with (go_at_call 48; with_reducible refine (HC.out _).mono ?_; rintro e w1 ⟨rfl, rfl⟩)
        go_ret
        exact ⟨rfl, hb⟩
    · have HC : Hid (∀ W, Calls Tryz.prog 48 #[.int .i64 k] W fun e w' => e = .returned (.int .i64 70) ∧ W = w') := fun W => by
        have := (check_any W k)
        rw [show chk k = 70 by rw [chk, if_pos (by omega)]] at this
        exact this.mono fun _ _ h => ⟨h.1, h.2.symm⟩
      obtain rfl : false = r := by rw [← hr]; exact (decide_eq_false (by rintro ⟨⟨_, h⟩, _⟩; exact h2 h)).symm
      clear hr h2
      go_enter Tryz.func74, Tryz.ntmps74
      go_wp2_with (go_at_call 48; with_reducible refine (HC.out _).mono ?_; rintro e w1 ⟨rfl, rfl⟩)
      go_ret
      exact ⟨rfl, hb⟩
  · obtain rfl : false = r := by rw [← hr]; exact (decide_eq_false (by rintro ⟨⟨h, _⟩, _⟩; exact h1 h)).symm
    clear hr
    go_enter Tryz.func74, Tryz.ntmps74
    go_wp2
    go_ret
    exact ⟨rfl, hb⟩
set_option maxRecDepth 100000 in
set_option maxHeartbeats 1000000 in
theorem kfilled_core (w : World) (kd k : Int) (old size : Nat) (sa : Option Addr) (ns sc : Nat) (da : Option Addr) (db dO dc : Nat) (D : List ByteArray) (hr : RdS w da db dO D.length D) (hm : D.length ≤ 8796093022208) (ao : Option Addr) (m0 c0 : Nat) (r : Bool) (hq : decide (fil k m0 D) = r) :
    Calls Tryz.prog 75 #[.slice ao m0 c0, vP kd k old size (.slice sa ns sc) (.slice da D.length dc)] w fun e w' => e = .returned (.bool r) ∧ Below w.heap.size w w' := by
  obtain ⟨o1, ho1⟩ : ∃ o1, oP kd k old size (.slice sa ns sc) (.slice da D.length dc) = o1 := ⟨_, rfl⟩
  have hb0 := bal (Below.refl w.heap.size w) o1
  have h6 : Six (w.alloc o1) w.heap.size (.int .i64 kd) (.int .i64 k) (.int .u64 (old : Int)) (.int .u64 (size : Int)) (.slice sa ns sc) (.slice da D.length dc) := by rw [← ho1]; exact six_new w _ _ _ _ _ _
  have HB := hide hb0
  obtain ⟨z0, z1, z2, z3, z4, z5⟩ := h6.cells
  have HR : Hid (∀ W, Below w.heap.size w W → RdS W da db dO D.length D) := fun W hb => hr.next hb (Nat.le_refl _)
  have hm1 : (D.length : Int) ≤ 8796093022208 := by omega
  by_cases hl : D.length = m0
  · subst hl
    have HQ : Hid (decide (∀ d ∈ D, (d.size : Int) = k) = r) := by
      rw [← hq]
      show decide _ = decide _
      simp only [fil, true_and]
    clear hr hq hm hb0 h6
    unfold vP
    go_enter Tryz.func75, Tryz.ntmps75
    go_upto_region 1 with (fail)
    clear ho1
    go_wp2
    go_loopg [16] D.length (fun g i wr => ∃ j : Nat, j ≤ D.length ∧ g = D.length - j ∧ i = .int .i64 (j : Int) ∧ (∀ t, t < j → ((D.getD t ByteArray.empty).size : Int) = k) ∧ w.alloc o1 = wr)
    case atStart =>
      go_light
      exact ⟨0, Nat.zero_le _, rfl, rfl, fun t ht => absurd ht (Nat.not_lt_zero _), rfl⟩
    case round =>
      obtain ⟨j, hj, rfl, rfl, hal, rfl⟩ := hrel
      by_cases hlt : j < D.length
      · have hz : (j : Int) < (D.length : Int) := by omega
        have hz0 : (0 : Int) ≤ (j : Int) := Int.natCast_nonneg _
        have hrd := HR.out _ HB.out
        obtain rfl := hrd.ptr (by omega)
        have cj := hrd.at hlt
        obtain ⟨d, hd⟩ : ∃ d, D.getD j ByteArray.empty = d := ⟨_, rfl⟩
        rw [hd] at cj
        by_cases hk : (d.size : Int) = k
        · have HN : Hid (∀ t, t < j + 1 → ((D.getD t ByteArray.empty).size : Int) = k) := fun t ht => by
            rcases Nat.lt_or_eq_of_le (Nat.le_of_lt_succ ht) with hx | rfl
            · exact hal t hx
            · rw [hd]; exact hk
          clear hd hal hrd
          go_wp2
          go_roundg (D.length - (j + 1))
          case rel =>
            go_light
            exact ⟨j + 1, by omega, rfl, by go_num, HN.out, rfl⟩
          case measure => go_light; omega
        · obtain rfl : false = r := by
            rw [← HQ.out]
            refine (decide_eq_false fun h => hk ?_).symm
            rw [← hd]
            exact h _ (getD_mem hlt)
          clear hd hal hrd
          go_wp2
          go_ret
          exact ⟨rfl, HB.out⟩
      · obtain rfl : j = D.length := by omega
        have hz : ¬ ((D.length : Int) < (D.length : Int)) := by omega
        obtain rfl : true = r := by
          rw [← HQ.out]
          refine (decide_eq_true fun d hd => ?_).symm
          obtain ⟨t, ht, rfl⟩ := List.getElem_of_mem hd
          have := hal t ht
          rwa [List.getD_eq_getElem?_getD, List.getElem?_eq_getElem ht] at this
        clear hal hlt
        go_wp2
        go_ret
        exact ⟨rfl, HB.out⟩
  · have hz : ¬ (D.length : Int) = (m0 : Int) := by omega
    obtain rfl : false = r := by rw [← hq]; exact (decide_eq_false (by rintro ⟨h, _⟩; exact hl h)).symm
    rw [← ho1] at z0 z1 z2 z3 z4 z5 HB
    clear hr hq hm hb0 h6 ho1 hl HR
    go_enter Tryz.func75, Tryz.ntmps75
    go_wp2
    go_ret
    exact ⟨rfl, HB.out⟩
theorem row_nextJ {w W : World} {B T s n : Nat} {v : Value} {xs : List Value} (h : w.ownsRow B T s v n xs) (hb : Below w.heap.size w W) : W.ownsRow B T s v n xs :=
  keep_row h fun g hg _ => hb.block g (World.ownsRow.lt h g hg).2
theorem cat2_B {w : World} {g0 : Nat} {u0 u1 : Value} {L0 L1 : List (Int × Nat)} (c0 : w.cell? ⟨g0, 0, none⟩ = some u0) (c1 : w.cell? ⟨g0, 1, none⟩ = some u1) (r0 : RdC w u0 L0.length (Cv.cB L0)) (r1 : RdC w u1 L1.length (Cv.cB L1)) : CatB w g0 [u0, u1] [L0, L1] := by
  refine ⟨rfl, fun j hj => ?_, fun j hj => ?_⟩
  · match j with
    | 0 => exact c0
    | 1 => exact c1
    | n + 2 => simp at hj; omega
  · match j with
    | 0 => exact r0
    | 1 => exact r1
    | n + 2 => simp at hj; omega
theorem range40 {m n : Nat} (hm : m ≤ n) (hn : n ≤ 2 ^ 40) : Cv.errR m n n = 0 ∧ Cv.covR m n n = cov m n := by
  have : Cv.errR m n n = 0 := by unfold Cv.errR; rw [if_neg (by omega), if_neg (by omega), if_neg (by omega)]
  exact ⟨this, by rw [Cv.covR, if_pos this]⟩
theorem kb_zl (m n : Nat) : zl (cov 0 m) ++ zl (cov m n) = zl (kb m n) := by rw [kb, Cv.zl_app]
set_option maxRecDepth 100000 in
theorem blocksof_any (w : World) (m n : Nat) (hm : m ≤ n) (hn : n ≤ 2 ^ 40) :
    Calls Tryz.prog 31 #[.int .u64 (m : Int), .int .u64 (n : Int)] w fun e w' => ∃ v, e = .returned v ∧ Cv.OwnB w' w.heap.size v (zl (kb m n)) ∧ Below w.heap.size w w' := by
  have HM : Hid (∀ W, Calls Tryz.prog 61 #[.int .u64 (m : Int)] W fun e w' => ∃ ao n1 cap, e = .returned (.tuple #[.slice ao n1 cap, .int .i64 0]) ∧ Cv.OwnB w' W.heap.size (.slice ao n1 cap) (zl (cov 0 m)) ∧ Below W.heap.size W w') := fun W => by
    have h := Cv.mountains_any m W
    rw [(range40 (Nat.zero_le _) (by omega)).1, (range40 (Nat.zero_le _) (by omega)).2] at h
    refine h.mono fun e w' ⟨v, e1, e2, e3⟩ => ?_
    obtain ⟨ao, n1, cap, rfl⟩ := Cv.own_slice e2
    exact ⟨ao, n1, cap, e1, e2, e3⟩
  have HR : Hid (∀ W, Calls Tryz.prog 62 #[.int .u64 (m : Int), .int .u64 (n : Int), .int .u64 (n : Int)] W fun e w' => ∃ ao n1 cap, e = .returned (.tuple #[.slice ao n1 cap, .int .i64 0]) ∧ Cv.OwnB w' W.heap.size (.slice ao n1 cap) (zl (cov m n)) ∧ Below W.heap.size W w') := fun W => by
    have h := Cv.range_any m n n W
    rw [(range40 hm hn).1, (range40 hm hn).2] at h
    refine h.mono fun e w' ⟨v, e1, e2, e3⟩ => ?_
    obtain ⟨ao, n1, cap, rfl⟩ := Cv.own_slice e2
    exact ⟨ao, n1, cap, e1, e2, e3⟩
  have hl := kb_len hm hn
  have HCat : Hid (∀ W v0 v1, Cv.OwnB W w.heap.size v0 (zl (cov 0 m)) → Cv.OwnB W w.heap.size v1 (zl (cov m n)) → ∀ t, Calls Tryz.prog 63 #[.slice (some ⟨W.heap.size, 0, none⟩) 2 2] (W.alloc (.cells #[v0, v1] t)) fun e w' => ∃ v, e = .returned v ∧ Cv.OwnB w' W.heap.size v (zl (kb m n)) ∧ Below W.heap.size W w') := fun W v0 v1 o0 o1 t => by
    have hb := bal (Below.refl W.heap.size W) (.cells #[v0, v1] t)
    have hx := heap_alloc_new W (.cells #[v0, v1] t)
    have hc : CatB (W.alloc (.cells #[v0, v1] t)) W.heap.size [v0, v1] [zl (cov 0 m), zl (cov m n)] := by
      refine cat2_B ?_ ?_ (Cv.rdc_keep (Cv.rdc_own o0) hb) (Cv.rdc_keep (Cv.rdc_own o1) hb)
      · rw [cell_of_row _ _ 0 _ _ (0, 0) hx]; rfl
      · rw [cell_of_row _ _ 1 _ _ (0, 0) hx]; rfl
    have hf : [zl (cov 0 m), zl (cov m n)].flatten = zl (kb m n) := by
      simp only [List.flatten_cons, List.flatten_nil, List.append_nil]
      exact kb_zl m n
    refine (concat_B _ _ 2 _ _ hc (by simp) (by rw [hf, Cv.zl_len]; omega) _ hf).mono fun e w' ⟨v, e1, e2, e3⟩ => ⟨v, e1, ?_, bnext hb e3⟩
    exact World.ownsRow.mono e2 (by simp)
  clear hm hn hl
  go_enter Tryz.func31, Tryz.ntmps31
  go_wp2_with (first
    | (go_at_call 61; with_reducible refine (HM.out _).mono ?_; rintro e w1 ⟨a1, n1, c1, rfl, h1, hb1⟩)
    | (go_at_call 62; with_reducible refine (HR.out _).mono ?_; rintro e w2 ⟨a2, n2, c2, rfl, h2, hb2⟩)
    | (go_at_call 63; with_reducible refine (HCat.out w2 _ _ (World.ownsRow.mono (row_nextJ h1 hb2) (Nat.le_refl _)) (World.ownsRow.mono h2 hb1.size) _).mono ?_; rintro e w3 ⟨v, rfl, h3, hb3⟩))
  obtain ⟨a3, n3, c3, rfl⟩ := Cv.own_slice h3
  go_ret
  exact ⟨_, rfl, World.ownsRow.mono h3 (Nat.le_trans hb1.size hb2.size), bnext (bnext hb1 hb2) hb3⟩
end Go.Proofs.YtipcenbndhnnhaaGreatDoor
namespace Go.Proofs.YtipcenbndhnnhaaGreatDoor
open Go.RowKit
open Cv (RdC zl cU cov)
open Pl (pw)
attribute [local go_sem ↓] Go.wp_at_zero Go.wp_at_succ
def Tw (w : World) (g : Nat) (h : Int) (k : Nat) : Prop := w.heap[g]? = some (.cells #[.int .i64 h, .int .u64 (k : Int)] 94 (0, 0))
section
variable {w W : World} {g k : Nat} {h : Int}
theorem Tw.cells (t : Tw w g h k) : w.cell? ⟨g, 0, none⟩ = some (.int .i64 h) ∧ w.cell? ⟨g, 1, none⟩ = some (.int .u64 (k : Int)) :=
  ⟨by rw [cell_of_row w g 0 _ _ (0, 0) t]; rfl, by rw [cell_of_row w g 1 _ _ (0, 0) t]; rfl⟩
theorem Tw.fz (t : Tw w g h k) (j : Nat) : w.frozen? ⟨g, j, none⟩ = false := frozen_of_row w g j _ _ t
theorem Tw.lt (t : Tw w g h k) : g < w.heap.size := (Array.getElem?_eq_some_iff.1 t).1
theorem Tw.same (t : Tw w g h k) (hb : W.heap[g]? = w.heap[g]?) : Tw W g h k := hb.trans t
theorem Tw.next (t : Tw w g h k) (hb : Below w.heap.size w W) : Tw W g h k := t.same (hb.block g t.lt)
theorem tw_new (w : World) (h : Int) (k : Nat) : Tw (w.alloc (.cells #[.int .i64 h, .int .u64 (k : Int)] 94)) w.heap.size h k := heap_alloc_new w _
def putB (w : World) (g : Nat) (h : Int) (k : Nat) : World := (w.setCell ⟨g, 0, none⟩ (.int .i64 h)).setCell ⟨g, 1, none⟩ (.int .u64 (k : Int))
theorem Tw.put (t : Tw w g h k) (h' : Int) (k' : Nat) : Tw (putB w g h' k') g h' k' := by
  have h0 := heap_setCell_same w g 0 _ _ (.int .i64 h') t
  exact heap_setCell_same _ g 1 _ _ (.int .u64 (k' : Int)) h0
theorem putB_ch (w : World) (g : Nat) (h : Int) (k : Nat) : ChT (fun x => x = g) w (putB w g h k) := ((ChT.refl (fun x => x = g) w).set g 0 _ rfl).set g 1 _ rfl
end
theorem beside_any (w : World) (h k : Nat) (hk : k < 2 ^ 64) (r : Nat) (hr : sb k = r) :
    Calls Tryz.prog 127 #[.agg #[.int .i64 (h : Int), .int .u64 (k : Int)]] w fun e w' => e = .returned (.agg #[.int .i64 (h : Int), .int .u64 (r : Int)]) ∧ Below w.heap.size w w' := by
  have ex : bits .xor .u64 (k : Int) 1 = (r : Int) := by rw [← hr, ← sb_xor]; exact bits_xor_u64_nat k 1 (by omega) (by decide)
  have t1 := tw_new w (h : Int) k
  have hb := bal (Below.refl w.heap.size w) (.cells #[.int .i64 (h : Int), .int .u64 (k : Int)] 94)
  have hz : (w.alloc (.cells #[.int .i64 (h : Int), .int .u64 (k : Int)] 94)).heap.size = w.heap.size + 1 := World.size_alloc ..
  obtain ⟨W, hW⟩ : ∃ W, w.alloc (.cells #[.int .i64 (h : Int), .int .u64 (k : Int)] 94) = W := ⟨_, rfl⟩
  rw [hW] at t1 hb hz
  have t2 := tw_new W 0 0
  have hb2 := bal (Below.refl W.heap.size W) (.cells #[.int .i64 0, .int .u64 ((0 : Nat) : Int)] 94)
  have t1' := t1.next hb2
  rw [show ((0 : Nat) : Int) = 0 from rfl] at hb2 t1'
  have t2' : Tw (W.alloc (.cells #[.int .i64 0, .int .u64 0] 94)) W.heap.size 0 0 := t2
  obtain ⟨W2, hW2⟩ : ∃ W2, W.alloc (.cells #[.int .i64 0, .int .u64 0] 94) = W2 := ⟨_, rfl⟩
  rw [hW2] at t2' hb2 t1'
  rw [hz] at t2'
  obtain ⟨c0, c1⟩ := t1'.cells
  obtain ⟨d0, d1⟩ := t2'.cells
  have f0 := t2'.fz 0
  have f1 := t2'.fz 1
  have hp := t2'.put (h : Int) r
  have hch := putB_ch W2 (w.heap.size + 1) (h : Int) r
  unfold putB at hp hch
  obtain ⟨s0, s1⟩ := hp.cells
  clear hk hr t2 t1
  go_enter Tryz.func127, Tryz.ntmps127
  go_wp2
  refine bodyPost_ret (v := .agg #[.int .i64 (h : Int), .int .u64 (r : Int)]) (by simp [results, Tryz.results127, go_sem, s0, s1]) rfl ⟨rfl, ?_⟩
  exact (bnext hb hb2).trans (hch.below (by rintro b rfl; omega))
structure JS (w : World) (s0 : Nat) (v u : Value) (T : List (Nat × Nat)) (P : List ByteArray) : Prop where
  ct : w.heap[s0 + 1]? = some (.cells #[v] 65 (0, 0))
  cp : w.heap[s0 + 2]? = some (.cells #[u] 22 (0, 0))
  ot : Cv.OwnB w (s0 + 3) v (zl T)
  op : OwnS w (s0 + 3) u P
section
variable {w W : World} {s0 q : Nat} {v u : Value} {T : List (Nat × Nat)} {P : List ByteArray}
theorem JS.lt (h : JS w s0 v u T P) : s0 + 2 < w.heap.size := (Array.getElem?_eq_some_iff.1 h.cp).1
theorem JS.same (h : JS w s0 v u T P) (hb : ∀ b, b < w.heap.size → s0 + 1 ≤ b → b ≠ q → W.heap[b]? = w.heap[b]?) (hv : ∀ g, v.ownBlock = some g → g ≠ q) (hu : ∀ g, u.ownBlock = some g → g ≠ q) (hq : s0 + 2 < q) : JS W s0 v u T P := by
  have hl := h.lt
  refine ⟨(hb _ (by omega) (by omega) (by omega)).trans h.ct, (hb _ hl (by omega) (by omega)).trans h.cp, keep_row h.ot fun g hg hg2 => hb g (World.ownsRow.lt h.ot g hg).2 (by omega) (hv g hg), keep_row h.op fun g hg hg2 => hb g (World.ownsRow.lt h.op g hg).2 (by omega) (hu g hg)⟩
theorem JS.next (h : JS w s0 v u T P) (hb : Below w.heap.size w W) : JS W s0 v u T P := by
  have hl := h.lt
  exact ⟨(hb.block _ (by omega)).trans h.ct, (hb.block _ hl).trans h.cp, row_nextJ h.ot hb, row_nextJ h.op hb⟩
end
theorem own_cut {w : World} {B T s : Nat} {g cap n m : Nat} {xs ys : List Value} (h : w.ownsRow B T s (.slice (some ⟨g, 0, none⟩) n cap) n (xs ++ ys)) (hm : xs.length = m * s) (hl : m ≤ n) : w.ownsRow B T s (.slice (some ⟨g, 0, none⟩) m cap) m xs := by
  obtain ⟨h1, h2⟩ := h
  refine ⟨hm, ?_⟩
  rcases h2 with ⟨h2, _⟩ | ⟨g', cap', cur, hv, hg, hh, hc, hm2, hs, hx⟩
  · cases h2
  · cases hv
    refine .inr ⟨g, cap, cur, rfl, hg, hh, by omega, hm2, hs, ?_⟩
    have e : cur.toList.take (m * s) = (cur.toList.take (n * s)).take (m * s) := by
      rw [List.take_take]
      congr 1
      have := Nat.mul_le_mul_right s hl
      omega
    rw [e, hx, ← hm, List.take_left]
theorem own_len {w : World} {B T s n m c : Nat} {ao : Option Addr} {xs : List Value} (h : w.ownsRow B T s (.slice ao m c) n xs) : m = n := by
  rcases h.2 with ⟨h2, h3⟩ | ⟨_, _, _, h2, _⟩
  · cases h2; exact h3.symm
  · cases h2; rfl
theorem own_some {w : World} {B T s n m c : Nat} {ao : Option Addr} {xs : List Value} (h : w.ownsRow B T s (.slice ao m c) n xs) (hn : 0 < n) : ∃ g, ao = some ⟨g, 0, none⟩ ∧ B ≤ g ∧ g < w.heap.size := by
  rcases h.2 with ⟨_, h3⟩ | ⟨g, _, _, h2, hg, hh, _⟩
  · omega
  · cases h2; exact ⟨g, rfl, hg, (Array.getElem?_eq_some_iff.1 hh).1⟩
theorem step_apR (w : World) {ops : Array Oper} {o : Oper} {a : Act} {K : Act → World → Prop} {Q : Exit → Act → World → Prop} {E : Prop} (hgd : o.guard = none)
    (s x : Operand) (t : TypeId) (hop : o.op = Op.call { callee := Callee.builtin Builtin.append, args := #[s, x], argTypes := #[t, t] })
    (B : Nat) (e : TypeId) (i : TypeInfo) (z : Value) (size bytes : Nat) (h1 : Tryz.prog.underlying t = some (.slice e)) (h2 : Tryz.prog.info? e = some i) (h3 : i.zero = some z) (h4 : i.size = size) (h5 : i.bytes = bytes) (h6 : z.cells.size = size) (h7 : 0 < size)
    (v : Value) (n : Nat) (xs : List Value) (hs : a.eval s = v) (hown : w.ownsRow B e size v n xs) (ad : Addr) (m cap : Nat) (news : List Value) (hx : a.eval x = .slice (some ad) m cap) (hn : news.length = m * size) (hc : ∀ j u, news[j]? = some u → w.cell? (ad.add j) = some u) (h1c : ∀ u ∈ news, u.oneCell' = true)
    (b1 : n + m ≤ maxLen) (b2 : (n + m) * bytes ≤ 140737488355328) (hB : B ≤ w.heap.size)
    (hK : ∀ v' w', w'.ownsRow B e size v' (n + m) (xs ++ news) → w.grownBy w' v.ownBlock → K (a.put o.dst v') w') : if Region.wanted o (yielded ops a.tmps) = true then Oper.wp Tryz.prog o a w K Q else E := by
  have hw : Region.wanted o (yielded ops a.tmps) = true := by simp [Region.wanted, hgd]
  rw [if_pos hw]
  obtain ⟨v', w', hrun, r1, r2, _⟩ := run_append_own (P := Tryz.prog) w B t o.type e i z size bytes h1 h2 h3 h4 h5 h6 h7 v n xs hown ad m cap news hn hc h1c b1 b2 hB
  unfold Oper.wp
  simp [execOp, hop, resolve, invoke, builtin, hs, hx, hrun, Result.andThen]
  exact hK v' w' r1 r2
theorem step_apB (w : World) {ops : Array Oper} {o : Oper} {a : Act} {K : Act → World → Prop} {Q : Exit → Act → World → Prop} {E : Prop} (hgd : o.guard = none)
    (s x : Operand) (hop : o.op = Op.call { callee := Callee.builtin Builtin.append, args := #[s, x], argTypes := #[65, 65] })
    (B : Nat) (v : Value) (T : List (Nat × Nat)) (hs : a.eval s = v) (hown : Cv.OwnB w B v (zl T)) (g h k : Nat) (hx : a.eval x = .slice (some ⟨g, 0, none⟩) 1 1) (hc : Tw w g (h : Int) k) (hl : T.length ≤ 1000) (hB : B ≤ w.heap.size)
    (hK : ∀ v' w', Cv.OwnB w' B v' (zl (T ++ [(h, k)])) → w.grownBy w' v.ownBlock → K (a.put o.dst v') w') : if Region.wanted o (yielded ops a.tmps) = true then Oper.wp Tryz.prog o a w K Q else E := by
  obtain ⟨i0, hi, hz0, hz1, hz2⟩ := info_parts Cv.Tryz.infoB
  obtain ⟨c0, c1⟩ := hc.cells
  refine step_apR w hgd s x 65 hop B 94 i0 (.agg #[.int .i64 0, .int .u64 0]) 2 16 Tryz.underlying65 hi hz0 hz1 hz2 rfl (by decide) v _ _ hs hown ⟨g, 0, none⟩ 1 1 [.int .i64 (h : Int), .int .u64 (k : Int)] hx rfl (fun j u hj => ?_) (by intro u hu; simp at hu; rcases hu with rfl | rfl <;> rfl) (by rw [Cv.zl_len]; unfold maxLen; omega) (by rw [Cv.zl_len]; omega) hB (fun v' w' r1 r2 => hK v' w' ?_ r2)
  · match j, hj with
    | 0, hj => simp at hj; subst hj; simpa [Addr.add] using c0
    | 1, hj => simp at hj; subst hj; simpa [Addr.add] using c1
  · rw [Cv.zl_app, Cv.OwnB, Cv.cB_app, List.length_append]
    exact r1
theorem step_apS (w : World) {ops : Array Oper} {o : Oper} {a : Act} {K : Act → World → Prop} {Q : Exit → Act → World → Prop} {E : Prop} (hgd : o.guard = none)
    (s x : Operand) (hop : o.op = Op.call { callee := Callee.builtin Builtin.append, args := #[s, x], argTypes := #[22, 22] })
    (B : Nat) (v : Value) (P : List ByteArray) (hs : a.eval s = v) (hown : OwnS w B v P) (g : Nat) (d : ByteArray) (hx : a.eval x = .slice (some ⟨g, 0, none⟩) 1 1) (hc : w.cell? ⟨g, 0, none⟩ = some (.string d)) (hl : P.length ≤ 1000) (hB : B ≤ w.heap.size)
    (hK : ∀ v' w', OwnS w' B v' (P ++ [d]) → w.grownBy w' v.ownBlock → K (a.put o.dst v') w') : if Region.wanted o (yielded ops a.tmps) = true then Oper.wp Tryz.prog o a w K Q else E := by
  obtain ⟨i0, hi, hz0, hz1, hz2⟩ := info_parts Tryz.infoS
  refine step_apR w hgd s x 22 hop B 9 i0 (.string ByteArray.empty) 1 16 Tryz.underlying22 hi hz0 hz1 hz2 rfl (by decide) v _ _ hs hown ⟨g, 0, none⟩ 1 1 [.string d] hx rfl (fun j u hj => ?_) (by intro u hu; simp at hu; rcases hu with rfl; rfl) (by unfold maxLen; omega) (by omega) hB (fun v' w' r1 r2 => hK v' w' ?_ r2)
  · match j, hj with
    | 0, hj => simp at hj; subst hj; simpa [Addr.add] using hc
  · rw [OwnS, List.map_append, List.length_append]
    exact r1
end Go.Proofs.YtipcenbndhnnhaaGreatDoor
