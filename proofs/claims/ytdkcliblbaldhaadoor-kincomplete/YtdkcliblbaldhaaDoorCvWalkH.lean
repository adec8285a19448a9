/-
  Walks of the laws' own helpers: span, tiles; num.Ones. Own work.
-/
import Derived.Test.YtdkcliblbaldhaaDoorCvWalkG
namespace Go.Proofs.YtdkcliblbaldhaaDoor.Cv
open Pl
open Go.RowKit
attribute [local go_sem ↓] Go.wp_at_zero Go.wp_at_succ
abbrev bv (h k : Nat) : Value := .agg #[.int .i64 (h : Int), .int .u64 (k : Int)]
theorem u64_nat {a : Int} (wf : (Lit.int .u64 a).wf = true) : ∃ n : Nat, a = (n : Int) ∧ n < 2 ^ 64 := by
  have := bounds_u64 wf
  exact ⟨a.toNat, by omega, by omega⟩
/-- Blocks one behind the other, from p to q. -/
def Row (q : Nat) : Nat → List (Nat × Nat) → Prop
  | p, [] => p = q
  | p, b :: L => p = b.2 * pw b.1 ∧ b.1 ≤ 40 ∧ b.2 < pw (40 - b.1) ∧ Row q ((b.2 + 1) * pw b.1) L
theorem row_app {q m : Nat} {M : List (Nat × Nat)} (h' : Row q m M) : ∀ {L : List (Nat × Nat)} {p : Nat}, Row m p L → Row q p (L ++ M) := by
  intro L
  induction L with
  | nil => intro p h; obtain rfl : p = m := h; exact h'
  | cons b L ih => intro p h; exact ⟨h.1, h.2.1, h.2.2.1, ih h.2.2.2⟩
theorem blk_may {h k : Nat} (hb : (k + 1) * pw h ≤ 2 ^ 40) : h ≤ 40 ∧ k < pw (40 - h) := by
  have h1 : pw h ≤ (k + 1) * pw h := Nat.le_mul_of_pos_left _ (by omega)
  have hh : h ≤ 40 := pw40 (by omega)
  refine ⟨hh, ?_⟩
  have e : (2 : Nat) ^ 40 = pw (40 - h) * pw h := by rw [← pw_add, show 40 - h + h = 40 by omega]; rfl
  rw [e] at hb
  exact Nat.lt_of_lt_of_le (Nat.lt_succ_self k) (Nat.le_of_mul_le_mul_right hb (pw_pos h))
theorem til_row {lo hi : Nat} (hhi : hi ≤ 2 ^ 40) : ∀ {L : List (Nat × Nat)} {p : Nat}, lo ≤ p → Til (Rg lo hi) hi p L → Row hi p L := by
  intro L
  induction L with
  | nil =>
    intro p h1 h2
    show p = hi
    have := h2.1
    by_cases he : p = hi
    · exact he
    · exact absurd ⟨h1, by omega⟩ (h2.2 p (Nat.le_refl _) (by omega))
  | cons b L ih =>
    intro p h1 h2
    obtain ⟨a1, a2, a3, a4, a5, a6⟩ := h2
    have hlt := blk_lt b.1 b.2
    have hm := blk_may (Nat.le_trans a2 hhi)
    refine ⟨?_, hm.1, hm.2, ih (by omega) a6⟩
    by_cases he : p = b.2 * pw b.1
    · exact he
    · exact absurd ⟨h1, by omega⟩ (a3 p (Nat.le_refl _) (by omega))
theorem cov_row (lo hi : Nat) (h : lo ≤ hi) (hhi : hi ≤ 2 ^ 40) : Row hi lo (cov lo hi) := til_row hhi (Nat.le_refl _) (cov_til lo hi h hhi)
theorem til_mem {A : Nat → Prop} {q : Nat} : ∀ {L : List (Nat × Nat)} {p : Nat}, Til A q p L → ∀ b ∈ L, ¬ All A (b.1 + 1) (b.2 / 2) ∧ (b.2 + 1) * pw b.1 ≤ q := by
  intro L
  induction L with
  | nil => intro p _ b hb; cases hb
  | cons c L ih =>
    intro p h b hb
    rcases List.mem_cons.1 hb with rfl | hb
    · exact ⟨h.2.2.2.2.1, h.2.1⟩
    · exact ih h.2.2.2.2.2 b hb
theorem drop_at {α : Type} (d : α) (l : List α) (j : Nat) (h : j < l.length) : l.drop j = l.getD j d :: l.drop (j + 1) := by
  rw [List.drop_eq_getElem_cons h, List.getD_eq_getElem?_getD, List.getElem?_eq_getElem h]; rfl
theorem zl_getD (L : List (Nat × Nat)) (j : Nat) : (zl L).getD j (0, 0) = (((L.getD j (0, 0)).1 : Int), (L.getD j (0, 0)).2) := by
  by_cases h : j < L.length
  · simp [zl, List.getD_eq_getElem?_getD, List.getElem?_eq_getElem h]
  · simp [zl, List.getD_eq_getElem?_getD, List.getElem?_eq_none (Nat.le_of_not_lt h)]
theorem bit_eq (n k : Nat) (hn : n < 2 ^ 64) : (bits BinOp.and IntKind.u64 ((n : Int) / 2 ^ k) 1 == 1) = decide (n / 2 ^ k % 2 = 1) := by
  have e : ((n : Int) / 2 ^ k) = ((n / 2 ^ k : Nat) : Int) := by simp
  rw [e]
  have hm : n / 2 ^ k < 18446744073709551616 := Nat.lt_of_le_of_lt (Nat.div_le_self _ _) hn
  revert hm
  generalize n / 2 ^ k = m
  intro hm
  have := bits_and_u64_nat m 1 hm (by decide)
  rw [show (1 : Int) = ((1 : Nat) : Int) from rfl, this, Nat.and_one_is_mod]
  by_cases h : m % 2 = 1
  · simp [h]
  · have : m % 2 = 0 := by omega
    simp [this]
theorem isOne_any (n k : Nat) (w : World) (hn : n < 2 ^ 64) (hk : k < 64) :
    Calls Tryd.prog 43 #[.int .u64 n, .int .i64 k] w fun e w' => e = .returned (.bool (decide (n / 2 ^ k % 2 = 1))) ∧ w' = w := by
  have hk0 : (0 : Int) ≤ (k : Int) := Int.natCast_nonneg _
  go_enter Tryd.func43, Tryd.ntmps43
  go_wp2
  go_ret
  refine ⟨?_, rfl⟩
  rw [← bit_eq n k hn]
  rfl
theorem ones_any (n : Nat) (w : World) (hn : n < 2 ^ 64) :
    Calls Tryd.prog 17 #[.int .u64 n] w fun e w' => e = .returned (.int .i64 (ones 64 n : Nat)) ∧ w' = w := by
  go_enter Tryd.func17, Tryd.ntmps17
  go_wp2
  go_loopg [3, 5] 64 (fun g c i wr => ∃ k m : Nat, k ≤ 64 ∧ g = 64 - k ∧ i = .int .i64 k ∧ c = .int .i64 m ∧ m ≤ k ∧ m + ones (64 - k) (n / 2 ^ k) = ones 64 n ∧ w = wr)
  case atStart =>
    go_light
    exact ⟨0, 0, Nat.zero_le _, rfl, rfl, rfl, Nat.zero_le _, by simp, rfl⟩
  case round =>
    obtain ⟨k, m, hk, rfl, rfl, rfl, hm, hs, rfl⟩ := hrel
    have hk0 : (0 : Int) ≤ (k : Int) := Int.natCast_nonneg _
    have hm0 : (0 : Int) ≤ (m : Int) := Int.natCast_nonneg _
    have hm1 : (m : Int) ≤ 64 := by omega
    by_cases hlt : k < 64
    · have hk8 : (k : Int) < 64 := by omega
      have HS := ones_step k n hlt
      have HC := isOne_any n k w hn hlt
      by_cases hb : n / 2 ^ k % 2 = 1
      · rw [decide_eq_true hb] at HC
        go_wp2_with (go_at_call 43; refine HC.mono ?_; rintro e w' ⟨rfl, rfl⟩)
        go_roundg (64 - (k + 1))
        case rel =>
          go_light
          exact ⟨k + 1, m + 1, by omega, rfl, by go_num, by go_num, by omega, by omega, rfl⟩
        case measure => go_light; omega
      · rw [decide_eq_false hb] at HC
        go_wp2_with (go_at_call 43; refine HC.mono ?_; rintro e w' ⟨rfl, rfl⟩)
        go_roundg (64 - (k + 1))
        case rel =>
          go_light
          exact ⟨k + 1, m, by omega, rfl, by go_num, rfl, by omega, by omega, rfl⟩
        case measure => go_light; omega
    · obtain rfl : k = 64 := by omega
      clear hk hlt
      go_wp2
      go_ret
      refine ⟨?_, rfl⟩
      rw [← hs]
      rfl
end Go.Proofs.YtdkcliblbaldhaaDoor.Cv
