/-
  CvSpec, CvBase, CvWalkA, CvWalkB, CvWalkC in one text. Own work.
-/
import Derived.Test.YtdkcliblbaldhaaDoorPlSpec
import Derived.Test.YtdkcliblbaldhaaDoorProg
import Derived.WalkKit
import Derived.WalkSpells
import Derived.Outline
import Derived.KernelRfl
import Derived.Deep.LoopGhost
import Derived.Deep.DrawnRows
import Derived.Deep.Light
import Derived.Deep.MidRow
import Derived.Deep.Onto
import Derived.Deep.RegionWith
import Derived.BigQuiet
import Derived.Laws.Bits64b
import Derived.Handy
import Derived.ArgAppend
import Derived.Laws.AppendOwnNone
/-
  Covers: the largest blocks of a range, of a rest; their laws. Own work.
-/
namespace Go.Proofs.YtdkcliblbaldhaaDoor.Cv
open Pl
/-- Down from a height: a block wherever one fits. -/
def dnL : Nat → Nat → Nat → List (Nat × Nat)
  | 0, _, _ => []
  | h + 1, lo, hi => if pw h ≤ hi - lo then (h, lo / pw h) :: dnL h (lo + pw h) hi else dnL h lo hi
/-- Up from a height: right halves alone; then down. -/
def upL : Nat → Nat → Nat → Nat → List (Nat × Nat)
  | 0, _, _, _ => []
  | f + 1, h, lo, hi => if pw h ≤ hi - lo then (if lo / pw h % 2 = 1 then (h, lo / pw h) :: upL f (h + 1) (lo + pw h) hi else upL f (h + 1) lo hi) else dnL (h + 1) lo hi
/-- The cover of a range. -/
def cov (lo hi : Nat) : List (Nat × Nat) := upL 42 0 lo hi
/-- The covers of the gaps of a set. -/
def rst : Nat → Nat → List Nat → List (Nat × Nat)
  | x, n, [] => cov x n
  | x, n, i :: S => cov x i ++ rst (i + 1) n S
/-- All items of a block are among A. -/
def All (A : Nat → Prop) (h k : Nat) : Prop := ∀ i, k * pw h ≤ i → i < (k + 1) * pw h → A i
/-- Blocks that tile what of p to q is among A, each as great as can be. -/
def Til (A : Nat → Prop) (q : Nat) : Nat → List (Nat × Nat) → Prop
  | p, [] => p ≤ q ∧ ∀ i, p ≤ i → i < q → ¬ A i
  | p, b :: L => p ≤ b.2 * pw b.1 ∧ (b.2 + 1) * pw b.1 ≤ q ∧ (∀ i, p ≤ i → i < b.2 * pw b.1 → ¬ A i) ∧ All A b.1 b.2 ∧ ¬ All A (b.1 + 1) (b.2 / 2) ∧ Til A q ((b.2 + 1) * pw b.1) L
theorem blk_lt (h k : Nat) : k * pw h < (k + 1) * pw h := by
  have := pw_pos h; rw [Nat.add_mul, Nat.one_mul]; omega
/-- A block that begins with a greater one lies, with its parent, in it. -/
theorem in_greater (A : Nat → Prop) (h k h' k' : Nat) (he : k * pw h = k' * pw h') (hl : h < h') (ha : All A h' k') : All A (h + 1) (k / 2) := by
  obtain ⟨d, rfl⟩ : ∃ d, h' = h + 1 + d := ⟨h' - (h + 1), by omega⟩
  have e1 : pw (h + 1 + d) = 2 * pw d * pw h := by rw [pw_add, pw_succ, Nat.mul_comm (2 * pw h), ← Nat.mul_assoc, Nat.mul_comm (pw d)]
  have hp := pw_pos h
  have hd := pw_pos d
  have hk : k = k' * (2 * pw d) := by
    rw [e1, ← Nat.mul_assoc] at he
    exact Nat.eq_of_mul_eq_mul_right hp he
  have hk2 : k / 2 = k' * pw d := by
    rw [hk, show k' * (2 * pw d) = k' * pw d * 2 by rw [Nat.mul_comm 2, Nat.mul_assoc]]
    exact Nat.mul_div_cancel _ (by decide)
  intro i h1 h2
  have e2 : pw (h + 1 + d) = pw d * pw (h + 1) := by rw [pw_add, Nat.mul_comm]
  refine ha i ?_ ?_
  · rw [e2, ← Nat.mul_assoc, ← hk2]; exact h1
  · refine Nat.lt_of_lt_of_le h2 ?_
    rw [e2, ← Nat.mul_assoc, hk2]
    refine Nat.mul_le_mul_right _ ?_
    rw [Nat.add_mul]; omega
theorem til_le {A : Nat → Prop} {q p : Nat} {L : List (Nat × Nat)} (h : Til A q p L) : p ≤ q := by
  cases L with
  | nil => exact h.1
  | cons b L => have := blk_lt b.1 b.2; have h1 := h.1; have h2 := h.2.1; omega
/-- They are the only ones. -/
theorem til_one {A : Nat → Prop} {q : Nat} : ∀ {L L' : List (Nat × Nat)} {p : Nat}, Til A q p L → Til A q p L' → L = L' := by
  intro L
  induction L with
  | nil =>
    intro L' p h h'
    cases L' with
    | nil => rfl
    | cons b L' =>
      obtain ⟨a1, a2, a3, a4, a5, a6⟩ := h'
      have := blk_lt b.1 b.2
      exact absurd (a4 _ (Nat.le_refl _) this) (h.2 _ a1 (by omega))
  | cons c L ih =>
    intro L' p h h'
    cases L' with
    | nil =>
      obtain ⟨a1, a2, a3, a4, a5, a6⟩ := h
      have := blk_lt c.1 c.2
      exact absurd (a4 _ (Nat.le_refl _) this) (h'.2 _ a1 (by omega))
    | cons b L' =>
      obtain ⟨a1, a2, a3, a4, a5, a6⟩ := h
      obtain ⟨b1, b2, b3, b4, b5, b6⟩ := h'
      obtain ⟨h, k⟩ := c
      obtain ⟨h', k'⟩ := b
      simp only at *
      have x1 := blk_lt h k
      have x2 := blk_lt h' k'
      have he : k * pw h = k' * pw h' := by
        rcases Nat.lt_trichotomy (k * pw h) (k' * pw h') with hh | hh | hh
        · exact absurd (a4 _ (Nat.le_refl _) x1) (b3 _ a1 hh)
        · exact hh
        · exact absurd (b4 _ (Nat.le_refl _) x2) (a3 _ b1 hh)
      have hh : h = h' := by
        rcases Nat.lt_trichotomy h h' with hh | hh | hh
        · exact absurd (in_greater A h k h' k' he hh b4) a5
        · exact hh
        · exact absurd (in_greater A h' k' h k he.symm hh a4) b5
      subst hh
      have hk : k = k' := Nat.eq_of_mul_eq_mul_right (pw_pos h) he
      subst hk
      rw [ih a6 b6]
theorem til_pre {A : Nat → Prop} {q p p' : Nat} {L : List (Nat × Nat)} (h : Til A q p' L) (hp : p ≤ p') (hn : ∀ i, p ≤ i → i < p' → ¬ A i) : Til A q p L := by
  cases L with
  | nil => exact ⟨Nat.le_trans hp h.1, fun i h1 h2 => if hi : i < p' then hn i h1 hi else h.2 i (by omega) h2⟩
  | cons b L => exact ⟨Nat.le_trans hp h.1, h.2.1, fun i h1 h2 => if hi : i < p' then hn i h1 hi else h.2.2.1 i (by omega) h2, h.2.2.2⟩
theorem til_app {A : Nat → Prop} {q m : Nat} {L' : List (Nat × Nat)} (h' : Til A q m L') : ∀ {L : List (Nat × Nat)} {p : Nat}, Til A m p L → Til A q p (L ++ L') := by
  intro L
  induction L with
  | nil => intro p h; exact til_pre h' h.1 h.2
  | cons b L ih =>
    intro p h
    have := til_le h'
    exact ⟨h.1, Nat.le_trans h.2.1 this, h.2.2.1, h.2.2.2.1, h.2.2.2.2.1, ih h.2.2.2.2.2⟩
theorem til_suf {A : Nat → Prop} {q q' p : Nat} {L : List (Nat × Nat)} (h : Til A q p L) (hq : q ≤ q') (hn : ∀ i, q ≤ i → i < q' → ¬ A i) : Til A q' p L := by
  have := til_app (A := A) (q := q') (m := q) (L' := []) ⟨hq, hn⟩ h
  rwa [List.append_nil] at this
/-- The items lo to hi - 1. -/
abbrev Rg (lo hi : Nat) : Nat → Prop := fun i => lo ≤ i ∧ i < hi
theorem mul_half (c h : Nat) : c * pw (h + 1) = 2 * c * pw h := by rw [pw_succ, ← Nat.mul_assoc, Nat.mul_comm c]
theorem dn_til (lo0 hi : Nat) : ∀ h lo, (∃ c, lo = c * pw h) → hi - lo < pw h → lo0 ≤ lo → lo ≤ hi → Til (Rg lo0 hi) hi lo (dnL h lo hi) := by
  intro h
  induction h with
  | zero =>
    intro lo _ h2 h3 h4
    rw [pw_zero] at h2
    exact ⟨h4, fun i h5 h6 _ => by omega⟩
  | succ h ih =>
    intro lo h1 h2 h3 h4
    obtain ⟨c, hc⟩ := h1
    have hp := pw_pos h
    have hps := pw_succ h
    rw [mul_half] at hc
    rw [dnL]
    split
    · rename_i hfit
      have hk : lo / pw h = 2 * c := by rw [hc]; exact Nat.mul_div_cancel _ hp
      have e1 : (2 * c + 1) * pw h = lo + pw h := by rw [Nat.add_mul, Nat.one_mul, ← hc]
      have e2 : 2 * c / 2 = c := by omega
      have e3 : c * pw (h + 1) = lo := by rw [mul_half]; exact hc.symm
      rw [hk]
      refine ⟨by show lo ≤ 2 * c * pw h; omega, by show (2 * c + 1) * pw h ≤ hi; omega, fun i i1 i2 => by dsimp only at i2; omega, fun i i1 i2 => ?_, fun hall => ?_, ?_⟩
      · dsimp only at i1 i2; exact ⟨by omega, by omega⟩
      · dsimp only at hall
        rw [e2] at hall
        have := hall hi (by omega) (by rw [Nat.add_mul, Nat.one_mul, e3]; omega)
        exact absurd this.2 (Nat.lt_irrefl _)
      · dsimp only
        rw [e1]
        exact ih (lo + pw h) ⟨2 * c + 1, e1.symm⟩ (by omega) (by omega) (by omega)
    · exact ih lo ⟨2 * c, hc⟩ (by omega) h3 h4
theorem pw40 {h : Nat} (hh : pw h ≤ 2 ^ 40) : h ≤ 40 := by
  by_cases h1 : h ≤ 40
  · exact h1
  · have h2 : pw 41 ≤ pw h := pw_le (by omega)
    have h3 : pw 41 = 2 ^ 41 := rfl
    omega
theorem dn_skip {lo hi h : Nat} (hl : hi - lo < pw h) : dnL (h + 1) lo hi = dnL h lo hi := by
  rw [dnL, if_neg (by omega)]
theorem up_til (lo0 hi : Nat) (hhi : hi ≤ 2 ^ 40) : ∀ f h lo, f + h = 42 → h ≤ 41 → (∃ c, lo = c * pw h) → lo0 ≤ lo → lo < lo0 + pw h → lo ≤ hi → Til (Rg lo0 hi) hi lo (upL f h lo hi) := by
  intro f
  induction f with
  | zero => intro h lo h1 h2; omega
  | succ f ih =>
    intro h lo h1 h2 h3 h4 h5 h6
    obtain ⟨c, hc⟩ := h3
    have hp := pw_pos h
    have hps := pw_succ h
    rw [upL]
    split
    · rename_i hfit
      have hh : h ≤ 40 := pw40 (by omega)
      have hk : lo / pw h = c := by rw [hc]; exact Nat.mul_div_cancel _ hp
      rw [hk]
      have e1 : (c + 1) * pw h = lo + pw h := by rw [Nat.add_mul, Nat.one_mul, ← hc]
      split
      · rename_i hodd
        have e2 : c / 2 * pw (h + 1) + pw h = lo := by
          rw [mul_half, hc]
          have : c = 2 * (c / 2) + 1 := by omega
          conv => rhs; rw [this, Nat.add_mul, Nat.one_mul]
        have e3 : (c + 1) / 2 * pw (h + 1) = lo + pw h := by
          rw [mul_half, ← e1]
          have : c + 1 = 2 * ((c + 1) / 2) := by omega
          conv => rhs; rw [this]
        refine ⟨by show lo ≤ c * pw h; omega, by show (c + 1) * pw h ≤ hi; omega, fun i i1 i2 => by dsimp only at i2; omega, fun i i1 i2 => ?_, fun hall => ?_, ?_⟩
        · dsimp only at i1 i2; exact ⟨by omega, by omega⟩
        · dsimp only at hall
          have := hall _ (Nat.le_refl _) (blk_lt _ _)
          have := this.1
          omega
        · dsimp only
          rw [e1]
          exact ih (h + 1) (lo + pw h) (by omega) (by omega) ⟨_, e3.symm⟩ (by omega) (by omega) (by omega)
      · rename_i hev
        refine ih (h + 1) lo (by omega) (by omega) ⟨c / 2, ?_⟩ h4 (by omega) h6
        rw [mul_half, hc]
        have : c = 2 * (c / 2) := by omega
        conv => lhs; rw [this]
    · rename_i hno
      rw [dn_skip (by omega)]
      exact dn_til lo0 hi h lo ⟨c, hc⟩ (by omega) h4 h6
theorem cov_til (lo hi : Nat) (h : lo ≤ hi) (hhi : hi ≤ 2 ^ 40) : Til (Rg lo hi) hi lo (cov lo hi) :=
  up_til lo hi hhi 42 0 lo rfl (by decide) ⟨lo, by simp [pw]⟩ (Nat.le_refl _) (by rw [pw_zero]; omega) h
theorem cov_self (lo : Nat) : cov lo lo = [] := by simp [cov, upL, pw, dnL]
/- How many. -/
theorem dn_len : ∀ h lo hi, (dnL h lo hi).length ≤ h := by
  intro h
  induction h with
  | zero => intro lo hi; exact Nat.le_refl _
  | succ h ih =>
    intro lo hi
    rw [dnL]
    split
    · have := ih (lo + pw h) hi; simp; omega
    · have := ih lo hi; omega
theorem up_len (hi : Nat) (hhi : hi ≤ 2 ^ 40) : ∀ f h lo, f + h = 42 → h ≤ 40 → lo ≤ hi → (upL f h lo hi).length ≤ 80 - h := by
  intro f
  induction f with
  | zero => intro h lo h1 h2; omega
  | succ f ih =>
    intro h lo h1 h2 h3
    by_cases h40 : h = 40
    · subst h40
      obtain rfl : f = 1 := by omega
      by_cases hfit : pw 40 ≤ hi - lo
      · have e : pw 40 = 2 ^ 40 := rfl
        obtain rfl : lo = 0 := by omega
        obtain rfl : hi = 2 ^ 40 := by omega
        decide
      · rw [upL, if_neg hfit, dn_skip (by omega)]
        have := dn_len 40 lo hi
        omega
    · rw [upL]
      split
      · split
        · have := ih (h + 1) (lo + pw h) (by omega) (by omega) (by omega)
          simp; omega
        · have := ih (h + 1) lo (by omega) (by omega) h3
          omega
      · rw [dn_skip (by omega)]
        have := dn_len h lo hi
        omega
theorem cov_len (lo hi : Nat) (h : lo ≤ hi) (hhi : hi ≤ 2 ^ 40) : (cov lo hi).length ≤ 80 := up_len hi hhi 42 0 lo rfl (by decide) h
theorem dn_more {lo hi h : Nat} (hl : hi - lo < pw h) : ∀ d, dnL (h + d) lo hi = dnL h lo hi := by
  intro d
  induction d with
  | zero => rfl
  | succ d ih =>
    have : pw h ≤ pw (h + d) := pw_le (by omega)
    rw [← Nat.add_assoc, dn_skip (by omega), ih]
theorem up_zero (n : Nat) (hn : n ≤ 2 ^ 40) : ∀ f h, f + h = 42 → h ≤ 41 → upL f h 0 n = dnL 41 0 n := by
  intro f
  induction f with
  | zero => intro h h1 h2; omega
  | succ f ih =>
    intro h h1 h2
    rw [upL]
    split
    · rename_i hfit
      have := pw40 (h := h) (by omega)
      rw [Nat.zero_div, if_neg (by decide)]
      exact ih (h + 1) (by omega) (by omega)
    · rename_i hno
      rw [dn_skip (by omega), show 41 = h + (41 - h) by omega, dn_more (by omega)]
theorem cov_zero (n : Nat) (hn : n ≤ 2 ^ 40) : cov 0 n = dnL 41 0 n := up_zero n hn 42 0 rfl (by decide)
theorem ones_top : ∀ h d, d < pw (h + 1) → ones (h + 1) d = d / pw h + ones h (d % pw h) := by
  intro h
  induction h with
  | zero => intro d hd; simp [ones, pw] at *; omega
  | succ h ih =>
    intro d hd
    have e1 : d % pw (h + 1) = d % 2 + 2 * (d / 2 % pw h) := by rw [pw_succ, Nat.mod_mul]
    have e2 : d / pw (h + 1) = d / 2 / pw h := by rw [pw_succ, Nat.div_div_eq_div_mul]
    rw [ones, ih (d / 2) (by rw [pw_succ] at hd; omega), e1, e2, ones]
    have e3 : (d % 2 + 2 * (d / 2 % pw h)) % 2 = d % 2 := by omega
    have e4 : (d % 2 + 2 * (d / 2 % pw h)) / 2 = d / 2 % pw h := by omega
    rw [e3, e4]; omega
theorem dn_ones : ∀ h lo hi, hi - lo < pw h → (dnL h lo hi).length = ones h (hi - lo) := by
  intro h
  induction h with
  | zero => intro lo hi _; rfl
  | succ h ih =>
    intro lo hi hl
    have hp := pw_pos h
    have hps := pw_succ h
    rw [ones_top h _ hl, dnL]
    split
    · rename_i hfit
      have e1 : (hi - lo) / pw h = 1 := by rw [Nat.div_eq_iff hp]; omega
      have e2 : (hi - lo) % pw h = hi - (lo + pw h) := by rw [Nat.mod_eq_sub_mod hfit, Nat.mod_eq_of_lt (by omega)]; omega
      rw [e1, e2, List.length_cons, ih (lo + pw h) hi (by omega)]; omega
    · rename_i hno
      rw [Nat.div_eq_of_lt (by omega), Nat.mod_eq_of_lt (by omega), ih lo hi (by omega)]; omega
theorem ones_up (j d n : Nat) (h : n < 2 ^ j) : ones (j + d) n = ones j n := by
  induction d with
  | zero => rfl
  | succ d ih => rw [← Nat.add_assoc, ones_more _ _ (Nat.lt_of_lt_of_le h (Nat.pow_le_pow_right (by decide) (by omega))), ih]
theorem cov_ones (n : Nat) (hn : n ≤ 2 ^ 40) : (cov 0 n).length = ones 64 n := by
  rw [cov_zero n hn, dn_ones 41 0 n (by have : pw 41 = 2 ^ 41 := rfl
                                        omega)]
  exact (ones_up 41 23 n (by omega)).symm
theorem cov_forty (n : Nat) (hn : n ≤ 2 ^ 40) : (cov 0 n).length ≤ 40 := by
  by_cases h : n = 2 ^ 40
  · subst h; decide
  · rw [cov_zero n hn, show (41 : Nat) = 40 + 1 from rfl, dn_skip (by have : pw 40 = 2 ^ 40 := rfl
                                                                      omega)]
    exact dn_len 40 0 n
end Go.Proofs.YtdkcliblbaldhaaDoor.Cv
/-
  Lists of blocks and of numbers of one's own; what an append leaves. Own work.
-/
namespace Go.Proofs.YtdkcliblbaldhaaDoor.Cv
open Pl
open Go.RowKit
attribute [local go_sem ↓] Go.wp_at_zero Go.wp_at_succ
theorem Tryd.infoU : (Tryd.prog.info? 28).map (fun i => (i.zero, i.size, i.bytes)) = some (some (.int .u64 0), 1, 8) := by kernel_rfl
theorem Tryd.infoB : (Tryd.prog.info? 82).map (fun i => (i.zero, i.size, i.bytes)) = some (some (.agg #[.int .i64 0, .int .u64 0]), 2, 16) := by kernel_rfl
theorem bnext {w W w2 : World} (h : Below w.heap.size w W) (h2 : Below W.heap.size W w2) : Below w.heap.size w w2 := h.trans (h2.mono h.size)
theorem bal {w W : World} (h : Below w.heap.size w W) (o : Obj) : Below w.heap.size w (W.alloc o) := h.alloc h.size o
theorem below_drewN {B : Nat} {a w : World} (h : Below B a w) (n : Nat) : Below B a (w.drewN n) := ⟨h.os, h.tape, h.output, h.size, h.block⟩
/-- Numbers as cells. -/
abbrev cU (l : List Nat) : List Value := l.map (fun x : Nat => Value.int .u64 (x : Int))
/-- Blocks as cells. -/
def cB : List (Int × Nat) → List Value
  | [] => []
  | b :: r => .int .i64 b.1 :: .int .u64 (b.2 : Int) :: cB r
/-- Blocks of a cover. -/
def zl (L : List (Nat × Nat)) : List (Int × Nat) := L.map (fun b => ((b.1 : Int), b.2))
theorem zl_app (L M : List (Nat × Nat)) : zl (L ++ M) = zl L ++ zl M := List.map_append
theorem zl_len (L : List (Nat × Nat)) : (zl L).length = L.length := List.length_map _
theorem zl_one (h k : Nat) : zl [(h, k)] = [((h : Int), k)] := rfl
theorem zl_inj {L M : List (Nat × Nat)} (h : zl L = zl M) : L = M := by
  refine List.map_inj_right (f := fun b : Nat × Nat => ((b.1 : Int), b.2)) ?_ |>.1 h
  intro a b hab
  cases a; cases b
  simp at hab
  exact Prod.ext (by show _ = _; have := hab.1; omega) hab.2
theorem cB_len (l : List (Int × Nat)) : (cB l).length = l.length * 2 := by
  induction l with
  | nil => rfl
  | cons b r ih => simp [cB, ih]; omega
theorem cB_app (l m : List (Int × Nat)) : cB (l ++ m) = cB l ++ cB m := by
  induction l with
  | nil => rfl
  | cons b r ih => simp [cB, ih]
theorem cB_one (l : List (Int × Nat)) : ∀ u ∈ cB l, u.oneCell' = true := by
  induction l with
  | nil => intro u hu; cases hu
  | cons b r ih =>
    intro u hu
    simp [cB] at hu
    rcases hu with rfl | rfl | hu
    · rfl
    · rfl
    · exact ih u hu
theorem cU_one (l : List Nat) : ∀ u ∈ cU l, u.oneCell' = true := by
  intro u hu; simp [cU] at hu; obtain ⟨y, _, rfl⟩ := hu; rfl
theorem cB_get (l : List (Int × Nat)) (j : Nat) (h : Int) (k : Nat) (hj : l[j]? = some (h, k)) : (cB l)[2 * j]? = some (.int .i64 h) ∧ (cB l)[2 * j + 1]? = some (.int .u64 (k : Int)) := by
  induction l generalizing j with
  | nil => simp at hj
  | cons b r ih =>
    cases j with
    | zero => simp at hj; subst hj; exact ⟨rfl, rfl⟩
    | succ j =>
      have := ih j (by simpa using hj)
      rw [show 2 * (j + 1) = 2 * j + 1 + 1 by omega]
      simpa [cB] using this
/-- A list of blocks of one's own; a list of numbers. -/
abbrev OwnB (w : World) (base : Nat) (v : Value) (l : List (Int × Nat)) : Prop := w.ownsRow base 82 2 v l.length (cB l)
abbrev Own (w : World) (base : Nat) (v : Value) (l : List Nat) : Prop := w.ownsRow base 28 1 v l.length (cU l)
/-- Cells that can be read. -/
def RdC (w : World) (u : Value) (m : Nat) (news : List Value) : Prop :=
  ∃ ao cap, u = .slice ao m cap ∧ (ao = none → m = 0 ∧ cap = 0) ∧ ∀ ad, ao = some ad → ∀ j c, news[j]? = some c → w.cell? (ad.add j) = some c
theorem rdc_own {w : World} {B e size : Nat} {v : Value} {n : Nat} {xs : List Value} (h : w.ownsRow B e size v n xs) : RdC w v n xs := by
  have h0 := h
  obtain ⟨h1, h2⟩ := h
  rcases h2 with ⟨rfl, rfl⟩ | ⟨g, cap, cur, rfl, hg, hh, hc⟩
  · exact ⟨none, 0, rfl, fun _ => ⟨rfl, rfl⟩, fun ad h => by cases h⟩
  · exact ⟨some ⟨g, 0, none⟩, cap, rfl, (fun h => by cases h), fun ad h => by cases h; exact h0.cells rfl⟩
theorem rdc_keep {w w' : World} {u : Value} {m : Nat} {news : List Value} (h : RdC w u m news) (hb : Below w.heap.size w w') : RdC w' u m news := by
  obtain ⟨ao, cap, h1, h2, h3⟩ := h
  exact ⟨ao, cap, h1, h2, fun ad ha j c hj => (hb.cell (World.block_lt_of_cell? w _ (h3 ad ha j c hj))).trans (h3 ad ha j c hj)⟩
/-- An operation whose guard lets it be. -/
theorem wpList_free {P : Program} {ops : Array Oper} {Q : Exit → Act → World → Prop} {a : Act} {w : World} {rest : List Oper} {o : Oper} (hw : Region.wanted o (yielded ops a.tmps) = true) (h : wpList P ops Q ({ o with guard := none } :: rest) a w) : wpList P ops Q (o :: rest) a w := by
  have h1 : Region.wanted { o with guard := none } (yielded ops a.tmps) = true := by simp [Region.wanted]
  simp only [wpList, hw, h1] at h ⊢
  exact h
/-- What an append leaves. -/
structure Ap (w w' : World) (B e size : Nat) (v v' : Value) (n : Nat) (xs : List Value) : Prop where
  own : w'.ownsRow B e size v' n xs
  grown : w.grownBy w' v.ownBlock
  fresh : v'.ownBlock = v.ownBlock ∨ ∀ g, v'.ownBlock = some g → w.heap.size ≤ g
theorem wpList_append_ap (w : World) {ops : Array Oper} {rest : List Oper} {o : Oper} {a : Act} {Q : Exit → Act → World → Prop}
    (hg : o.guard = none) (s x : Operand) (t : TypeId) (hop : o.op = Op.call { callee := Callee.builtin Builtin.append, args := #[s, x], argTypes := #[t, t] })
    (B : Nat) (e : TypeId) (i : TypeInfo) (z : Value) (size bytes : Nat) (h1 : Tryd.prog.underlying t = some (.slice e)) (h2 : Tryd.prog.info? e = some i) (h3 : i.zero = some z) (h4 : i.size = size) (h5 : i.bytes = bytes) (h6 : z.cells.size = size) (h7 : 0 < size)
    (v : Value) (n : Nat) (xs : List Value) (hs : a.eval s = v) (hown : w.ownsRow B e size v n xs) (u : Value) (m : Nat) (news : List Value) (hx : a.eval x = u) (hr : RdC w u m news) (hn : news.length = m * size) (h1c : ∀ u ∈ news, u.oneCell' = true)
    (b1 : n + m ≤ maxLen) (b2 : (n + m) * bytes ≤ 140737488355328) (hB : B ≤ w.heap.size)
    (hK : ∀ v' w', Ap w w' B e size v v' (n + m) (xs ++ news) → wpList Tryd.prog ops Q rest (a.put o.dst v') w') : wpList Tryd.prog ops Q (o :: rest) a w := by
  obtain ⟨ao, cap, rfl, hnone, hcells⟩ := hr
  cases ao with
  | none =>
    obtain ⟨rfl, rfl⟩ := hnone rfl
    have hnil : news = [] := List.length_eq_zero_iff.1 (by rw [hn]; omega)
    subst hnil
    exact wpList_append_own_none hg s x _ hop B e i size h1 h2 v n xs hs hown hx (hK _ w ⟨by simpa using hown, World.grownBy.refl w _, .inl rfl⟩)
  | some ad =>
    have hown0 := hown
    obtain ⟨g1, g2⟩ := hown
    rcases g2 with ⟨rfl, rfl⟩ | ⟨g, cp, cur, rfl, hgb, hh, hc⟩
    · have hxs : xs = [] := List.length_eq_zero_iff.1 (by omega)
      subst hxs
      refine wpList_append_own w hg s x _ hop w.heap.size e i z size bytes h1 h2 h3 h4 h5 h6 h7 _ 0 [] hs (World.ownsRow_nil _ _ _ _) ad m cap news hx hn (hcells ad rfl) h1c b1 b2 (Nat.le_refl _) ?_
      intro v' w' r1 r2 _
      exact hK v' w' ⟨r1.mono hB, r2, .inr fun k hk => (r1.lt k hk).1⟩
    · by_cases hfit : n + m ≤ cp
      · refine wpList_append_fits w hg s x _ hop B e i size h1 h2 h4 g n cp xs hs hown0 ad m cap news hx hn (hcells ad rfl) h1c hfit ?_
        intro w' r1 r2
        exact hK _ w' ⟨r1, r2, .inl rfl⟩
      · refine wpList_append_grows w hg s x _ hop e i z size bytes h1 h2 h3 h4 h5 h6 h7 (some ⟨g, 0, none⟩) n cp xs hs (fun h => by cases h) g1 (fun b hb => by cases hb; exact hown0.cells rfl) ad m cap news hx hn (hcells ad rfl) h1c (by omega) b1 b2 ?_
        intro v' w' r1 r2
        exact hK v' w' ⟨r1.mono hB, ⟨r2.os, r2.tape, r2.output, r2.size, fun k hk _ => r2.block k hk (by simp)⟩, .inr fun k hk => (r1.lt k hk).1⟩
/-- Blocks appended to blocks. -/
theorem wpList_append_B (w : World) {ops : Array Oper} {rest : List Oper} {o : Oper} {a : Act} {Q : Exit → Act → World → Prop}
    (hg : o.guard = none) (s x : Operand) (hop : o.op = Op.call { callee := Callee.builtin Builtin.append, args := #[s, x], argTypes := #[42, 42] })
    (B : Nat) (v : Value) (L : List (Int × Nat)) (hs : a.eval s = v) (hown : OwnB w B v L) (u : Value) (M : List (Int × Nat)) (hx : a.eval x = u) (hr : RdC w u M.length (cB M))
    (hlen : L.length + M.length ≤ 1048576) (hB : B ≤ w.heap.size)
    (hK : ∀ v' w', OwnB w' B v' (L ++ M) → w.grownBy w' v.ownBlock → (v'.ownBlock = v.ownBlock ∨ ∀ g, v'.ownBlock = some g → w.heap.size ≤ g) → wpList Tryd.prog ops Q rest (a.put o.dst v') w') : wpList Tryd.prog ops Q (o :: rest) a w := by
  obtain ⟨i0, hi, hz0, hz1, hz2⟩ := info_parts Tryd.infoB
  refine wpList_append_ap w hg s x _ hop B 82 i0 (.agg #[.int .i64 0, .int .u64 0]) 2 16 Tryd.underlying42 hi hz0 hz1 hz2 rfl (by decide) v L.length (cB L) hs hown u M.length (cB M) hx hr (cB_len M) (cB_one M) (by unfold maxLen; omega) (by omega) hB ?_
  intro v' w' h
  refine hK v' w' ?_ h.grown h.fresh
  rw [OwnB, cB_app, List.length_append]
  exact h.own
/-- Numbers appended to numbers. -/
theorem wpList_append_U (w : World) {ops : Array Oper} {rest : List Oper} {o : Oper} {a : Act} {Q : Exit → Act → World → Prop}
    (hg : o.guard = none) (s x : Operand) (hop : o.op = Op.call { callee := Callee.builtin Builtin.append, args := #[s, x], argTypes := #[30, 30] })
    (B : Nat) (v : Value) (L : List Nat) (hs : a.eval s = v) (hown : Own w B v L) (u : Value) (M : List Nat) (hx : a.eval x = u) (hr : RdC w u M.length (cU M))
    (hlen : L.length + M.length ≤ 1048576) (hB : B ≤ w.heap.size)
    (hK : ∀ v' w', Own w' B v' (L ++ M) → w.grownBy w' v.ownBlock → (v'.ownBlock = v.ownBlock ∨ ∀ g, v'.ownBlock = some g → w.heap.size ≤ g) → wpList Tryd.prog ops Q rest (a.put o.dst v') w') : wpList Tryd.prog ops Q (o :: rest) a w := by
  obtain ⟨i0, hi, hz0, hz1, hz2⟩ := info_parts Tryd.infoU
  refine wpList_append_ap w hg s x _ hop B 28 i0 (.int .u64 0) 1 8 Tryd.underlying30 hi hz0 hz1 hz2 rfl (by decide) v L.length (cU L) hs hown u M.length (cU M) hx hr (by simp [cU]) (cU_one M) (by unfold maxLen; omega) (by omega) hB ?_
  intro v' w' h
  refine hK v' w' ?_ h.grown h.fresh
  have := h.own
  rw [Own, List.length_append]
  simpa [cU] using this
theorem rdc_block (w : World) (h : Int) (k t : Nat) : RdC (w.alloc (.cells #[.int .i64 h, .int .u64 (k : Int)] t)) (.slice (some ⟨w.heap.size, 0, none⟩) 1 1) [(h, k)].length (cB [(h, k)]) := by
  refine ⟨some ⟨w.heap.size, 0, none⟩, 1, rfl, (fun h => by cases h), fun ad ha j c hj => ?_⟩
  cases ha
  match j, hj with
  | 0, hj => simp [cB] at hj; subst hj; simp [Addr.add, World.cell?_alloc_at]
  | 1, hj => simp [cB] at hj; subst hj; simp [Addr.add, World.cell?_alloc_at]
theorem rdc_num (w : World) (k t : Nat) : RdC (w.alloc (.cells #[.int .u64 (k : Int)] t)) (.slice (some ⟨w.heap.size, 0, none⟩) 1 1) [k].length (cU [k]) := by
  refine ⟨some ⟨w.heap.size, 0, none⟩, 1, rfl, (fun h => by cases h), fun ad ha j c hj => ?_⟩
  cases ha
  match j, hj with
  | 0, hj => simp [cU] at hj; subst hj; simp [Addr.add, World.cell?_alloc_at]
theorem ownB_next {w w' : World} {B e size n : Nat} {v : Value} {l : List Value} (h : w.ownsRow B e size v n l) (hb : Below w.heap.size w w') : w'.ownsRow B e size v n l := by
  obtain ⟨h1, h2⟩ := h
  refine ⟨h1, ?_⟩
  rcases h2 with h2 | ⟨g, cap, cur, hv, hg, hh, h3⟩
  · exact .inl h2
  · exact .inr ⟨g, cap, cur, hv, hg, (hb.block g (by have := (Array.getElem?_eq_some_iff.1 hh).1; exact this)).trans hh, h3⟩
theorem ownB_step {B : Nat} {w wr w1 : World} {v : Value} {o : Obj} {e size n : Nat} {xs : List Value} (hB : Below B w wr) (hs : B ≤ wr.heap.size) (hown : wr.ownsRow B e size v n xs) (hg : (wr.alloc o).grownBy w1 v.ownBlock) : Below B w w1 ∧ B ≤ w1.heap.size := by
  have h1 := hg.size
  rw [World.size_alloc] at h1
  exact ⟨(hB.alloc hs o).grown hg (by simp; omega) (fun j hj => (hown.lt j hj).1), by omega⟩
theorem ownB_step0 {B : Nat} {w wr w1 : World} {v : Value} {e size n : Nat} {xs : List Value} (hB : Below B w wr) (hs : B ≤ wr.heap.size) (hown : wr.ownsRow B e size v n xs) (hg : wr.grownBy w1 v.ownBlock) : Below B w w1 ∧ B ≤ w1.heap.size := by
  have h1 := hg.size
  exact ⟨hB.grown hg hs (fun j hj => (hown.lt j hj).1), by omega⟩
end Go.Proofs.YtdkcliblbaldhaaDoor.Cv
/-
  Walks of package cover: what gathers blocks; the blocks of a range. Own work.
-/
namespace Go.Proofs.YtdkcliblbaldhaaDoor.Cv
open Pl
open Go.RowKit
attribute [local go_sem ↓] Go.wp_at_zero Go.wp_at_succ
theorem length_any (h : Nat) (w : World) (hh : h < 64) : Calls Tryd.prog 67 #[.int .i64 (h : Int)] w fun e w' => e = .returned (.int .u64 (pw h : Nat)) ∧ w = w' := by
  have hk0 : (0 : Int) ≤ (h : Int) := Int.natCast_nonneg _
  have hk1 : (h : Int) < 64 := by omega
  have hk2 : ¬ (h : Int) < 0 := by omega
  obtain ⟨p, hp⟩ : ∃ p : Nat, pw h = p := ⟨_, rfl⟩
  have e1 : IntKind.u64.wrap ((2 : Int) ^ h) = (p : Int) := by
    have h64 : pw h ≤ pw 63 := pw_le (by omega)
    have e63 : pw 63 = 2 ^ 63 := rfl
    have e : ((2 : Int) ^ h) = (p : Int) := by rw [← hp]; simp [pw]
    rw [e, IntKind.wrap_u64]; omega
  rw [hp]
  clear hp hh
  go_enter Tryd.func67, Tryd.ntmps67
  go_wp2
  go_ret
  exact ⟨rfl, rfl⟩
theorem heap_al {w : World} {b : Nat} (o : Obj) (hb : b < w.heap.size) : (w.alloc o).heap[b]? = w.heap[b]? := (World.grownBy_alloc w o none).block b hb (by simp)
theorem own_of_block {w w' : World} {B e size n : Nat} {v : Value} {xs : List Value} (h : w.ownsRow B e size v n xs) (hb : ∀ g, v.ownBlock = some g → w'.heap[g]? = w.heap[g]?) : w'.ownsRow B e size v n xs := by
  obtain ⟨h1, h2⟩ := h
  refine ⟨h1, ?_⟩
  rcases h2 with h2 | ⟨g, cap, cur, hv, hg, hh, h3⟩
  · exact .inl h2
  · subst hv
    exact .inr ⟨g, cap, cur, rfl, hg, (hb g rfl).trans hh, h3⟩
theorem own_slice {w : World} {B e size n : Nat} {v : Value} {xs : List Value} (h : w.ownsRow B e size v n xs) : ∃ ao m c, v = .slice ao m c := by
  rcases h.2 with ⟨rfl, _⟩ | ⟨g, cap, cur, rfl, _⟩
  · exact ⟨_, _, _, rfl⟩
  · exact ⟨_, _, _, rfl⟩
/-- Something that gathers blocks: function k, its captured variable in block B0, what is gathered, which blocks it never touches. -/
structure Give (k B0 : Nat) (I : (Nat → Prop) → List (Nat × Nat) → World → Prop) : Prop where
  give : ∀ X acc (h q : Nat) w, I X acc w → (∀ x, X x → x < w.heap.size) → acc.length < 1000000 →
    Calls Tryd.prog k #[.agg #[.int .i64 (h : Int), .int .u64 (q : Int)], .pointer (some ⟨B0, 0, none⟩)] w fun e w' => e = .returned (.tuple #[]) ∧ I X (acc ++ [(h, q)]) w' ∧ Below B0 w w' ∧ ∀ x, X x → w'.heap[x]? = w.heap[x]?
  stay : ∀ X X' acc w w', I X acc w → (∀ b, b < w.heap.size → ¬ X b → w'.heap[b]? = w.heap[b]?) → (∀ x, X' x → X x ∨ w.heap.size ≤ x) → I X' acc w'
  lt : ∀ X acc w, I X acc w → B0 < w.heap.size
structure IA (B0 : Nat) (X : Nat → Prop) (acc : List (Nat × Nat)) (w : World) : Prop where
  ex : ∃ v, w.heap[B0]? = some (.cells #[v] 42 (0, 0)) ∧ OwnB w (B0 + 1) v (zl acc) ∧ ∀ g, v.ownBlock = some g → ¬ X g
  nx : ¬ X B0
theorem ia_stay (B0 : Nat) (X X' : Nat → Prop) (acc : List (Nat × Nat)) (w w' : World) (h : IA B0 X acc w) (hb : ∀ b, b < w.heap.size → ¬ X b → w'.heap[b]? = w.heap[b]?) (hx : ∀ x, X' x → X x ∨ w.heap.size ≤ x) : IA B0 X' acc w' := by
  obtain ⟨⟨v, h1, h2, h3⟩, h4⟩ := h
  have hlt : B0 < w.heap.size := (Array.getElem?_eq_some_iff.1 h1).1
  refine ⟨⟨v, (hb B0 hlt h4).trans h1, own_of_block h2 (fun g hg => hb g (h2.lt g hg).2 (h3 g hg)), fun g hg hxg => ?_⟩, fun hx0 => ?_⟩
  · rcases hx g hxg with h | h
    · exact h3 g hg h
    · have := (h2.lt g hg).2; omega
  · rcases hx B0 hx0 with h | h
    · exact h4 h
    · omega
theorem ia_lt (B0 : Nat) (X : Nat → Prop) (acc : List (Nat × Nat)) (w : World) (h : IA B0 X acc w) : B0 < w.heap.size := by
  obtain ⟨⟨v, h1, h2, h3⟩, h4⟩ := h
  exact (Array.getElem?_eq_some_iff.1 h1).1
theorem ia_after {B0 h q : Nat} {X : Nat → Prop} {acc : List (Nat × Nat)} {w w1 : World} {v v' : Value} {o1 o2 : Obj} (h1 : w.heap[B0]? = some (.cells #[v] 42 (0, 0))) (h2 : OwnB w (B0 + 1) v (zl acc)) (h3 : ∀ g, v.ownBlock = some g → ¬ X g) (h4 : ¬ X B0) (hX : ∀ x, X x → x < w.heap.size)
    (hown : OwnB w1 (B0 + 1) v' (zl acc ++ [((h : Int), q)])) (hg : ((w.alloc o1).alloc o2).grownBy w1 v.ownBlock) (hf : v'.ownBlock = v.ownBlock ∨ ∀ g, v'.ownBlock = some g → w.heap.size + 1 + 1 ≤ g) :
    IA B0 X (acc ++ [(h, q)]) (w1.setCell ⟨B0, 0, none⟩ v') ∧ Below B0 w (w1.setCell ⟨B0, 0, none⟩ v') ∧ ∀ x, X x → (w1.setCell ⟨B0, 0, none⟩ v').heap[x]? = w.heap[x]? := by
  have hlt : B0 < w.heap.size := (Array.getElem?_eq_some_iff.1 h1).1
  have hbl : ∀ b, b < w.heap.size → some b ≠ v.ownBlock → w1.heap[b]? = w.heap[b]? := fun b hb hne => by
    rw [hg.block b (by simp; omega) hne, heap_al _ (by simp; omega), heap_al _ hb]
  have hne0 : some B0 ≠ v.ownBlock := fun e => by have := (h2.lt B0 e.symm).1; omega
  have c1 : w1.heap[B0]? = some (.cells #[v] 42 (0, 0)) := (hbl B0 hlt hne0).trans h1
  have hoth : ∀ b, b ≠ B0 → (w1.setCell ⟨B0, 0, none⟩ v').heap[b]? = w1.heap[b]? := fun b hb => Below.heap_setCell _ _ _ _ hb
  refine ⟨⟨⟨v', one_setCell c1, ?_, ?_⟩, h4⟩, ?_, ?_⟩
  · rw [zl_app, zl_one]
    exact own_of_block hown (fun g hgg => hoth g (by have := (hown.lt g hgg).1; omega))
  · intro g hgg hxg
    rcases hf with hf | hf
    · exact h3 g (hf ▸ hgg) hxg
    · have := hf g hgg
      have := hX g hxg
      simp at *; omega
  · have b1 : Below B0 w w1 := by
      have := ((Below.refl B0 w).alloc (by omega) o1).alloc (by simp; omega) o2
      exact this.grown hg (by simp; omega) (fun j hj => by have := (h2.lt j hj).1; omega)
    exact b1.setCell (Nat.le_refl _) _
  · intro x hx
    have hne : x ≠ B0 := fun e => h4 (e ▸ hx)
    rw [hoth x hne]
    exact hbl x (hX x hx) (fun e => h3 x e.symm hx)
theorem give_range (B0 : Nat) : Give 42 B0 (IA B0) := by
  refine ⟨fun X acc h q w hI hX hl => ?_, ia_stay B0, ia_lt B0⟩
  obtain ⟨⟨v, h1, h2, h3⟩, h4⟩ := hI
  have hlt : B0 < w.heap.size := (Array.getElem?_eq_some_iff.1 h1).1
  have cV := cell_of_one h1
  have HH : Hid (w.heap[B0]? = some (.cells #[v] 42 (0, 0)) ∧ OwnB w (B0 + 1) v (zl acc) ∧ (∀ g, v.ownBlock = some g → ¬ X g) ∧ ¬ X B0 ∧ (∀ x, X x → x < w.heap.size) ∧ acc.length < 1000000) := ⟨h1, h2, h3, h4, hX, hl⟩
  have hne : ¬ B0 = w.heap.size := by omega
  have hle : B0 + 1 ≤ w.heap.size := hlt
  have cV1 : ∀ o : Obj, (w.alloc o).cell? ⟨B0, 0, none⟩ = some v := fun o => (World.cell?_of_block (heap_al o hlt)).trans cV
  clear h1 h3 h4 hX hl hlt cV
  have hle2 : B0 + 1 ≤ w.heap.size + 1 + 1 := by omega
  have hown2 := fun (o1 o2 : Obj) => (h2.alloc o1).alloc o2
  clear h2
  go_enter Tryd.func42, Tryd.ntmps42
  go_wp2_with (at_builtin; refine wpList_append_B _ rfl _ _ rfl (B0 + 1) v (zl acc) rfl (hown2 _ _) (.slice (some ⟨w.heap.size + 1, 0, none⟩) 1 1) [((h : Int), q)] rfl ?c1 ?c2 ?c3 ?_)
  case c1 => have := rdc_block (w.alloc (.cells #[.int .i64 (h : Int), .int .u64 (q : Int)] 82)) h q 82; rw [World.size_alloc] at this; exact this
  case c2 => have := HH.out.2.2.2.2.2; simp [zl_len]; omega
  case c3 => simp; omega
  intro v' w1 r1 r2 r3
  obtain ⟨ao, n1, cp1, rfl⟩ := own_slice r1
  have R := ia_after HH.out.1 HH.out.2.1 HH.out.2.2.1 HH.out.2.2.2.1 HH.out.2.2.2.2.1 r1 r2 r3
  have c1 : w1.heap[B0]? = some (.cells #[v] 42 (0, 0)) := by
    rw [r2.block B0 (by simp; omega) (fun e => by have := (HH.out.2.1.lt B0 e.symm).1; omega), heap_al _ (by simp; omega), heap_al _ (by omega)]; exact HH.out.1
  have cW := cell_of_one c1
  have fW := free_of_one c1
  clear r1 r2 r3 c1 cV1
  go_wp2
  go_end0
  exact ⟨rfl, R⟩
/-- What counts blocks. -/
structure IC (B0 : Nat) (X : Nat → Prop) (acc : List (Nat × Nat)) (w : World) : Prop where
  at0 : w.heap[B0]? = some (.cells #[.int .u64 (acc.length : Int)] 28 (0, 0))
  nx : ¬ X B0
/-- The value that gathers. -/
abbrev gv (k B0 : Nat) : Value := .func (.func k) #[] #[.pointer (some ⟨B0, 0, none⟩)]
set_option maxHeartbeats 4000000 in
theorem take_any {k B0 : Nat} (hk : k = 42 ∨ False ∨ False) {I : (Nat → Prop) → List (Nat × Nat) → World → Prop} (G : Give k B0 I) (c : Nat) (X : Nat → Prop) (acc : List (Nat × Nat)) (h lo : Nat) (w : World)
    (hI : I X acc w) (hX : ∀ x, X x → x < w.heap.size) (hl : acc.length < 1000000) (x0 : X c) (x1 : X (c + 1)) (hc : B0 < c)
    (c0 : w.heap[c]? = some (.cells #[.int .u64 (lo : Int)] 28 (0, 0))) (c1 : w.heap[c + 1]? = some (.cells #[gv k B0] 83 (0, 0))) (hh : h < 41) (hlo : lo ≤ 2 ^ 40) :
    Calls Tryd.prog 66 #[.int .i64 (h : Int), .pointer (some ⟨c + 1, 0, none⟩), .pointer (some ⟨c, 0, none⟩)] w fun e w' => e = .returned (.tuple #[]) ∧ I X (acc ++ [(h, lo / pw h)]) w' ∧ Below B0 w w' ∧
      w'.heap[c]? = some (.cells #[.int .u64 ((lo + pw h : Nat) : Int)] 28 (0, 0)) ∧ ∀ x, X x → x ≠ c → w'.heap[x]? = w.heap[x]? := by
  have d0 := cell_of_one c0
  have d1 := cell_of_one c1
  obtain ⟨q, hq⟩ : ∃ q, lo / pw h = q := ⟨_, rfl⟩
  have eq : (lo : Int) / 2 ^ h = (q : Int) := by rw [← hq]; simp [pw]
  have HG : Calls Tryd.prog k #[.agg #[.int .i64 (h : Int), .int .u64 (q : Int)], .pointer (some ⟨B0, 0, none⟩)] w.drew fun e w' => e = .returned (.tuple #[]) ∧ I X (acc ++ [(h, q)]) w' ∧ Below B0 w w' ∧ ∀ x, X x → w'.heap[x]? = w.heap[x]? :=
    (G.give X acc h q w.drew (G.stay X X acc w w.drew hI (fun _ _ _ => rfl) (fun x hx => .inl hx)) hX hl).mono fun e w' r => ⟨r.1, r.2.1, ⟨r.2.2.1.os, r.2.2.1.tape, r.2.2.1.output, r.2.2.1.size, r.2.2.1.block⟩, r.2.2.2⟩
  have HL := fun w' => length_any h w' (by omega)
  have hp : pw h ≤ pw 40 := pw_le (by omega)
  have e40 : pw 40 = 2 ^ 40 := rfl
  rw [hq]
  obtain ⟨p, hpp⟩ : ∃ p, pw h = p := ⟨_, rfl⟩
  rw [hpp] at hp ⊢
  simp only [hpp] at HL
  have es : IntKind.u64.wrap ((lo : Int) + (p : Int)) = ((lo + p : Nat) : Int) := by rw [IntKind.wrap_u64]; omega
  have hk0 : (0 : Int) ≤ (h : Int) := Int.natCast_nonneg _
  have hk1 : (h : Int) < 64 := by omega
  have hk2 : ¬ (h : Int) < 0 := by omega
  have HH : Hid (I X acc w ∧ (∀ x, X x → x < w.heap.size) ∧ X c ∧ X (c + 1) ∧ B0 < c ∧ w.heap[c]? = some (.cells #[.int .u64 (lo : Int)] 28 (0, 0))) := ⟨hI, hX, x0, x1, hc, c0⟩
  clear hI hX hl x0 x1 hc c0 c1 hh hlo hq hp e40 hpp
  obtain rfl : k = 42 := hk.elim id fun hf => hf.elim False.elim False.elim
  all_goals
    go_enter Tryd.func66, Tryd.ntmps66
    go_wp2
    go_region_with (with_reducible refine HG.mono ?_; rintro e w1 ⟨rfl, hI1, hb1, hx1⟩)
    all_goals
      have c0' : w1.heap[c]? = some (.cells #[.int .u64 (lo : Int)] 28 (0, 0)) := (hx1 c HH.out.2.2.1).trans HH.out.2.2.2.2.2
      have k0 := cell_of_one c0'
      have k1 := free_of_one c0'
      have R : ∀ W : World, W.heap = (w1.setCell ⟨c, 0, none⟩ (.int .u64 ((lo + p : Nat) : Int))).heap → Below B0 w W → I X (acc ++ [(h, q)]) W ∧ Below B0 w W ∧
          W.heap[c]? = some (.cells #[.int .u64 ((lo + p : Nat) : Int)] 28 (0, 0)) ∧ ∀ x, X x → x ≠ c → W.heap[x]? = w.heap[x]? := fun W hW hbW => by
        refine ⟨G.stay X X _ w1 W hI1 (fun b hb hnx => ?_) (fun x hx => .inl hx), hbW, ?_, fun x hx hne => ?_⟩
        · rw [hW]; exact Below.heap_setCell _ _ _ _ (fun e => hnx (e ▸ HH.out.2.2.1))
        · rw [hW]; exact one_setCell c0'
        · rw [hW]; exact (Below.heap_setCell _ _ _ _ hne).trans (hx1 x hx)
      have hbs : Below B0 w (w1.setCell ⟨c, 0, none⟩ (.int .u64 ((lo + p : Nat) : Int))) := hb1.setCell (Nat.le_of_lt HH.out.2.2.2.2.1) _
      clear c0' hI1 hb1 hx1 d0 d1 HG
      go_wp2
      go_region_with (go_at_call 67; with_reducible refine (HL _).mono ?_; rintro e w2 ⟨rfl, rfl⟩)
      all_goals
        go_wp2
        go_end0
        exact ⟨rfl, R _ rfl ⟨hbs.os, hbs.tape, hbs.output, hbs.size, hbs.block⟩⟩
end Go.Proofs.YtdkcliblbaldhaaDoor.Cv
/-
  Walks of package cover: eachOfRange. Own work.
-/
namespace Go.Proofs.YtdkcliblbaldhaaDoor.Cv
open Pl
open Go.RowKit
attribute [local go_sem ↓] Go.wp_at_zero Go.wp_at_succ
theorem length_same (h : Nat) (w : World) (hh : h < 64) : Calls Tryd.prog 67 #[.int .i64 (h : Int)] w fun e w' => e = .returned (.int .u64 (pw h : Nat)) ∧ w' = w := (length_any h w hh).mono fun _ _ r => ⟨r.1, r.2.symm⟩
theorem bit1 (m : Nat) (hm : m < 18446744073709551616) : (bits BinOp.and IntKind.u64 (m : Int) 1 == 1) = decide (m % 2 = 1) := by
  have := bits_and_u64_nat m 1 hm (by decide)
  rw [show (1 : Int) = ((1 : Nat) : Int) from rfl, this, Nat.and_one_is_mod]
  by_cases h : m % 2 = 1
  · simp [h]
  · have : m % 2 = 0 := by omega
    simp [this]
theorem heap_new (w : World) (o : Obj) : (w.alloc o).heap[w.heap.size]? = some o := by
  show (w.heap.push o)[w.heap.size]? = _
  simp
/-- Where eachOfRange stands. -/
structure Ev (k B0 c : Nat) (I : (Nat → Prop) → List (Nat × Nat) → World → Prop) (X : Nat → Prop) (w0 : World) (acc : List (Nat × Nat)) (lo : Nat) (wr : World) : Prop where
  inv : I (fun x => X x ∨ x = c ∨ x = c + 1) acc wr
  lt : ∀ x, (X x ∨ x = c ∨ x = c + 1) → x < wr.heap.size
  c0 : wr.heap[c]? = some (.cells #[.int .u64 (lo : Int)] 28 (0, 0))
  c1 : wr.heap[c + 1]? = some (.cells #[gv k B0] 83 (0, 0))
  below : Below B0 w0 wr
  keep : ∀ x, X x → x ≠ c ∧ x ≠ c + 1 ∧ wr.heap[x]? = w0.heap[x]?
  bc : B0 < c
theorem Ev.drewN {k B0 c : Nat} {I : (Nat → Prop) → List (Nat × Nat) → World → Prop} {X : Nat → Prop} {w0 wr : World} {acc : List (Nat × Nat)} {lo : Nat} (G : Give k B0 I) (h : Ev k B0 c I X w0 acc lo wr) (n : Nat) : Ev k B0 c I X w0 acc lo (wr.drewN n) :=
  ⟨G.stay _ _ _ wr _ h.inv (fun _ _ _ => rfl) (fun _ hx => .inl hx), h.lt, h.c0, h.c1, below_drewN h.below n, h.keep, h.bc⟩
theorem Ev.take {k B0 c : Nat} (hk : k = 42 ∨ False ∨ False) {I : (Nat → Prop) → List (Nat × Nat) → World → Prop} {X : Nat → Prop} {w0 wr : World} {acc : List (Nat × Nat)} {lo : Nat} (G : Give k B0 I) (h : Ev k B0 c I X w0 acc lo wr) (hl : acc.length < 1000000) (j : Nat) (hj : j < 41) (hlo : lo ≤ 2 ^ 40) :
    Calls Tryd.prog 66 #[.int .i64 (j : Int), .pointer (some ⟨c + 1, 0, none⟩), .pointer (some ⟨c, 0, none⟩)] wr fun e w' => e = .returned (.tuple #[]) ∧ Ev k B0 c I X w0 (acc ++ [(j, lo / pw j)]) (lo + pw j) w' := by
  refine (take_any hk G c _ acc j lo wr h.inv h.lt hl (.inr (.inl rfl)) (.inr (.inr rfl)) h.bc h.c0 h.c1 hj hlo).mono ?_
  rintro e w' ⟨rfl, r1, r2, r3, r4⟩
  refine ⟨rfl, r1, fun x hx => Nat.lt_of_lt_of_le (h.lt x hx) r2.size, r3, (r4 (c + 1) (.inr (.inr rfl)) (by omega)).trans h.c1, h.below.trans r2, fun x hx => ?_, h.bc⟩
  obtain ⟨a1, a2, a3⟩ := h.keep x hx
  exact ⟨a1, a2, (r4 x (.inl hx) a1).trans a3⟩
theorem ev_start {k B0 : Nat} {I : (Nat → Prop) → List (Nat × Nat) → World → Prop} {X : Nat → Prop} {w : World} {acc : List (Nat × Nat)} (G : Give k B0 I) (lo : Nat) (hI : I X acc w) (hX : ∀ x, X x → x < w.heap.size) :
    Ev k B0 w.heap.size I X w acc lo ((w.alloc (.cells #[.int .u64 (lo : Int)] 28)).alloc (.cells #[gv k B0] 83)) := by
  have hlt := G.lt X acc w hI
  have hh : ∀ b, b < w.heap.size → ((w.alloc (.cells #[.int .u64 (lo : Int)] 28)).alloc (.cells #[gv k B0] 83)).heap[b]? = w.heap[b]? := fun b hb => by
    rw [heap_al _ (by simp; omega), heap_al _ hb]
  refine ⟨G.stay X _ acc w _ hI (fun b hb _ => hh b hb) (fun x hx => ?_), fun x hx => ?_, ?_, ?_, ?_, fun x hx => ?_, hlt⟩
  · rcases hx with hx | hx | hx
    · exact .inl hx
    · exact .inr (by omega)
    · exact .inr (by omega)
  · have : ∀ x, X x → x < w.heap.size := hX
    rcases hx with hx | hx | hx
    · have := hX x hx; simp; omega
    · simp; omega
    · simp; omega
  · rw [heap_al _ (by simp)]; exact heap_new _ _
  · have := heap_new (w.alloc (.cells #[.int .u64 (lo : Int)] 28)) (.cells #[gv k B0] 83); rw [World.size_alloc] at this; exact this
  · exact ((Below.refl B0 w).alloc (by omega) _).alloc (by simp; omega) _
  · have := hX x hx
    exact ⟨by omega, by omega, hh x this⟩
theorem up_odd {f h lo hi : Nat} (h1 : pw h ≤ hi - lo) (h2 : lo / pw h % 2 = 1) : upL (f + 1) h lo hi = (h, lo / pw h) :: upL f (h + 1) (lo + pw h) hi := by rw [upL, if_pos h1, if_pos h2]
theorem up_even {f h lo hi : Nat} (h1 : pw h ≤ hi - lo) (h2 : ¬ lo / pw h % 2 = 1) : upL (f + 1) h lo hi = upL f (h + 1) lo hi := by rw [upL, if_pos h1, if_neg h2]
theorem up_end {f h lo hi : Nat} (h1 : ¬ pw h ≤ hi - lo) : upL (f + 1) h lo hi = dnL (h + 1) lo hi := by rw [upL, if_neg h1]
theorem dn_yes {h lo hi : Nat} (h1 : pw h ≤ hi - lo) : dnL (h + 1) lo hi = (h, lo / pw h) :: dnL h (lo + pw h) hi := by rw [dnL, if_pos h1]
theorem dn_no {h lo hi : Nat} (h1 : ¬ pw h ≤ hi - lo) : dnL (h + 1) lo hi = dnL h lo hi := by rw [dnL, if_neg h1]
theorem ev_done {k B0 c : Nat} {I : (Nat → Prop) → List (Nat × Nat) → World → Prop} {X : Nat → Prop} {w0 wr : World} {acc : List (Nat × Nat)} {lo : Nat} (G : Give k B0 I) (h : Ev k B0 c I X w0 acc lo wr) : I X acc wr ∧ Below B0 w0 wr ∧ ∀ x, X x → wr.heap[x]? = w0.heap[x]? :=
  ⟨G.stay _ X acc wr wr h.inv (fun _ _ _ => rfl) (fun _ hx => .inl (.inl hx)), h.below, fun x hx => (h.keep x hx).2.2⟩
set_option maxHeartbeats 4000000 in
theorem each_any {k B0 : Nat} (hk : k = 42 ∨ False ∨ False) {I : (Nat → Prop) → List (Nat × Nat) → World → Prop} (G : Give k B0 I) (X : Nat → Prop) (acc : List (Nat × Nat)) (lo hi : Nat) (w : World)
    (hI : I X acc w) (hX : ∀ x, X x → x < w.heap.size) (hl : acc.length < 900000) (h1 : lo ≤ hi) (h2 : hi ≤ 2 ^ 40) :
    Calls Tryd.prog 41 #[.int .u64 (lo : Int), .int .u64 (hi : Int), gv k B0] w fun e w' => e = .returned (.tuple #[]) ∧ I X (acc ++ cov lo hi) w' ∧ Below B0 w w' ∧ ∀ x, X x → w'.heap[x]? = w.heap[x]? := by
  have HS : Hid (Ev k B0 w.heap.size I X w acc lo ((w.alloc (.cells #[.int .u64 (lo : Int)] 28)).alloc (.cells #[gv k B0] 83)) ∧ lo ≤ hi ∧ hi ≤ 2 ^ 40 ∧ acc.length < 900000) := ⟨ev_start G lo hI hX, h1, h2, hl⟩
  clear hI hX hl h1 h2
  go_enter Tryd.func41, Tryd.ntmps41
  go_wp2
  go_loopg [7] 42 (fun g h wr => ∃ (j lo' : Nat) (acc' : List (Nat × Nat)), j ≤ 41 ∧ g = 42 - j ∧ h = .int .i64 (j : Int) ∧ Ev k B0 w.heap.size I X w acc' lo' wr ∧ acc' ++ upL (42 - j) j lo' hi = acc ++ cov lo hi ∧ lo' ≤ hi ∧ acc'.length ≤ acc.length + j)
  case atStart =>
    go_light
    exact ⟨0, lo, acc, by decide, rfl, rfl, HS.out.1, rfl, HS.out.2.1, Nat.le_refl _⟩
  case round =>
    obtain ⟨j, lo', acc', hj, rfl, rfl, HE, hacc, hlo, hlen⟩ := hrel
    obtain ⟨_, hlh, hhi, hl⟩ := HS.out
    have hj0 : (0 : Int) ≤ (j : Int) := Int.natCast_nonneg _
    have hj1 : (j : Int) < 64 := by omega
    have hj2 : ¬ (j : Int) < 0 := by omega
    have k0 := cell_of_one HE.c0
    have HL := fun w' => length_same j w' (by omega)
    obtain ⟨p, hp⟩ : ∃ p, pw j = p := ⟨_, rfl⟩
    simp only [hp] at HL
    obtain ⟨d, hd⟩ : ∃ d, hi - lo' = d := ⟨_, rfl⟩
    have ed : IntKind.u64.wrap ((hi : Int) - (lo' : Int)) = (d : Int) := by rw [IntKind.wrap_u64]; omega
    by_cases hfit : p ≤ d
    · have hfi : (p : Int) ≤ (d : Int) := by omega
      have hj40 : j ≤ 40 := pw40 (by rw [hp]; omega)
      obtain ⟨q, hq⟩ : ∃ q, lo' / pw j = q := ⟨_, rfl⟩
      have eq : (lo' : Int) / 2 ^ j = (q : Int) := by rw [← hq]; simp [pw]
      have HE' := HE.drewN G
      by_cases hodd : q % 2 = 1
      · have hbit : (bits BinOp.and IntKind.u64 (q : Int) 1 == 1) = true := by rw [bit1 q (by rw [← hq]; exact Nat.lt_of_le_of_lt (Nat.div_le_self _ _) (by omega))]; exact decide_eq_true hodd
        have HT := fun n => (HE' n).take hk G (by omega) j (by omega) (by omega)
        have hu : upL (42 - j) j lo' hi = (j, lo' / pw j) :: upL (42 - (j + 1)) (j + 1) (lo' + pw j) hi := by
          rw [show 42 - j = (42 - (j + 1)) + 1 by omega]; exact up_odd (by omega) (by rw [hq]; exact hodd)
        have HX : Hid (acc' ++ [(j, lo' / pw j)] ++ upL (42 - (j + 1)) (j + 1) (lo' + pw j) hi = acc ++ cov lo hi ∧ lo' + pw j ≤ hi ∧ (acc' ++ [(j, lo' / pw j)]).length ≤ acc.length + (j + 1) ∧ j + 1 ≤ 41) := by
          refine ⟨?_, by omega, by simp; omega, by omega⟩
          rw [List.append_assoc, ← hacc, hu]; rfl
        have HN : Hid (hi - lo' = d ∧ pw j = p) := ⟨hd, hp⟩
        clear hacc hlo hlen hd hp hq hodd hu hlh hhi hl HE HE' hfit hj hj40
        go_wp2
        go_quiet ((go_at_call 67; refine Calls.quiet_of_same (HL _)))
        go_wp2_with (go_at_call 66; with_reducible refine (HT _).mono ?_; rintro e w1 ⟨rfl, HE1⟩)
        go_roundg (42 - (j + 1))
        case rel =>
          go_light
          obtain ⟨x1, x2, x3, x4⟩ := HX.out
          exact ⟨j + 1, _, _, x4, rfl, by go_num, HE1, x1, x2, x3⟩
        case measure => go_light; have := HX.out.2.2.2; omega
      · have hbit : (bits BinOp.and IntKind.u64 (q : Int) 1 == 1) = false := by rw [bit1 q (by rw [← hq]; exact Nat.lt_of_le_of_lt (Nat.div_le_self _ _) (by omega))]; exact decide_eq_false hodd
        have hu : upL (42 - j) j lo' hi = upL (42 - (j + 1)) (j + 1) lo' hi := by
          rw [show 42 - j = (42 - (j + 1)) + 1 by omega]; exact up_even (by omega) (by rw [hq]; exact hodd)
        have HX : Hid (acc' ++ upL (42 - (j + 1)) (j + 1) lo' hi = acc ++ cov lo hi ∧ lo' ≤ hi ∧ acc'.length ≤ acc.length + (j + 1) ∧ j + 1 ≤ 41 ∧ ∀ n, Ev k B0 w.heap.size I X w acc' lo' (wr.drewN n)) := by
          refine ⟨?_, hlo, by omega, by omega, HE'⟩
          rw [← hacc, hu]
        clear hacc hlo hlen hd hp hq hodd hu hlh hhi hl HE HE' hfit hj hj40
        go_wp2
        go_quiet ((go_at_call 67; refine Calls.quiet_of_same (HL _)))
        go_wp2
        go_roundg (42 - (j + 1))
        case rel =>
          go_light
          obtain ⟨x1, x2, x3, x4, x5⟩ := HX.out
          exact ⟨j + 1, _, _, x4, rfl, by go_num, x5 _, x1, x2, x3⟩
        case measure => go_light; have := HX.out.2.2.2.1; omega
    · have hfi : ¬ (p : Int) ≤ (d : Int) := by omega
      have hu : upL (42 - j) j lo' hi = dnL (j + 1) lo' hi := by
        rw [show 42 - j = (41 - j) + 1 by omega]; exact up_end (by omega)
      rw [hu] at hacc
      have HX : Hid (acc' ++ dnL (j + 1) lo' hi = acc ++ cov lo hi ∧ lo' ≤ hi ∧ acc'.length ≤ acc.length + 41 ∧ j ≤ 41 ∧ hi ≤ 2 ^ 40 ∧ acc.length < 900000 ∧ ∀ n, Ev k B0 w.heap.size I X w acc' lo' (wr.drewN n)) := ⟨hacc, hlo, by omega, hj, hhi, hl, HE.drewN G⟩
      clear hacc hlo hlen hd hp hu hlh hhi hl HE hj
      go_wp2
      go_quiet ((go_at_call 67; refine Calls.quiet_of_same (HL _)))
      go_wp2
      clear HL k0 ed hfi hfit
      go_loopg [7] 42 (fun g h wr2 => ∃ (m lo2 : Nat) (acc2 : List (Nat × Nat)), m ≤ 42 ∧ m ≤ g ∧ h = .int .i64 ((m : Int) - 1) ∧ Ev k B0 w.heap.size I X w acc2 lo2 wr2 ∧ acc2 ++ dnL m lo2 hi = acc ++ cov lo hi ∧ lo2 ≤ hi ∧ acc2.length + m ≤ acc.length + 100)
      case atStart =>
        go_light
        obtain ⟨x1, x2, x3, x4, x5, x6, x7⟩ := HX.out
        exact ⟨j + 1, lo', acc', by omega, by omega, by congr 1; omega, x7 _, x1, x2, by omega⟩
      case round =>
        obtain ⟨m, lo2, acc2, hm, hmg, rfl, HE2, hacc2, hlo2, hlen2⟩ := hrel
        obtain ⟨_, _, _, _, hhi, hl, _⟩ := HX.out
        by_cases hm0 : m = 0
        · subst hm0
          have ht : ¬ (0 : Int) ≤ ((0 : Nat) : Int) - 1 := by omega
          have HF : Hid (I X (acc ++ cov lo hi) wr ∧ Below B0 w wr ∧ ∀ x, X x → wr.heap[x]? = w.heap[x]?) := by
            have e : acc2 = acc ++ cov lo hi := by rw [← hacc2]; simp [dnL]
            rw [← e]; exact ev_done G HE2
          clear hacc2 HE2 hlo2 hlen2 hm
          go_wp2
          go_end0
          exact ⟨rfl, HF.out⟩
        · obtain ⟨i, rfl⟩ : ∃ i, m = i + 1 := ⟨m - 1, by omega⟩
          have ei : (((i + 1 : Nat) : Int) - 1) = (i : Int) := by omega
          rw [ei]
          have hi0 : (0 : Int) ≤ (i : Int) := Int.natCast_nonneg _
          have hi1 : (i : Int) < 64 := by omega
          have hi2 : ¬ (i : Int) < 0 := by omega
          have k0 := cell_of_one HE2.c0
          have HL := fun w' => length_same i w' (by omega)
          obtain ⟨p2, hp2⟩ : ∃ p2, pw i = p2 := ⟨_, rfl⟩
          simp only [hp2] at HL
          obtain ⟨d2, hd2⟩ : ∃ d2, hi - lo2 = d2 := ⟨_, rfl⟩
          have ed : IntKind.u64.wrap ((hi : Int) - (lo2 : Int)) = (d2 : Int) := by rw [IntKind.wrap_u64]; omega
          by_cases hfit : p2 ≤ d2
          · have hfi : (p2 : Int) ≤ (d2 : Int) := by omega
            have hi40 : i ≤ 40 := pw40 (by rw [hp2]; omega)
            have HT := fun n => (HE2.drewN G n).take hk G (by omega) i (by omega) (by omega)
            have hu := dn_yes (h := i) (lo := lo2) (hi := hi) (by omega)
            have HY : Hid (acc2 ++ [(i, lo2 / pw i)] ++ dnL i (lo2 + pw i) hi = acc ++ cov lo hi ∧ lo2 + pw i ≤ hi ∧ (acc2 ++ [(i, lo2 / pw i)]).length + i ≤ acc.length + 100 ∧ i ≤ 42) := by
              refine ⟨?_, by omega, by simp; omega, by omega⟩
              rw [List.append_assoc, ← hacc2, hu]; rfl
            clear hacc2 hlo2 hlen2 hd2 hp2 hu hhi hl HE2 hfit hm hi40 hm0
            go_wp2
            go_quiet ((go_at_call 67; refine Calls.quiet_of_same (HL _)))
            go_wp2_with (go_at_call 66; with_reducible refine (HT _).mono ?_; rintro e w1 ⟨rfl, HE1⟩)
            go_roundg i
            case rel =>
              go_light
              obtain ⟨x1, x2, x3, x4⟩ := HY.out
              exact ⟨i, _, _, x4, Nat.le_refl _, by go_num, HE1, x1, x2, x3⟩
            case measure => go_light; omega
          · have hfi : ¬ (p2 : Int) ≤ (d2 : Int) := by omega
            have hu := dn_no (h := i) (lo := lo2) (hi := hi) (by omega)
            rw [hu] at hacc2
            have HY : Hid (acc2 ++ dnL i lo2 hi = acc ++ cov lo hi ∧ lo2 ≤ hi ∧ acc2.length + i ≤ acc.length + 100 ∧ i ≤ 42 ∧ ∀ n, Ev k B0 w.heap.size I X w acc2 lo2 (wr.drewN n)) := ⟨hacc2, hlo2, by omega, by omega, HE2.drewN G⟩
            clear hacc2 hlo2 hlen2 hd2 hp2 hu hhi hl HE2 hm hm0
            go_wp2
            go_quiet ((go_at_call 67; refine Calls.quiet_of_same (HL _)))
            go_wp2
            go_roundg i
            case rel =>
              go_light
              obtain ⟨x1, x2, x3, x4, x5⟩ := HY.out
              exact ⟨i, _, _, x4, Nat.le_refl _, by go_num, x5 _, x1, x2, x3⟩
            case measure => go_light; omega
end Go.Proofs.YtdkcliblbaldhaaDoor.Cv
/-
  Walks of package cover: Range, Mountains, check, Rest, Count. Own work.
-/
namespace Go.Proofs.YtdkcliblbaldhaaDoor.Cv
open Pl
open Go.RowKit
attribute [local go_sem ↓] Go.wp_at_zero Go.wp_at_succ
/-- What is wrong with a range; its cover. -/
def errR (lo hi n : Nat) : Nat := if 2 ^ 40 < n then 30 else if n < hi then 31 else if hi < lo then 41 else 0
def covR (lo hi n : Nat) : List (Nat × Nat) := if errR lo hi n = 0 then cov lo hi else []
theorem ia_new (w : World) : IA w.heap.size (fun _ => False) [] (w.alloc (.cells #[.slice none 0 0] 42)) :=
  ⟨⟨.slice none 0 0, heap_new _ _, World.ownsRow_nil _ _ _ _, fun _ _ h => h⟩, fun h => h⟩
theorem range_err (lo hi n e : Nat) (w : World) (he : errR lo hi n = e) (h0 : e ≠ 0) :
    Calls Tryd.prog 15 #[.int .u64 (lo : Int), .int .u64 (hi : Int), .int .u64 (n : Int)] w fun x w' => ∃ v, x = .returned (.tuple #[v, .int .i64 (e : Int)]) ∧ OwnB w' w.heap.size v [] ∧ Below w.heap.size w w' := by
  unfold errR at he
  by_cases h1 : 2 ^ 40 < n
  · rw [if_pos h1] at he
    subst he
    have ht : decide ((1099511627776 : Int) < (n : Int)) = true := decide_eq_true (by omega)
    clear h0 h1
    go_enter Tryd.func15, Tryd.ntmps15
    go_wp2
    go_ret2
    exact ⟨_, rfl, World.ownsRow_nil _ _ _ _, Below.refl _ _⟩
  · rw [if_neg h1] at he
    have ht : decide ((1099511627776 : Int) < (n : Int)) = false := decide_eq_false (by omega)
    by_cases h2 : n < hi
    · rw [if_pos h2] at he
      subst he
      have ht2 : (n : Int) < (hi : Int) := by omega
      clear h0 h1
      go_enter Tryd.func15, Tryd.ntmps15
      go_wp2
      go_ret2
      exact ⟨_, rfl, World.ownsRow_nil _ _ _ _, Below.refl _ _⟩
    · rw [if_neg h2] at he
      have ht2 : ¬ (n : Int) < (hi : Int) := by omega
      by_cases h3 : hi < lo
      · rw [if_pos h3] at he
        subst he
        have ht3 : (hi : Int) < (lo : Int) := by omega
        clear h0 h1
        go_enter Tryd.func15, Tryd.ntmps15
        go_wp2
        go_ret2
        exact ⟨_, rfl, World.ownsRow_nil _ _ _ _, Below.refl _ _⟩
      · rw [if_neg h3] at he
        exact absurd he.symm h0
theorem range_ok (lo hi n : Nat) (w : World) (hn : n ≤ 2 ^ 40) (hh : hi ≤ n) (hl : lo ≤ hi) :
    Calls Tryd.prog 15 #[.int .u64 (lo : Int), .int .u64 (hi : Int), .int .u64 (n : Int)] w fun x w' => ∃ v, x = .returned (.tuple #[v, .int .i64 0]) ∧ OwnB w' w.heap.size v (zl (cov lo hi)) ∧ Below w.heap.size w w' := by
  have ht : decide ((1099511627776 : Int) < (n : Int)) = false := decide_eq_false (by omega)
  have ht2 : ¬ (n : Int) < (hi : Int) := by omega
  have ht3 : ¬ (hi : Int) < (lo : Int) := by omega
  have ht2' : ¬ n < hi := by omega
  have ht3' : ¬ hi < lo := by omega
  have HE := each_any (.inl rfl) (give_range w.heap.size) (fun _ => False) [] lo hi (w.alloc (.cells #[.slice none 0 0] 42)) (ia_new w) (fun _ h => h.elim) (by decide) hl (by omega)
  clear hn hh hl
  go_enter Tryd.func15, Tryd.ntmps15
  go_upto_region 9 with ((go_at_call 41; with_reducible refine HE.mono ?_; rintro e w1 ⟨rfl, hI, hb, _⟩))
  obtain ⟨⟨v, h1, h2, _⟩, _⟩ := hI
  have c0 := cell_of_one h1
  obtain ⟨ao, m, c, rfl⟩ := own_slice h2
  have HF : Hid (OwnB w1 w.heap.size (.slice ao m c) (zl (cov lo hi)) ∧ Below w.heap.size w w1) := ⟨by
    have := h2.mono (base' := w.heap.size) (by omega)
    simpa using this, ((Below.refl _ w).alloc (Nat.le_refl _) _).trans hb⟩
  clear h1 h2 hb HE
  go_wp2
  go_ret2
  exact ⟨_, rfl, HF.out.1, HF.out.2⟩
theorem range_any (lo hi n : Nat) (w : World) :
    Calls Tryd.prog 15 #[.int .u64 (lo : Int), .int .u64 (hi : Int), .int .u64 (n : Int)] w fun x w' => ∃ v, x = .returned (.tuple #[v, .int .i64 (errR lo hi n : Nat)]) ∧ OwnB w' w.heap.size v (zl (covR lo hi n)) ∧ Below w.heap.size w w' := by
  by_cases h : errR lo hi n = 0
  · have h' := h
    unfold errR at h'
    split at h'
    · cases h'
    · split at h'
      · cases h'
      · split at h'
        · cases h'
        · rw [h, covR, if_pos h]
          exact range_ok lo hi n w (by omega) (by omega) (by omega)
  · rw [covR, if_neg h]
    exact range_err lo hi n _ w rfl h
theorem mountains_any (n : Nat) (w : World) :
    Calls Tryd.prog 40 #[.int .u64 (n : Int)] w fun x w' => ∃ v, x = .returned (.tuple #[v, .int .i64 (errR 0 n n : Nat)]) ∧ OwnB w' w.heap.size v (zl (covR 0 n n)) ∧ Below w.heap.size w w' := by
  have HR : Calls Tryd.prog 15 #[.int .u64 0, .int .u64 (n : Int), .int .u64 (n : Int)] w fun x w' => ∃ v, x = .returned (.tuple #[v, .int .i64 (errR 0 n n : Nat)]) ∧ OwnB w' w.heap.size v (zl (covR 0 n n)) ∧ Below w.heap.size w w' := range_any 0 n n w
  generalize errR 0 n n = e at *
  generalize covR 0 n n = L at *
  go_enter Tryd.func40, Tryd.ntmps40
  go_wp2_with (go_at_call 15; with_reducible refine HR.mono ?_; rintro x w1 ⟨v, rfl, h1, h2⟩)
  go_ret2
  exact ⟨_, rfl, h1, h2⟩
end Go.Proofs.YtdkcliblbaldhaaDoor.Cv
