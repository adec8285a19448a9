/-
  Own work: CvSpec, CvBase.
-/
import Derived.Test.YtdocjikpcbmcgaaGreatDoorProg
import Derived.WalkKit
import Derived.WalkSpells
import Derived.Outline
import Derived.KernelRfl
import Derived.Deep.LoopGhost
import Derived.Deep.DrawnRows
import Derived.Deep.Light
import Derived.Deep.MidRow
import Derived.Deep.Onto
import Derived.Deep.RegionWith
import Derived.BigQuiet
import Derived.Laws.Bits64b
import Derived.Handy
import Derived.ArgAppend
import Derived.Laws.AppendOwnNone
import Derived.Test.YtdocjikpcbmcgaaGreatDoorQs05
namespace Go.Proofs.YtdocjikpcbmcgaaGreatDoor.Cv
open Pl
def dnL : Nat → Nat → Nat → List (Nat × Nat)
  | 0, _, _ => []
  | h + 1, lo, hi => if pw h ≤ hi - lo then (h, lo / pw h) :: dnL h (lo + pw h) hi else dnL h lo hi
def upL : Nat → Nat → Nat → Nat → List (Nat × Nat)
  | 0, _, _, _ => []
  | f + 1, h, lo, hi => if pw h ≤ hi - lo then (if lo / pw h % 2 = 1 then (h, lo / pw h) :: upL f (h + 1) (lo + pw h) hi else upL f (h + 1) lo hi) else dnL (h + 1) lo hi
def cov (lo hi : Nat) : List (Nat × Nat) := upL 42 0 lo hi
def rst : Nat → Nat → List Nat → List (Nat × Nat)
  | x, n, [] => cov x n
  | x, n, i :: S => cov x i ++ rst (i + 1) n S
def All (A : Nat → Prop) (h k : Nat) : Prop := ∀ i, k * pw h ≤ i → i < (k + 1) * pw h → A i
def Til (A : Nat → Prop) (q : Nat) : Nat → List (Nat × Nat) → Prop
  | p, [] => p ≤ q ∧ ∀ i, p ≤ i → i < q → ¬ A i
  | p, b :: L => p ≤ b.2 * pw b.1 ∧ (b.2 + 1) * pw b.1 ≤ q ∧ (∀ i, p ≤ i → i < b.2 * pw b.1 → ¬ A i) ∧ All A b.1 b.2 ∧ ¬ All A (b.1 + 1) (b.2 / 2) ∧ Til A q ((b.2 + 1) * pw b.1) L
theorem blk_lt (h k : Nat) : k * pw h < (k + 1) * pw h := by
  have := pw_pos h; rw [Nat.add_mul, Nat.one_mul]; omega
theorem in_greater (A : Nat → Prop) (h k h' k' : Nat) (he : k * pw h = k' * pw h') (hl : h < h') (ha : All A h' k') : All A (h + 1) (k / 2) := by
  obtain ⟨d, rfl⟩ : ∃ d, h' = h + 1 + d := ⟨h' - (h + 1), by omega⟩
  have e1 : pw (h + 1 + d) = 2 * pw d * pw h := by rw [pw_add, pw_succ, Nat.mul_comm (2 * pw h), ← Nat.mul_assoc, Nat.mul_comm (pw d)]
  have hp := pw_pos h
  have hd := pw_pos d
  have hk : k = k' * (2 * pw d) := by
    rw [e1, ← Nat.mul_assoc] at he
    exact Nat.eq_of_mul_eq_mul_right hp he
  have hk2 : k / 2 = k' * pw d := by
    rw [hk, show k' * (2 * pw d) = k' * pw d * 2 by rw [Nat.mul_comm 2, Nat.mul_assoc]]
    exact Nat.mul_div_cancel _ (by decide)
  intro i h1 h2
  have e2 : pw (h + 1 + d) = pw d * pw (h + 1) := by rw [pw_add, Nat.mul_comm]
  refine ha i ?_ ?_
  · rw [e2, ← Nat.mul_assoc, ← hk2]; exact h1
  · refine Nat.lt_of_lt_of_le h2 ?_
    rw [e2, ← Nat.mul_assoc, hk2]
    refine Nat.mul_le_mul_right _ ?_
    rw [Nat.add_mul]; omega
theorem til_le {A : Nat → Prop} {q p : Nat} {L : List (Nat × Nat)} (h : Til A q p L) : p ≤ q := by
  cases L with
  | nil => exact h.1
  | cons b L => have := blk_lt b.1 b.2; have h1 := h.1; have h2 := h.2.1; omega
theorem til_one {A : Nat → Prop} {q : Nat} : ∀ {L L' : List (Nat × Nat)} {p : Nat}, Til A q p L → Til A q p L' → L = L' := by
  intro L
  induction L with
  | nil =>
    intro L' p h h'
    cases L' with
    | nil => rfl
    | cons b L' =>
      obtain ⟨a1, a2, a3, a4, a5, a6⟩ := h'
      have := blk_lt b.1 b.2
      exact absurd (a4 _ (Nat.le_refl _) this) (h.2 _ a1 (by omega))
  | cons c L ih =>
    intro L' p h h'
    cases L' with
    | nil =>
      obtain ⟨a1, a2, a3, a4, a5, a6⟩ := h
      have := blk_lt c.1 c.2
      exact absurd (a4 _ (Nat.le_refl _) this) (h'.2 _ a1 (by omega))
    | cons b L' =>
      obtain ⟨a1, a2, a3, a4, a5, a6⟩ := h
      obtain ⟨b1, b2, b3, b4, b5, b6⟩ := h'
      obtain ⟨h, k⟩ := c
      obtain ⟨h', k'⟩ := b
      simp only at *
      have x1 := blk_lt h k
      have x2 := blk_lt h' k'
      have he : k * pw h = k' * pw h' := by
        rcases Nat.lt_trichotomy (k * pw h) (k' * pw h') with hh | hh | hh
        · exact absurd (a4 _ (Nat.le_refl _) x1) (b3 _ a1 hh)
        · exact hh
        · exact absurd (b4 _ (Nat.le_refl _) x2) (a3 _ b1 hh)
      have hh : h = h' := by
        rcases Nat.lt_trichotomy h h' with hh | hh | hh
        · exact absurd (in_greater A h k h' k' he hh b4) a5
        · exact hh
        · exact absurd (in_greater A h' k' h k he.symm hh a4) b5
      subst hh
      have hk : k = k' := Nat.eq_of_mul_eq_mul_right (pw_pos h) he
      subst hk
      rw [ih a6 b6]
theorem til_pre {A : Nat → Prop} {q p p' : Nat} {L : List (Nat × Nat)} (h : Til A q p' L) (hp : p ≤ p') (hn : ∀ i, p ≤ i → i < p' → ¬ A i) : Til A q p L := by
  cases L with
  | nil => exact ⟨Nat.le_trans hp h.1, fun i h1 h2 => if hi : i < p' then hn i h1 hi else h.2 i (by omega) h2⟩
  | cons b L => exact ⟨Nat.le_trans hp h.1, h.2.1, fun i h1 h2 => if hi : i < p' then hn i h1 hi else h.2.2.1 i (by omega) h2, h.2.2.2⟩
theorem til_app {A : Nat → Prop} {q m : Nat} {L' : List (Nat × Nat)} (h' : Til A q m L') : ∀ {L : List (Nat × Nat)} {p : Nat}, Til A m p L → Til A q p (L ++ L') := by
  intro L
  induction L with
  | nil => intro p h; exact til_pre h' h.1 h.2
  | cons b L ih =>
    intro p h
    have := til_le h'
    exact ⟨h.1, Nat.le_trans h.2.1 this, h.2.2.1, h.2.2.2.1, h.2.2.2.2.1, ih h.2.2.2.2.2⟩
abbrev Rg (lo hi : Nat) : Nat → Prop := fun i => lo ≤ i ∧ i < hi
theorem mul_half (c h : Nat) : c * pw (h + 1) = 2 * c * pw h := by rw [pw_succ, ← Nat.mul_assoc, Nat.mul_comm c]
theorem dn_til (lo0 hi : Nat) : ∀ h lo, (∃ c, lo = c * pw h) → hi - lo < pw h → lo0 ≤ lo → lo ≤ hi → Til (Rg lo0 hi) hi lo (dnL h lo hi) := by
  intro h
  induction h with
  | zero =>
    intro lo _ h2 h3 h4
    rw [pw_zero] at h2
    exact ⟨h4, fun i h5 h6 _ => by omega⟩
  | succ h ih =>
    intro lo h1 h2 h3 h4
    obtain ⟨c, hc⟩ := h1
    have hp := pw_pos h
    have hps := pw_succ h
    rw [mul_half] at hc
    rw [dnL]
    split
    · rename_i hfit
      have hk : lo / pw h = 2 * c := by rw [hc]; exact Nat.mul_div_cancel _ hp
      have e1 : (2 * c + 1) * pw h = lo + pw h := by rw [Nat.add_mul, Nat.one_mul, ← hc]
      have e2 : 2 * c / 2 = c := by omega
      have e3 : c * pw (h + 1) = lo := by rw [mul_half]; exact hc.symm
      rw [hk]
      refine ⟨by show lo ≤ 2 * c * pw h; omega, by show (2 * c + 1) * pw h ≤ hi; omega, fun i i1 i2 => by dsimp only at i2; omega, fun i i1 i2 => ?_, fun hall => ?_, ?_⟩
      · dsimp only at i1 i2; exact ⟨by omega, by omega⟩
      · dsimp only at hall
        rw [e2] at hall
        have := hall hi (by omega) (by rw [Nat.add_mul, Nat.one_mul, e3]; omega)
        exact absurd this.2 (Nat.lt_irrefl _)
      · dsimp only
        rw [e1]
        exact ih (lo + pw h) ⟨2 * c + 1, e1.symm⟩ (by omega) (by omega) (by omega)
    · exact ih lo ⟨2 * c, hc⟩ (by omega) h3 h4
theorem pw40 {h : Nat} (hh : pw h ≤ 2 ^ 40) : h ≤ 40 := by
  by_cases h1 : h ≤ 40
  · exact h1
  · have h2 : pw 41 ≤ pw h := pw_le (by omega)
    have h3 : pw 41 = 2 ^ 41 := rfl
    omega
theorem dn_skip {lo hi h : Nat} (hl : hi - lo < pw h) : dnL (h + 1) lo hi = dnL h lo hi := by
  rw [dnL, if_neg (by omega)]
theorem up_til (lo0 hi : Nat) (hhi : hi ≤ 2 ^ 40) : ∀ f h lo, f + h = 42 → h ≤ 41 → (∃ c, lo = c * pw h) → lo0 ≤ lo → lo < lo0 + pw h → lo ≤ hi → Til (Rg lo0 hi) hi lo (upL f h lo hi) := by
  intro f
  induction f with
  | zero => intro h lo h1 h2; omega
  | succ f ih =>
    intro h lo h1 h2 h3 h4 h5 h6
    obtain ⟨c, hc⟩ := h3
    have hp := pw_pos h
    have hps := pw_succ h
    rw [upL]
    split
    · rename_i hfit
      have hh : h ≤ 40 := pw40 (by omega)
      have hk : lo / pw h = c := by rw [hc]; exact Nat.mul_div_cancel _ hp
      rw [hk]
      have e1 : (c + 1) * pw h = lo + pw h := by rw [Nat.add_mul, Nat.one_mul, ← hc]
      split
      · rename_i hodd
        have e2 : c / 2 * pw (h + 1) + pw h = lo := by
          rw [mul_half, hc]
          have : c = 2 * (c / 2) + 1 := by omega
          conv => rhs; rw [this, Nat.add_mul, Nat.one_mul]
        have e3 : (c + 1) / 2 * pw (h + 1) = lo + pw h := by
          rw [mul_half, ← e1]
          have : c + 1 = 2 * ((c + 1) / 2) := by omega
          conv => rhs; rw [this]
        refine ⟨by show lo ≤ c * pw h; omega, by show (c + 1) * pw h ≤ hi; omega, fun i i1 i2 => by dsimp only at i2; omega, fun i i1 i2 => ?_, fun hall => ?_, ?_⟩
        · dsimp only at i1 i2; exact ⟨by omega, by omega⟩
        · dsimp only at hall
          have := hall _ (Nat.le_refl _) (blk_lt _ _)
          have := this.1
          omega
        · dsimp only
          rw [e1]
          exact ih (h + 1) (lo + pw h) (by omega) (by omega) ⟨_, e3.symm⟩ (by omega) (by omega) (by omega)
      · rename_i hev
        refine ih (h + 1) lo (by omega) (by omega) ⟨c / 2, ?_⟩ h4 (by omega) h6
        rw [mul_half, hc]
        have : c = 2 * (c / 2) := by omega
        conv => lhs; rw [this]
    · rename_i hno
      rw [dn_skip (by omega)]
      exact dn_til lo0 hi h lo ⟨c, hc⟩ (by omega) h4 h6
theorem cov_til (lo hi : Nat) (h : lo ≤ hi) (hhi : hi ≤ 2 ^ 40) : Til (Rg lo hi) hi lo (cov lo hi) :=
  up_til lo hi hhi 42 0 lo rfl (by decide) ⟨lo, by simp [pw]⟩ (Nat.le_refl _) (by rw [pw_zero]; omega) h
theorem dn_len : ∀ h lo hi, (dnL h lo hi).length ≤ h := by
  intro h
  induction h with
  | zero => intro lo hi; exact Nat.le_refl _
  | succ h ih =>
    intro lo hi
    rw [dnL]
    split
    · have := ih (lo + pw h) hi; simp; omega
    · have := ih lo hi; omega
theorem up_len (hi : Nat) (hhi : hi ≤ 2 ^ 40) : ∀ f h lo, f + h = 42 → h ≤ 40 → lo ≤ hi → (upL f h lo hi).length ≤ 80 - h := by
  intro f
  induction f with
  | zero => intro h lo h1 h2; omega
  | succ f ih =>
    intro h lo h1 h2 h3
    by_cases h40 : h = 40
    · subst h40
      obtain rfl : f = 1 := by omega
      by_cases hfit : pw 40 ≤ hi - lo
      · have e : pw 40 = 2 ^ 40 := rfl
        obtain rfl : lo = 0 := by omega
        obtain rfl : hi = 2 ^ 40 := by omega
        decide
      · rw [upL, if_neg hfit, dn_skip (by omega)]
        have := dn_len 40 lo hi
        omega
    · rw [upL]
      split
      · split
        · have := ih (h + 1) (lo + pw h) (by omega) (by omega) (by omega)
          simp; omega
        · have := ih (h + 1) lo (by omega) (by omega) h3
          omega
      · rw [dn_skip (by omega)]
        have := dn_len h lo hi
        omega
theorem cov_len (lo hi : Nat) (h : lo ≤ hi) (hhi : hi ≤ 2 ^ 40) : (cov lo hi).length ≤ 80 := up_len hi hhi 42 0 lo rfl (by decide) h
theorem dn_more {lo hi h : Nat} (hl : hi - lo < pw h) : ∀ d, dnL (h + d) lo hi = dnL h lo hi := by
  intro d
  induction d with
  | zero => rfl
  | succ d ih =>
    have : pw h ≤ pw (h + d) := pw_le (by omega)
    rw [← Nat.add_assoc, dn_skip (by omega), ih]
theorem up_zero (n : Nat) (hn : n ≤ 2 ^ 40) : ∀ f h, f + h = 42 → h ≤ 41 → upL f h 0 n = dnL 41 0 n := by
  intro f
  induction f with
  | zero => intro h h1 h2; omega
  | succ f ih =>
    intro h h1 h2
    rw [upL]
    split
    · rename_i hfit
      have := pw40 (h := h) (by omega)
      rw [Nat.zero_div, if_neg (by decide)]
      exact ih (h + 1) (by omega) (by omega)
    · rename_i hno
      rw [dn_skip (by omega), show 41 = h + (41 - h) by omega, dn_more (by omega)]
theorem cov_zero (n : Nat) (hn : n ≤ 2 ^ 40) : cov 0 n = dnL 41 0 n := up_zero n hn 42 0 rfl (by decide)
theorem ones_top : ∀ h d, d < pw (h + 1) → ones (h + 1) d = d / pw h + ones h (d % pw h) := by
  intro h
  induction h with
  | zero => intro d hd; simp [ones, pw] at *; omega
  | succ h ih =>
    intro d hd
    have e1 : d % pw (h + 1) = d % 2 + 2 * (d / 2 % pw h) := by rw [pw_succ, Nat.mod_mul]
    have e2 : d / pw (h + 1) = d / 2 / pw h := by rw [pw_succ, Nat.div_div_eq_div_mul]
    rw [ones, ih (d / 2) (by rw [pw_succ] at hd; omega), e1, e2, ones]
    have e3 : (d % 2 + 2 * (d / 2 % pw h)) % 2 = d % 2 := by omega
    have e4 : (d % 2 + 2 * (d / 2 % pw h)) / 2 = d / 2 % pw h := by omega
    rw [e3, e4]; omega
theorem dn_ones : ∀ h lo hi, hi - lo < pw h → (dnL h lo hi).length = ones h (hi - lo) := by
  intro h
  induction h with
  | zero => intro lo hi _; rfl
  | succ h ih =>
    intro lo hi hl
    have hp := pw_pos h
    have hps := pw_succ h
    rw [ones_top h _ hl, dnL]
    split
    · rename_i hfit
      have e1 : (hi - lo) / pw h = 1 := by rw [Nat.div_eq_iff hp]; omega
      have e2 : (hi - lo) % pw h = hi - (lo + pw h) := by rw [Nat.mod_eq_sub_mod hfit, Nat.mod_eq_of_lt (by omega)]; omega
      rw [e1, e2, List.length_cons, ih (lo + pw h) hi (by omega)]; omega
    · rename_i hno
      rw [Nat.div_eq_of_lt (by omega), Nat.mod_eq_of_lt (by omega), ih lo hi (by omega)]; omega
theorem ones_up (j d n : Nat) (h : n < 2 ^ j) : ones (j + d) n = ones j n := by
  induction d with
  | zero => rfl
  | succ d ih => rw [← Nat.add_assoc, ones_more _ _ (Nat.lt_of_lt_of_le h (Nat.pow_le_pow_right (by decide) (by omega))), ih]
theorem cov_ones (n : Nat) (hn : n ≤ 2 ^ 40) : (cov 0 n).length = ones 64 n := by
  rw [cov_zero n hn, dn_ones 41 0 n (by have : pw 41 = 2 ^ 41 := rfl
                                        omega)]
  exact (ones_up 41 23 n (by omega)).symm
theorem cov_forty (n : Nat) (hn : n ≤ 2 ^ 40) : (cov 0 n).length ≤ 40 := by
  by_cases h : n = 2 ^ 40
  · subst h; decide
  · rw [cov_zero n hn, show (41 : Nat) = 40 + 1 from rfl, dn_skip (by have : pw 40 = 2 ^ 40 := rfl
                                                                      omega)]
    exact dn_len 40 0 n
end Go.Proofs.YtdocjikpcbmcgaaGreatDoor.Cv
namespace Go.Proofs.YtdocjikpcbmcgaaGreatDoor.Cv
open Pl
open Go.RowKit
attribute [local go_sem ↓] Go.wp_at_zero Go.wp_at_succ
theorem Tryz.infoU : (Tryz.prog.info? 28).map (fun i => (i.zero, i.size, i.bytes)) = some (some (.int .u64 0), 1, 8) := by kernel_rfl
theorem Tryz.infoB : (Tryz.prog.info? 83).map (fun i => (i.zero, i.size, i.bytes)) = some (some (.agg #[.int .i64 0, .int .u64 0]), 2, 16) := by kernel_rfl
theorem below_drewN {B : Nat} {a w : World} (h : Below B a w) (n : Nat) : Below B a (w.drewN n) := ⟨h.os, h.tape, h.output, h.size, h.block⟩
abbrev cU (l : List Nat) : List Value := l.map (fun x : Nat => Value.int .u64 (x : Int))
def cB : List (Int × Nat) → List Value
  | [] => []
  | b :: r => .int .i64 b.1 :: .int .u64 (b.2 : Int) :: cB r
def zl (L : List (Nat × Nat)) : List (Int × Nat) := L.map (fun b => ((b.1 : Int), b.2))
theorem zl_app (L M : List (Nat × Nat)) : zl (L ++ M) = zl L ++ zl M := List.map_append
theorem zl_len (L : List (Nat × Nat)) : (zl L).length = L.length := List.length_map _
theorem zl_one (h k : Nat) : zl [(h, k)] = [((h : Int), k)] := rfl
theorem cB_len (l : List (Int × Nat)) : (cB l).length = l.length * 2 := by
  induction l with
  | nil => rfl
  | cons b r ih => simp [cB, ih]; omega
theorem cB_app (l m : List (Int × Nat)) : cB (l ++ m) = cB l ++ cB m := by
  induction l with
  | nil => rfl
  | cons b r ih => simp [cB, ih]
theorem cB_one (l : List (Int × Nat)) : ∀ u ∈ cB l, u.oneCell' = true := by
  induction l with
  | nil => intro u hu; cases hu
  | cons b r ih =>
    intro u hu
    simp [cB] at hu
    rcases hu with rfl | rfl | hu
    · rfl
    · rfl
    · exact ih u hu
theorem cU_one (l : List Nat) : ∀ u ∈ cU l, u.oneCell' = true := by
  intro u hu; simp [cU] at hu; obtain ⟨y, _, rfl⟩ := hu; rfl
theorem cB_get (l : List (Int × Nat)) (j : Nat) (h : Int) (k : Nat) (hj : l[j]? = some (h, k)) : (cB l)[2 * j]? = some (.int .i64 h) ∧ (cB l)[2 * j + 1]? = some (.int .u64 (k : Int)) := by
  induction l generalizing j with
  | nil => simp at hj
  | cons b r ih =>
    cases j with
    | zero => simp at hj; subst hj; exact ⟨rfl, rfl⟩
    | succ j =>
      have := ih j (by simpa using hj)
      rw [show 2 * (j + 1) = 2 * j + 1 + 1 by omega]
      simpa [cB] using this
abbrev OwnB (w : World) (base : Nat) (v : Value) (l : List (Int × Nat)) : Prop := w.ownsRow base 83 2 v l.length (cB l)
abbrev Own (w : World) (base : Nat) (v : Value) (l : List Nat) : Prop := w.ownsRow base 28 1 v l.length (cU l)
def RdC (w : World) (u : Value) (m : Nat) (news : List Value) : Prop :=
  ∃ ao cap, u = .slice ao m cap ∧ (ao = none → m = 0 ∧ cap = 0) ∧ ∀ ad, ao = some ad → ∀ j c, news[j]? = some c → w.cell? (ad.add j) = some c
theorem rdc_own {w : World} {B e size : Nat} {v : Value} {n : Nat} {xs : List Value} (h : w.ownsRow B e size v n xs) : RdC w v n xs := by
  have h0 := h
  obtain ⟨h1, h2⟩ := h
  rcases h2 with ⟨rfl, rfl⟩ | ⟨g, cap, cur, rfl, hg, hh, hc⟩
  · exact ⟨none, 0, rfl, fun _ => ⟨rfl, rfl⟩, fun ad h => by cases h⟩
  · exact ⟨some ⟨g, 0, none⟩, cap, rfl, (fun h => by cases h), fun ad h => by cases h; exact h0.cells rfl⟩
theorem rdc_keep {w w' : World} {u : Value} {m : Nat} {news : List Value} (h : RdC w u m news) (hb : Below w.heap.size w w') : RdC w' u m news := by
  obtain ⟨ao, cap, h1, h2, h3⟩ := h
  exact ⟨ao, cap, h1, h2, fun ad ha j c hj => (hb.cell (World.block_lt_of_cell? w _ (h3 ad ha j c hj))).trans (h3 ad ha j c hj)⟩
structure Ap (w w' : World) (B e size : Nat) (v v' : Value) (n : Nat) (xs : List Value) : Prop where
  own : w'.ownsRow B e size v' n xs
  grown : w.grownBy w' v.ownBlock
  fresh : v'.ownBlock = v.ownBlock ∨ ∀ g, v'.ownBlock = some g → w.heap.size ≤ g
theorem wpList_append_ap (w : World) {ops : Array Oper} {rest : List Oper} {o : Oper} {a : Act} {Q : Exit → Act → World → Prop}
    (hg : o.guard = none) (s x : Operand) (t : TypeId) (hop : o.op = Op.call { callee := Callee.builtin Builtin.append, args := #[s, x], argTypes := #[t, t] })
    (B : Nat) (e : TypeId) (i : TypeInfo) (z : Value) (size bytes : Nat) (h1 : Tryz.prog.underlying t = some (.slice e)) (h2 : Tryz.prog.info? e = some i) (h3 : i.zero = some z) (h4 : i.size = size) (h5 : i.bytes = bytes) (h6 : z.cells.size = size) (h7 : 0 < size)
    (v : Value) (n : Nat) (xs : List Value) (hs : a.eval s = v) (hown : w.ownsRow B e size v n xs) (u : Value) (m : Nat) (news : List Value) (hx : a.eval x = u) (hr : RdC w u m news) (hn : news.length = m * size) (h1c : ∀ u ∈ news, u.oneCell' = true)
    (b1 : n + m ≤ maxLen) (b2 : (n + m) * bytes ≤ 140737488355328) (hB : B ≤ w.heap.size)
    (hK : ∀ v' w', Ap w w' B e size v v' (n + m) (xs ++ news) → wpList Tryz.prog ops Q rest (a.put o.dst v') w') : wpList Tryz.prog ops Q (o :: rest) a w := by
  obtain ⟨ao, cap, rfl, hnone, hcells⟩ := hr
  cases ao with
  | none =>
    obtain ⟨rfl, rfl⟩ := hnone rfl
    have hnil : news = [] := List.length_eq_zero_iff.1 (by rw [hn]; omega)
    subst hnil
    exact wpList_append_own_none hg s x _ hop B e i size h1 h2 v n xs hs hown hx (hK _ w ⟨by simpa using hown, World.grownBy.refl w _, .inl rfl⟩)
  | some ad =>
    have hown0 := hown
    obtain ⟨g1, g2⟩ := hown
    rcases g2 with ⟨rfl, rfl⟩ | ⟨g, cp, cur, rfl, hgb, hh, hc⟩
    · have hxs : xs = [] := List.length_eq_zero_iff.1 (by omega)
      subst hxs
      refine wpList_append_own w hg s x _ hop w.heap.size e i z size bytes h1 h2 h3 h4 h5 h6 h7 _ 0 [] hs (World.ownsRow_nil _ _ _ _) ad m cap news hx hn (hcells ad rfl) h1c b1 b2 (Nat.le_refl _) ?_
      intro v' w' r1 r2 _
      exact hK v' w' ⟨r1.mono hB, r2, .inr fun k hk => (r1.lt k hk).1⟩
    · by_cases hfit : n + m ≤ cp
      · refine wpList_append_fits w hg s x _ hop B e i size h1 h2 h4 g n cp xs hs hown0 ad m cap news hx hn (hcells ad rfl) h1c hfit ?_
        intro w' r1 r2
        exact hK _ w' ⟨r1, r2, .inl rfl⟩
      · refine wpList_append_grows w hg s x _ hop e i z size bytes h1 h2 h3 h4 h5 h6 h7 (some ⟨g, 0, none⟩) n cp xs hs (fun h => by cases h) g1 (fun b hb => by cases hb; exact hown0.cells rfl) ad m cap news hx hn (hcells ad rfl) h1c (by omega) b1 b2 ?_
        intro v' w' r1 r2
        exact hK v' w' ⟨r1.mono hB, ⟨r2.os, r2.tape, r2.output, r2.size, fun k hk _ => r2.block k hk (by simp)⟩, .inr fun k hk => (r1.lt k hk).1⟩
theorem wpList_append_B (w : World) {ops : Array Oper} {rest : List Oper} {o : Oper} {a : Act} {Q : Exit → Act → World → Prop}
    (hg : o.guard = none) (s x : Operand) (hop : o.op = Op.call { callee := Callee.builtin Builtin.append, args := #[s, x], argTypes := #[77, 77] })
    (B : Nat) (v : Value) (L : List (Int × Nat)) (hs : a.eval s = v) (hown : OwnB w B v L) (u : Value) (M : List (Int × Nat)) (hx : a.eval x = u) (hr : RdC w u M.length (cB M))
    (hlen : L.length + M.length ≤ 1048576) (hB : B ≤ w.heap.size)
    (hK : ∀ v' w', OwnB w' B v' (L ++ M) → w.grownBy w' v.ownBlock → (v'.ownBlock = v.ownBlock ∨ ∀ g, v'.ownBlock = some g → w.heap.size ≤ g) → wpList Tryz.prog ops Q rest (a.put o.dst v') w') : wpList Tryz.prog ops Q (o :: rest) a w := by
  obtain ⟨i0, hi, hz0, hz1, hz2⟩ := info_parts Tryz.infoB
  refine wpList_append_ap w hg s x _ hop B 83 i0 (.agg #[.int .i64 0, .int .u64 0]) 2 16 Tryz.underlying77 hi hz0 hz1 hz2 rfl (by decide) v L.length (cB L) hs hown u M.length (cB M) hx hr (cB_len M) (cB_one M) (by unfold maxLen; omega) (by omega) hB ?_
  intro v' w' h
  refine hK v' w' ?_ h.grown h.fresh
  rw [OwnB, cB_app, List.length_append]
  exact h.own
theorem rdc_block (w : World) (h : Int) (k t : Nat) : RdC (w.alloc (.cells #[.int .i64 h, .int .u64 (k : Int)] t)) (.slice (some ⟨w.heap.size, 0, none⟩) 1 1) [(h, k)].length (cB [(h, k)]) := by
  refine ⟨some ⟨w.heap.size, 0, none⟩, 1, rfl, (fun h => by cases h), fun ad ha j c hj => ?_⟩
  cases ha
  match j, hj with
  | 0, hj => simp [cB] at hj; subst hj; simp [Addr.add, World.cell?_alloc_at]
  | 1, hj => simp [cB] at hj; subst hj; simp [Addr.add, World.cell?_alloc_at]
theorem ownB_next {w w' : World} {B e size n : Nat} {v : Value} {l : List Value} (h : w.ownsRow B e size v n l) (hb : Below w.heap.size w w') : w'.ownsRow B e size v n l := by
  obtain ⟨h1, h2⟩ := h
  refine ⟨h1, ?_⟩
  rcases h2 with h2 | ⟨g, cap, cur, hv, hg, hh, h3⟩
  · exact .inl h2
  · exact .inr ⟨g, cap, cur, hv, hg, (hb.block g (by have := (Array.getElem?_eq_some_iff.1 hh).1; exact this)).trans hh, h3⟩
theorem ownB_step0 {B : Nat} {w wr w1 : World} {v : Value} {e size n : Nat} {xs : List Value} (hB : Below B w wr) (hs : B ≤ wr.heap.size) (hown : wr.ownsRow B e size v n xs) (hg : wr.grownBy w1 v.ownBlock) : Below B w w1 ∧ B ≤ w1.heap.size := by
  have h1 := hg.size
  exact ⟨hB.grown hg hs (fun j hj => (hown.lt j hj).1), by omega⟩
end Go.Proofs.YtdocjikpcbmcgaaGreatDoor.Cv
