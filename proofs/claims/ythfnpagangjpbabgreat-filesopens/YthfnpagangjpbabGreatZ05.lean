/-
  Spec, WalkA, WalkB. Own work.
-/
import Derived.Test.YthfnpagangjpbabGreatRows
import Derived.Test.YthfnpagangjpbabGreatProg
import Derived.WalkKit
import Derived.WalkSpells
import Derived.Outline
import Derived.KernelRfl
import Derived.Deep.LoopGhost
import Derived.Deep.DrawnRows
import Derived.Deep.Light
import Derived.Laws.Bits64b
import Derived.Handy
import Derived.BigQuiet
/-
  Ones of a number, places, blocks and peaks as plain functions, and their laws. Own work.
-/
namespace Go.Proofs.YthfnpagangjpbabGreat.Pl
/-- The ones among the lowest k bits. -/
def ones : Nat → Nat → Nat
  | 0, _ => 0
  | k + 1, n => n % 2 + ones k (n / 2)
theorem div_pow_succ (n k : Nat) : n / 2 ^ (k + 1) = n / 2 ^ k / 2 := by
  rw [Nat.pow_succ, Nat.div_div_eq_div_mul]

theorem ones_zero (k : Nat) : ones k 0 = 0 := by
  induction k with
  | zero => rfl
  | succ k ih => simp [ones, ih]
theorem ones_le (k n : Nat) : ones k n ≤ k := by
  induction k generalizing n with
  | zero => exact Nat.le_refl _
  | succ k ih => have := ih (n / 2); simp only [ones]; omega
theorem ones_step (k n : Nat) (hk : k < 64) : ones (64 - k) (n / 2 ^ k) = n / 2 ^ k % 2 + ones (64 - (k + 1)) (n / 2 ^ (k + 1)) := by
  rw [show 64 - k = (64 - (k + 1)) + 1 by omega, ones, div_pow_succ]
/- Places: a tree's first place, its node's place, the way down. -/
def N (n : Nat) : Nat := 2 * n - ones 64 n
def pw (h : Nat) : Nat := 2 ^ h
/-- The place of the block's node. -/
def at' (h k : Nat) : Nat := 2 * pw h * (k + 1) - 2 - ones 64 k
/-- The first place of the block's tree. -/
def fr (h k : Nat) : Nat := 2 * pw h * k - ones 64 k
/-- The way down from a block to the a-th place of its tree. -/
def down : Nat → Nat → Nat → Nat × Nat
  | 0, k, _ => (0, k)
  | h + 1, k, a => if a = 4 * pw h - 2 then (h + 1, k) else if a < 2 * pw h - 1 then down h (2 * k) a else down h (2 * k + 1) (a - (2 * pw h - 1))

theorem pw_succ (h : Nat) : pw (h + 1) = 2 * pw h := by simp [pw, Nat.pow_succ, Nat.mul_comm]
theorem pw_zero : pw 0 = 1 := rfl
theorem pw_pos (h : Nat) : 0 < pw h := Nat.two_pow_pos h
theorem pw_add (a b : Nat) : pw (a + b) = pw a * pw b := Nat.pow_add 2 a b
theorem pw_le {a b : Nat} (h : a ≤ b) : pw a ≤ pw b := Nat.pow_le_pow_right (by decide) h
theorem div_half (y d : Nat) : y / pw (d + 1) = y / pw d / 2 := by
  rw [pw_succ, Nat.mul_comm, ← Nat.div_div_eq_div_mul]
theorem ones_self (j k : Nat) : ones j k ≤ k := by
  induction j generalizing k with
  | zero => exact Nat.zero_le _
  | succ j ih => have := ih (k / 2); simp only [ones]; omega
theorem ones_more (j k : Nat) (h : k < 2 ^ j) : ones (j + 1) k = ones j k := by
  induction j generalizing k with
  | zero => simp at h; subst h; rfl
  | succ j ih =>
    rw [ones, ih (k / 2) (by rw [Nat.pow_succ] at h; omega)]; rfl
theorem ones_two (k : Nat) (h : k < 2 ^ 63) : ones 64 (2 * k) = ones 64 k := by
  rw [ones_more 63 k h, ones]
  have e1 : 2 * k % 2 = 0 := by omega
  have e2 : 2 * k / 2 = k := by omega
  rw [e1, e2]; omega
theorem ones_odd (k : Nat) (h : k < 2 ^ 63) : ones 64 (2 * k + 1) = ones 64 k + 1 := by
  rw [ones_more 63 k h, ones]
  have e1 : (2 * k + 1) % 2 = 1 := by omega
  have e2 : (2 * k + 1) / 2 = k := by omega
  rw [e1, e2]; omega
theorem ones_shift (h k : Nat) (hb : k * pw h < 2 ^ 63) : ones 64 (k * pw h) = ones 64 k := by
  induction h with
  | zero => simp [pw]
  | succ h ih =>
    rw [pw_succ] at hb ⊢
    have e : k * (2 * pw h) = 2 * (k * pw h) := by rw [Nat.mul_left_comm]
    rw [e] at hb ⊢
    rw [ones_two _ (by omega), ih (by omega)]
theorem ones_last (h k : Nat) (hb : (k + 1) * pw h < 2 ^ 63) : ones 64 ((k + 1) * pw h - 1) = ones 64 k + h := by
  induction h with
  | zero => simp [pw]
  | succ h ih =>
    rw [pw_succ] at hb ⊢
    have e : (k + 1) * (2 * pw h) = 2 * ((k + 1) * pw h) := by rw [Nat.mul_left_comm]
    have hp : 0 < (k + 1) * pw h := Nat.mul_pos (by omega) (pw_pos h)
    rw [e] at hb ⊢
    have e2 : 2 * ((k + 1) * pw h) - 1 = 2 * ((k + 1) * pw h - 1) + 1 := by omega
    rw [e2, ones_odd _ (by omega), ih (by omega)]; omega
theorem at_eq (h k : Nat) : at' h k + 2 + ones 64 k = 2 * pw h * (k + 1) := by
  have h1 := ones_self 64 k
  have h2 : 1 * (2 * (k + 1)) ≤ pw h * (2 * (k + 1)) := Nat.mul_le_mul_right _ (pw_pos h)
  have e : 2 * pw h * (k + 1) = pw h * (2 * (k + 1)) := by rw [Nat.mul_comm 2, Nat.mul_assoc]
  simp only [at']
  rw [e]; omega
theorem fr_eq (h k : Nat) : fr h k + ones 64 k = 2 * pw h * k := by
  have h1 := ones_self 64 k
  have h2 : 1 * (2 * k) ≤ pw h * (2 * k) := Nat.mul_le_mul_right _ (pw_pos h)
  have e : 2 * pw h * k = pw h * (2 * k) := by rw [Nat.mul_comm 2, Nat.mul_assoc]
  simp only [fr]
  rw [e]; omega
/-- The node is the last of its tree. -/
theorem at_fr (h k : Nat) : at' h k = fr h k + (2 * pw h - 2) := by
  have h1 := at_eq h k
  have h2 := fr_eq h k
  have h3 := pw_pos h
  rw [Nat.mul_add, Nat.mul_one] at h1; omega
theorem N_eq (n : Nat) : N n + ones 64 n = 2 * n := by
  have := ones_self 64 n; simp only [N]; omega
theorem N_at (h k : Nat) (hb : (k + 1) * pw h < 2 ^ 63) : N ((k + 1) * pw h - 1) + h = at' h k := by
  have h1 := at_eq h k
  have h2 := N_eq ((k + 1) * pw h - 1)
  have h3 := ones_last h k hb
  have hp : 0 < (k + 1) * pw h := Nat.mul_pos (by omega) (pw_pos h)
  have e : 2 * pw h * (k + 1) = 2 * ((k + 1) * pw h) := by rw [Nat.mul_assoc, Nat.mul_comm (pw h)]
  omega
theorem N_fr (h k : Nat) (hb : k * pw h < 2 ^ 63) : N (k * pw h) = fr h k := by
  have h1 := fr_eq h k
  have h2 := N_eq (k * pw h)
  have h3 := ones_shift h k hb
  have e : 2 * pw h * k = 2 * (k * pw h) := by rw [Nat.mul_assoc, Nat.mul_comm (pw h)]
  omega
theorem fr_left (h k : Nat) (hk : k < 2 ^ 63) : fr h (2 * k) = fr (h + 1) k := by
  have h1 := fr_eq (h + 1) k
  have h2 := fr_eq h (2 * k)
  have h3 := ones_two k hk
  have e : 2 * pw (h + 1) * k = 2 * pw h * (2 * k) := by rw [pw_succ, Nat.mul_assoc 2 (2 * pw h) k, Nat.mul_assoc 2 (pw h) (2 * k), Nat.mul_assoc 2 (pw h) k, Nat.mul_left_comm (pw h) 2 k]
  omega
theorem fr_right (h k : Nat) (hk : k < 2 ^ 63) : fr h (2 * k + 1) = fr (h + 1) k + (2 * pw h - 1) := by
  have h1 := fr_left h k hk
  have h2 := fr_eq h (2 * k)
  have h3 := fr_eq h (2 * k + 1)
  have h4 := ones_two k hk
  have h5 := ones_odd k hk
  have h6 := pw_pos h
  rw [Nat.mul_add, Nat.mul_one] at h3
  omega
theorem may_two {h k : Nat} (hh : h < 40) (hk : k < pw (40 - (h + 1))) : 2 * k + 1 < pw (40 - h) := by
  rw [show 40 - h = (40 - (h + 1)) + 1 by omega, pw_succ]; omega
theorem may_big {h k : Nat} (hk : k < pw (40 - h)) : k < 2 ^ 40 :=
  Nat.lt_of_lt_of_le hk (pw_le (by omega))
theorem may_mul {h k : Nat} (hh : h ≤ 40) (hk : k < pw (40 - h)) : (k + 1) * pw h ≤ 2 ^ 40 := by
  have h1 : (k + 1) * pw h ≤ pw (40 - h) * pw h := Nat.mul_le_mul_right _ hk
  rw [← pw_add, show 40 - h + h = 40 by omega] at h1
  exact h1
/-- What the way down ends at. -/
theorem down_at (h k a : Nat) (hh : h ≤ 40) (hk : k < pw (40 - h)) (ha : a < 2 * pw h - 1) :
    (down h k a).1 ≤ h ∧ (down h k a).2 < pw (40 - (down h k a).1) ∧ at' (down h k a).1 (down h k a).2 = fr h k + a ∧ (down h k a).2 / pw (h - (down h k a).1) = k := by
  induction h generalizing k a with
  | zero =>
    have : a = 0 := by simp [pw] at ha; omega
    subst this
    refine ⟨Nat.le_refl _, hk, ?_, by simp [down, pw]⟩
    rw [at_fr]; simp [down, pw]
  | succ h ih =>
    have hp := pw_succ h
    have hq := pw_pos h
    have hk2 := may_two (by omega) hk
    have hk3 : k < 2 ^ 63 := by have := may_big hk; omega
    simp only [down]
    split
    · rename_i h1
      refine ⟨Nat.le_refl _, hk, ?_, by simp [pw]⟩
      show at' (h + 1) k = _
      rw [at_fr, hp, h1]; omega
    · rename_i h1
      split
      · rename_i h2
        obtain ⟨i1, i2, i3, i4⟩ := ih (2 * k) a (by omega) (by omega) h2
        refine ⟨by omega, i2, by rw [i3, fr_left h k hk3], ?_⟩
        rw [show h + 1 - (down h (2 * k) a).1 = (h - (down h (2 * k) a).1) + 1 by omega, div_half, i4]
        omega
      · rename_i h2
        obtain ⟨i1, i2, i3, i4⟩ := ih (2 * k + 1) (a - (2 * pw h - 1)) (by omega) hk2 (by omega)
        refine ⟨by omega, i2, by rw [i3, fr_right h k hk3]; omega, ?_⟩
        rw [show h + 1 - (down h (2 * k + 1) (a - (2 * pw h - 1))).1 = (h - (down h (2 * k + 1) (a - (2 * pw h - 1))).1) + 1 by omega, div_half, i4]
        omega
/-- And the way back. -/
theorem down_back (h k d : Nat) (hh : h + d ≤ 40) (hk : k < pw (40 - h)) :
    ∃ a, a < 2 * pw (h + d) - 1 ∧ at' h k = fr (h + d) (k / pw d) + a ∧ down (h + d) (k / pw d) a = (h, k) ∧ k / pw d < pw (40 - (h + d)) := by
  induction d with
  | zero =>
    refine ⟨2 * pw h - 2, by have := pw_pos h; simp; omega, ?_, ?_, ?_⟩
    · simp [pw_zero, at_fr]
    · simp only [pw_zero, Nat.div_one, Nat.add_zero]
      cases h with
      | zero => simp [down]
      | succ h => rw [down, pw_succ, if_pos (by omega)]
    · simpa [pw_zero] using hk
  | succ d ih =>
    obtain ⟨a, i1, i2, i3, i4⟩ := ih (by omega)
    have e := div_half k d
    rw [e, ← Nat.add_assoc]
    revert i2 i3 i4
    generalize k / pw d = x
    intro i2 i3 i4
    have hx : x / 2 < pw (40 - (h + d + 1)) := by
      rw [show 40 - (h + d) = (40 - (h + d + 1)) + 1 by omega, pw_succ] at i4; omega
    have hx2 : x / 2 < 2 ^ 63 := by have := may_big i4; omega
    have hp := pw_pos (h + d)
    have hp1 := pw_succ (h + d)
    by_cases hx1 : x % 2 = 0
    · have ex : x = 2 * (x / 2) := by omega
      rw [ex, fr_left _ _ hx2] at i2
      refine ⟨a, by omega, i2, ?_, hx⟩
      rw [down, if_neg (by omega), if_pos (by omega), ← ex, i3]
    · have ex : x = 2 * (x / 2) + 1 := by omega
      rw [ex, fr_right _ _ hx2] at i2
      refine ⟨2 * pw (h + d) - 1 + a, by omega, by omega, ?_, hx⟩
      rw [down, if_neg (by omega), if_neg (by omega), ← ex, show 2 * pw (h + d) - 1 + a - (2 * pw (h + d) - 1) = a by omega, i3]
/-- The block at a place. -/
def blk (p : Nat) : Nat × Nat := down 40 0 p
def most : Nat := 2199023255550
theorem fr_all : fr 40 0 = 0 := by simp [fr]
theorem blk_at (p : Nat) (hp : p ≤ most) : (blk p).1 ≤ 40 ∧ (blk p).2 < pw (40 - (blk p).1) ∧ at' (blk p).1 (blk p).2 = p := by
  have h := down_at 40 0 p (Nat.le_refl _) (by decide) (by simp only [most] at hp; simp [pw]; omega)
  rw [fr_all] at h
  exact ⟨h.1, h.2.1, by rw [show (blk p) = down 40 0 p from rfl, h.2.2.1]; omega⟩
theorem at_blk (h k : Nat) (hh : h ≤ 40) (hk : k < pw (40 - h)) : at' h k ≤ most ∧ blk (at' h k) = (h, k) := by
  obtain ⟨a, h1, h2, h3, h4⟩ := down_back h k (40 - h) (by omega) hk
  rw [show h + (40 - h) = 40 by omega] at *
  have e : k / pw (40 - h) = 0 := Nat.div_eq_of_lt hk
  rw [e, fr_all] at h2
  rw [e] at h3
  rw [h2, Nat.zero_add]
  exact ⟨by simp [pw] at h1; simp only [most]; omega, h3⟩
theorem at_lt (h k : Nat) (hh : h ≤ 40) (hk : k < pw (40 - h)) : at' h k ≤ most := (at_blk h k hh hk).1
theorem at_inj (h k h' k' : Nat) (hh : h ≤ 40) (hk : k < pw (40 - h)) (hh' : h' ≤ 40) (hk' : k' < pw (40 - h')) (e : at' h k = at' h' k') : h = h' ∧ k = k' := by
  have h1 := (at_blk h k hh hk).2
  rw [e, (at_blk h' k' hh' hk').2] at h1
  exact ⟨(congrArg Prod.fst h1).symm, (congrArg Prod.snd h1).symm⟩
/-- The peaks of the bits 40 down to 41 - d, from the left. -/
def pk : Nat → Nat → List Nat
  | 0, _ => []
  | d + 1, n => pk d n ++ (if n / pw (40 - d) % 2 = 1 then [at' (40 - d) (n / pw (40 - d) - 1)] else [])
/-- Their blocks. -/
def mt : Nat → Nat → List (Nat × Nat)
  | 0, _ => []
  | d + 1, n => mt d n ++ (if n / pw (40 - d) % 2 = 1 then [(40 - d, n / pw (40 - d) - 1)] else [])
theorem pk_one (d n : Nat) (h : n / pw (40 - d) % 2 = 1) : pk (d + 1) n = pk d n ++ [at' (40 - d) (n / pw (40 - d) - 1)] := by rw [pk, if_pos h]
theorem pk_none (d n : Nat) (h : ¬ n / pw (40 - d) % 2 = 1) : pk (d + 1) n = pk d n := by rw [pk, if_neg h, List.append_nil]
theorem mt_one (d n : Nat) (h : n / pw (40 - d) % 2 = 1) : mt (d + 1) n = mt d n ++ [(40 - d, n / pw (40 - d) - 1)] := by rw [mt, if_pos h]
theorem mt_none (d n : Nat) (h : ¬ n / pw (40 - d) % 2 = 1) : mt (d + 1) n = mt d n := by rw [mt, if_neg h, List.append_nil]
theorem pk_len (d n : Nat) : (pk d n).length ≤ d := by
  induction d with
  | zero => exact Nat.le_refl _
  | succ d ih => rw [pk]; split <;> simp <;> omega
theorem mt_pk (d n : Nat) : (mt d n).map (fun b => at' b.1 b.2) = pk d n := by
  induction d with
  | zero => rfl
  | succ d ih =>
    rw [mt, pk, List.map_append, ih]; split <;> rfl
theorem mt_len (d n : Nat) : (mt d n).length = (pk d n).length := by rw [← mt_pk, List.length_map]
theorem pw_split (n h : Nat) (hn : n ≤ 2 ^ 40) (hh : h ≤ 40) : n / pw h ≤ pw (40 - h) := by
  have : n / pw h ≤ pw (40 - h) * pw h / pw h := Nat.div_le_div_right (by rw [← pw_add, show 40 - h + h = 40 by omega]; exact hn)
  rwa [Nat.mul_div_cancel _ (pw_pos h)] at this
theorem bit_may (n h : Nat) (hn : n ≤ 2 ^ 40) (hh : h ≤ 40) (hb : n / pw h % 2 = 1) : n / pw h - 1 < pw (40 - h) := by
  have := pw_split n h hn hh
  revert this hb; generalize n / pw h = x; intro this hb; omega
theorem mt_may (d n : Nat) (hd : d ≤ 41) (hn : n ≤ 2 ^ 40) : ∀ b ∈ mt d n, b.1 ≤ 40 ∧ b.2 < pw (40 - b.1) := by
  induction d with
  | zero => intro b hb; cases hb
  | succ d ih =>
    intro b hb
    rw [mt] at hb
    rcases List.mem_append.1 hb with hb | hb
    · exact ih (by omega) b hb
    · split at hb
      · rename_i h1
        rw [List.mem_singleton.1 hb]
        exact ⟨by show 40 - d ≤ 40; omega, bit_may n (40 - d) hn (by omega) h1⟩
      · cases hb
/-- Behind an odd number's block: the next one. -/
theorem at_next (h k : Nat) (hk : k < 2 ^ 63) (ho : k % 2 = 1) : at' h (k - 1) + 1 = fr h k := by
  have e : k = 2 * (k / 2) + 1 := by omega
  have h1 := fr_right h (k / 2) (by omega)
  have h2 := fr_left h (k / 2) (by omega)
  have h3 := at_fr h (k - 1)
  have h4 := pw_pos h
  rw [← e] at h1
  rw [show 2 * (k / 2) = k - 1 by omega] at h2
  omega
/-- How far the trees of the higher bits reach. -/
theorem fill_one (n h : Nat) (hn : n ≤ 2 ^ 40) (ho : n / pw h % 2 = 1) : fr (h + 1) (n / pw (h + 1)) + (2 * pw h - 1) = fr h (n / pw h) ∧ fr (h + 1) (n / pw (h + 1)) + (2 * pw h - 1) = at' h (n / pw h - 1) + 1 := by
  have hb : n / pw h < 2 ^ 63 := by have := Nat.div_le_self n (pw h); omega
  have h0 := at_next h (n / pw h) hb ho
  rw [div_half]
  have h1 := fr_right h (n / pw h / 2) (by omega)
  rw [show 2 * (n / pw h / 2) + 1 = n / pw h by omega] at h1
  omega
theorem fill_none (n h : Nat) (hn : n ≤ 2 ^ 40) (ho : ¬ n / pw h % 2 = 1) : fr (h + 1) (n / pw (h + 1)) = fr h (n / pw h) := by
  have hb : n / pw h < 2 ^ 63 := by have := Nat.div_le_self n (pw h); omega
  rw [div_half]
  have h1 := fr_left h (n / pw h / 2) (by omega)
  rw [show 2 * (n / pw h / 2) = n / pw h by omega] at h1
  exact h1.symm
theorem fill_start (n : Nat) (hn : n ≤ 2 ^ 40) : fr 41 (n / pw 41) = 0 := by
  have : n / pw 41 = 0 := Nat.div_eq_of_lt (by have : pw 41 = 2 ^ 41 := rfl; omega)
  rw [this]; simp [fr]
theorem fill_end (n : Nat) : fr 0 (n / pw 0) = N n := by simp [fr, N, pw]
theorem fill_le (n h : Nat) (hn : n ≤ 2 ^ 40) : fr h (n / pw h) ≤ 2 * 2 ^ 40 := by
  have h1 := fr_eq h (n / pw h)
  have h2 : n / pw h * pw h ≤ n := Nat.div_mul_le_self n (pw h)
  have e : 2 * pw h * (n / pw h) = 2 * (n / pw h * pw h) := by rw [Nat.mul_assoc, Nat.mul_comm (pw h)]
  omega
theorem pk_pre (d e n : Nat) (h : d ≤ e) : ∃ r, pk e n = pk d n ++ r := by
  induction e with
  | zero => exact ⟨[], by rw [show d = 0 by omega]; rfl⟩
  | succ e ih =>
    by_cases h1 : d = e + 1
    · exact ⟨[], by rw [h1]; simp⟩
    · obtain ⟨r, hr⟩ := ih (by omega)
      exact ⟨r ++ (if n / pw (40 - e) % 2 = 1 then [at' (40 - e) (n / pw (40 - e) - 1)] else []), by rw [pk, hr, List.append_assoc]⟩
theorem pk_at (d n : Nat) (hd : d < 41) (h : n / pw (40 - d) % 2 = 1) : (pk 41 n)[(pk d n).length]? = some (at' (40 - d) (n / pw (40 - d) - 1)) := by
  obtain ⟨r, hr⟩ := pk_pre (d + 1) 41 n hd
  rw [hr, pk_one d n h, List.append_assoc, List.getElem?_append_right (Nat.le_refl _)]
  simp
theorem pk_lt (d n : Nat) (hd : d < 41) (h : n / pw (40 - d) % 2 = 1) : (pk d n).length < (pk 41 n).length := by
  have := pk_at d n hd h
  exact (List.getElem?_eq_some_iff.1 this).1
theorem pk_cong (d m n : Nat) (hd : d ≤ 41) (h : m / pw (41 - d) = n / pw (41 - d)) : pk d m = pk d n := by
  induction d with
  | zero => rfl
  | succ d ih =>
    have e : 41 - d = (40 - d) + 1 := by omega
    have h' : m / pw (40 - d) = n / pw (40 - d) := by rw [show 40 - d = 41 - (d + 1) by omega]; exact h
    rw [pk, pk, h', ih (by omega) (by rw [e, div_half, div_half, h'])]
/-- The low bits are all zero. -/
theorem pk_zeros (t n : Nat) (ht : t ≤ 40) (h : n % pw t = 0) : pk 41 n = pk (41 - t) n := by
  induction t with
  | zero => rfl
  | succ t ih =>
    have h2 : n % pw t = 0 := by
      rw [pw_succ] at h
      exact Nat.mod_eq_zero_of_dvd (Nat.dvd_trans (Nat.dvd_mul_left _ 2) (Nat.dvd_of_mod_eq_zero h))
    rw [ih (by omega) h2, show 41 - t = (41 - (t + 1)) + 1 by omega]
    refine pk_none _ _ ?_
    rw [show 40 - (41 - (t + 1)) = t by omega]
    have : n / pw t % 2 = n % pw (t + 1) / pw t := by
      rw [pw_succ, Nat.mul_comm, Nat.mod_mul_right_div_self]
    rw [this, h]; simp
/-- The ones at a number's end. -/
def trl : Nat → Nat → Nat
  | 0, _ => 0
  | f + 1, n => if n % 2 = 1 then trl f (n / 2) + 1 else 0
/-- All of the lowest t bits are ones: then so stands it with the next number. -/
theorem ones_end (t n : Nat) (h : n % pw t = pw t - 1) : n + 1 = (n / pw t + 1) * pw t := by
  have h1 := Nat.div_add_mod n (pw t)
  have h2 := pw_pos t
  rw [Nat.add_mul, Nat.one_mul, Nat.mul_comm (n / pw t)]; omega
theorem ones_end_succ (t n : Nat) (h : n % pw t = pw t - 1) (ho : n / pw t % 2 = 1) : n % pw (t + 1) = pw (t + 1) - 1 := by
  have h2 := pw_pos t
  have e : n % pw (t + 1) = n % pw t + pw t * (n / pw t % 2) := by rw [pw_succ, Nat.mul_comm, Nat.mod_mul]
  rw [e, h, ho, pw_succ]; omega
theorem ones_end_le (t n : Nat) (h : n % pw t = pw t - 1) (hn : n < 2 ^ 40) : t ≤ 40 := by
  have h1 : pw t - 1 ≤ n := by rw [← h]; exact Nat.mod_le _ _
  have h2 := pw_pos t
  by_cases ht : t ≤ 40
  · exact ht
  · have : pw 41 ≤ pw t := pw_le (by omega)
    have : pw 41 = 2 ^ 41 := rfl
    omega
/-- The t-th ancestor of a new item's leaf. -/
theorem new_at (t n : Nat) (h : n % pw t = pw t - 1) (hn : n < 2 ^ 40) : at' t (n / pw t) = N n + t ∧ n / pw t < pw (40 - t) ∧ t ≤ 40 := by
  have e := ones_end t n h
  have ht := ones_end_le t n h hn
  have hx := N_at t (n / pw t) (by rw [← e]; omega)
  rw [← e, Nat.add_sub_cancel] at hx
  refine ⟨hx.symm, ?_, ht⟩
  rw [Nat.div_lt_iff_lt_mul (pw_pos t), ← pw_add, show 40 - t + t = 40 by omega]
  exact hn
/-- The next number's nodes and peaks: t ones at the end, and no more. -/
theorem new_N (t n : Nat) (h : n % pw t = pw t - 1) (ho : ¬ n / pw t % 2 = 1) (hn : n < 2 ^ 40) : N (n + 1) = N n + t + 1 := by
  have e := ones_end t n h
  obtain ⟨h1, h2, ht⟩ := new_at t n h hn
  have hb := may_big h2
  have h4 := N_fr t (n / pw t + 1) (by rw [← e]; omega)
  rw [← e] at h4
  have h5 := at_next t (n / pw t + 1) (by omega) (by omega)
  rw [Nat.add_sub_cancel] at h5
  omega
theorem new_pk (t n : Nat) (h : n % pw t = pw t - 1) (ho : ¬ n / pw t % 2 = 1) (hn : n < 2 ^ 40) : pk 41 (n + 1) = pk (41 - t) n ++ [N n + t] := by
  have e := ones_end t n h
  obtain ⟨h1, h2, ht⟩ := new_at t n h hn
  have hd : (n + 1) / pw t = n / pw t + 1 := by
    rw [e, Nat.mul_div_cancel _ (pw_pos t)]
  rw [pk_zeros t (n + 1) ht (by rw [e]; exact Nat.mul_mod_left _ _), show 41 - t = (40 - t) + 1 by omega, pk_one (40 - t) (n + 1) (by rw [show 40 - (40 - t) = t by omega, hd]; omega), pk_none (40 - t) n (by rw [show 40 - (40 - t) = t by omega]; exact ho)]
  rw [show 40 - (40 - t) = t by omega, hd, Nat.add_sub_cancel, h1]
  rw [pk_cong (40 - t) (n + 1) n (by omega) (by rw [show 41 - (40 - t) = t + 1 by omega, div_half, div_half, hd]; omega)]
/-- One peak less: the level above. -/
theorem pop_pk (t n : Nat) (ht : t ≤ 40) (ho : n / pw t % 2 = 1) : (pk (41 - t) n).length = (pk (41 - (t + 1)) n).length + 1 ∧ pk (41 - (t + 1)) n = (pk (41 - t) n).take ((pk (41 - t) n).length - 1) := by
  have e := pk_one (40 - t) n (by rw [show 40 - (40 - t) = t by omega]; exact ho)
  rw [show 41 - t = (40 - t) + 1 by omega, show 41 - (t + 1) = 40 - t by omega, e]
  simp
theorem trl_step (f n : Nat) (h : n % 2 = 1) : trl (f + 1) n = trl f (n / 2) + 1 := by rw [trl, if_pos h]
theorem trl_none (f n : Nat) (h : ¬ n % 2 = 1) : trl (f + 1) n = 0 := by rw [trl, if_neg h]
end Go.Proofs.YthfnpagangjpbabGreat.Pl
/-
  Walks of packages num and place: what reckons alone. Own work.
-/
namespace Go.Proofs.YthfnpagangjpbabGreat.Pl
open Go.RowKit
attribute [local go_sem ↓] Go.wp_at_zero Go.wp_at_succ

theorem bit_eq (n k : Nat) (hn : n < 2 ^ 64) : (bits BinOp.and IntKind.u64 ((n : Int) / 2 ^ k) 1 == 1) = decide (n / 2 ^ k % 2 = 1) := by
  have e : ((n : Int) / 2 ^ k) = ((n / 2 ^ k : Nat) : Int) := by simp
  rw [e]
  have hm : n / 2 ^ k < 18446744073709551616 := Nat.lt_of_le_of_lt (Nat.div_le_self _ _) hn
  revert hm
  generalize n / 2 ^ k = m
  intro hm
  have := bits_and_u64_nat m 1 hm (by decide)
  rw [show (1 : Int) = ((1 : Nat) : Int) from rfl, this, Nat.and_one_is_mod]
  by_cases h : m % 2 = 1
  · simp [h]
  · have : m % 2 = 0 := by omega
    simp [this]
theorem isOne_any (n k : Nat) (w : World) (hn : n < 2 ^ 64) (hk : k < 64) :
    Calls Tryz.prog 154 #[.int .u64 n, .int .i64 k] w fun e w' => e = .returned (.bool (decide (n / 2 ^ k % 2 = 1))) ∧ w' = w := by
  have hk0 : (0 : Int) ≤ (k : Int) := Int.natCast_nonneg _
  go_enter Tryz.func154, Tryz.ntmps154
  go_wp2
  go_ret
  refine ⟨?_, rfl⟩
  rw [← bit_eq n k hn]
  rfl
theorem ones_any (n : Nat) (w : World) (hn : n < 2 ^ 64) :
    Calls Tryz.prog 146 #[.int .u64 n] w fun e w' => e = .returned (.int .i64 (ones 64 n : Nat)) ∧ w' = w := by
  go_enter Tryz.func146, Tryz.ntmps146
  go_wp2
  go_loopg [3, 5] 64 (fun g c i wr => ∃ k m : Nat, k ≤ 64 ∧ g = 64 - k ∧ i = .int .i64 k ∧ c = .int .i64 m ∧ m ≤ k ∧ m + ones (64 - k) (n / 2 ^ k) = ones 64 n ∧ w = wr)
  case atStart =>
    go_light
    exact ⟨0, 0, Nat.zero_le _, rfl, rfl, rfl, Nat.zero_le _, by simp, rfl⟩
  case round =>
    obtain ⟨k, m, hk, rfl, rfl, rfl, hm, hs, rfl⟩ := hrel
    have hk0 : (0 : Int) ≤ (k : Int) := Int.natCast_nonneg _
    have hm0 : (0 : Int) ≤ (m : Int) := Int.natCast_nonneg _
    have hm1 : (m : Int) ≤ 64 := by omega
    by_cases hlt : k < 64
    · have hk8 : (k : Int) < 64 := by omega
      have HS := ones_step k n hlt
      have HC := isOne_any n k w hn hlt
      by_cases hb : n / 2 ^ k % 2 = 1
      · rw [decide_eq_true hb] at HC
        go_wp2_with (go_at_call 154; refine HC.mono ?_; rintro e w' ⟨rfl, rfl⟩)
        go_roundg (64 - (k + 1))
        case rel =>
          go_light
          exact ⟨k + 1, m + 1, by omega, rfl, by go_num, by go_num, by omega, by omega, rfl⟩
        case measure => go_light; omega
      · rw [decide_eq_false hb] at HC
        go_wp2_with (go_at_call 154; refine HC.mono ?_; rintro e w' ⟨rfl, rfl⟩)
        go_roundg (64 - (k + 1))
        case rel =>
          go_light
          exact ⟨k + 1, m, by omega, rfl, by go_num, rfl, by omega, by omega, rfl⟩
        case measure => go_light; omega
    · obtain rfl : k = 64 := by omega
      clear hk hlt
      go_wp2
      go_ret
      refine ⟨?_, rfl⟩
      rw [← hs]
      rfl
theorem pw_40 (h : Nat) (hh : h ≤ 40) : pw h ≤ 1099511627776 := pw_le hh
theorem count_any (n : Nat) (w : World) (hn : n ≤ 2 ^ 40) :
    Calls Tryz.prog 124 #[.int .u64 n] w fun e w' => e = .returned (.int .u64 (N n : Nat)) ∧ w' = w := by
  have HC := ones_any n w (by omega)
  have h1 := ones_self 64 n
  have h2 := ones_le 64 n
  have h3 := N_eq n
  generalize N n = x at *
  generalize ones 64 n = y at *
  obtain ⟨d, hd⟩ : ∃ d : Nat, 2 * n = d := ⟨_, rfl⟩
  have e1 : IntKind.u64.wrap (2 * (n : Int)) = (d : Int) := by rw [IntKind.wrap_u64]; omega
  have e2 : IntKind.u64.wrap (y : Int) = (y : Int) := by rw [IntKind.wrap_u64]; omega
  have e3 : IntKind.u64.wrap ((d : Int) - (y : Int)) = (x : Int) := by rw [IntKind.wrap_u64]; omega
  clear hn h1 h2 h3 hd
  go_enter Tryz.func124, Tryz.ntmps124
  go_wp2_with (go_at_call 146; refine HC.mono ?_; rintro e w' ⟨rfl, rfl⟩)
  go_ret
  exact ⟨rfl, rfl⟩

/-- A block as a value. -/
abbrev bv (h k : Nat) : Value := .agg #[.int .i64 (h : Int), .int .u64 (k : Int)]
end Go.Proofs.YthfnpagangjpbabGreat.Pl
/-
  Walks of package place: at, Of, Nodes, Leaf. Own work.
-/
namespace Go.Proofs.YthfnpagangjpbabGreat.Pl
open Go.RowKit
attribute [local go_sem ↓] Go.wp_at_zero Go.wp_at_succ
theorem below_drewN {B : Nat} {a w : World} (h : Below B a w) (n : Nat) : Below B a (w.drewN n) := ⟨h.os, h.tape, h.output, h.size, h.block⟩
theorem nodes_yes (n : Nat) (w : World) (hn : n ≤ 2 ^ 40) :
    Calls Tryz.prog 82 #[.int .u64 n] w fun e w' => e = .returned (.tuple #[.int .u64 (N n : Nat), .bool true]) ∧ w' = w := by
  have HC := count_any n w hn
  have ht : ¬ (1099511627776 : Int) < (n : Int) := by omega
  generalize N n = x at *
  clear hn
  go_enter Tryz.func82, Tryz.ntmps82
  go_wp2_with (go_at_call 124; refine HC.mono ?_; rintro e w' ⟨rfl, rfl⟩)
  go_ret2
  exact ⟨rfl, rfl⟩
theorem nodes_no (n : Nat) (w : World) (hn : 2 ^ 40 < n) :
    Calls Tryz.prog 82 #[.int .u64 n] w fun e w' => e = .returned (.tuple #[.int .u64 0, .bool false]) ∧ w' = w := by
  have ht : (1099511627776 : Int) < (n : Int) := by omega
  clear hn
  go_enter Tryz.func82, Tryz.ntmps82
  go_wp2
  go_ret2
  exact ⟨rfl, rfl⟩
/-- A block that may be; any numbers. -/
def May (h : Int) (k : Nat) : Prop := 0 ≤ h ∧ h ≤ 40 ∧ k < pw (40 - h.toNat)
theorem shr_pw (h : Nat) (hh : h ≤ 40) : (1099511627776 : Int) / 2 ^ h = (pw (40 - h) : Int) := by
  have e : (1099511627776 : Int) = ((pw (40 - h) * pw h : Nat) : Int) := by rw [← pw_add, show 40 - h + h = 40 by omega]; rfl
  have e2 : ((2 : Int) ^ h) = (pw h : Int) := by simp [pw]
  rw [e, e2, ← Int.natCast_ediv, Nat.mul_div_cancel _ (pw_pos h)]
/-- A block as a value, its height any number. -/
abbrev bz (h : Int) (k : Nat) : Value := .agg #[.int .i64 h, .int .u64 (k : Int)]
end Go.Proofs.YthfnpagangjpbabGreat.Pl
