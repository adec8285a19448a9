/-
  The document's covers: each mountain gone down from its top; they are the same. Own work.
-/
import Derived.Test.YtelglfmppmdmoaaCvWalkE
namespace Go.Proofs.Ytelglfmppmdmoaa.Cv
open Pl
/-- The largest blocks of a block within a range. -/
def tin (lo hi : Nat) : Nat → Nat → List (Nat × Nat)
  | 0, K => if lo ≤ K * pw 0 ∧ (K + 1) * pw 0 ≤ hi then [(0, K)] else []
  | H + 1, K => if lo ≤ K * pw (H + 1) ∧ (K + 1) * pw (H + 1) ≤ hi then [(H + 1, K)] else if (K + 1) * pw (H + 1) ≤ lo ∨ hi ≤ K * pw (H + 1) then [] else tin lo hi H (2 * K) ++ tin lo hi H (2 * K + 1)
def inb (H K i : Nat) : Bool := decide (K * pw H ≤ i) && decide (i < (K + 1) * pw H)
/-- The largest blocks of a block that have none of a set. -/
def tno : Nat → Nat → List Nat → List (Nat × Nat)
  | 0, K, S => if (S.filter (inb 0 K)).length = 0 then [(0, K)] else []
  | H + 1, K, S => if (S.filter (inb (H + 1) K)).length = 0 then [(H + 1, K)] else tno H (2 * K) (S.filter (inb (H + 1) K)) ++ tno H (2 * K + 1) (S.filter (inb (H + 1) K))
theorem inb_iff {H K i : Nat} : inb H K i = true ↔ K * pw H ≤ i ∧ i < (K + 1) * pw H := by simp [inb]
theorem half_lo (H K : Nat) : (2 * K) * pw H = K * pw (H + 1) := (mul_half K H).symm
theorem half_mid (H K : Nat) : (2 * K + 1) * pw H = K * pw (H + 1) + pw H := by rw [Nat.add_mul, Nat.one_mul, half_lo]
theorem half_hi (H K : Nat) : (2 * K + 1 + 1) * pw H = (K + 1) * pw (H + 1) := by rw [show 2 * K + 1 + 1 = 2 * (K + 1) by omega, half_lo]
theorem blk_len (H K : Nat) : (K + 1) * pw (H + 1) = K * pw (H + 1) + pw H + pw H := by rw [Nat.add_mul, Nat.one_mul, pw_succ]; omega
theorem til_blk {A : Nat → Prop} {H K : Nat} (ha : All A H K) (hp : ¬ All A (H + 1) (K / 2)) : Til A ((K + 1) * pw H) (K * pw H) [(H, K)] :=
  ⟨Nat.le_refl _, Nat.le_refl _, fun i h1 h2 => by dsimp only at h2; omega, ha, hp, Nat.le_refl _, fun i h1 h2 => by dsimp only at h1; omega⟩
theorem tin_til (lo hi : Nat) : ∀ H K, ¬ All (Rg lo hi) (H + 1) (K / 2) → Til (Rg lo hi) ((K + 1) * pw H) (K * pw H) (tin lo hi H K) := by
  intro H
  induction H with
  | zero =>
    intro K hp
    rw [tin]
    have e0 : pw 0 = 1 := rfl
    split
    · rename_i h
      exact til_blk (fun i h1 h2 => ⟨by omega, by omega⟩) hp
    · rename_i h
      refine ⟨by rw [e0]; omega, fun i h1 h2 hr => h ?_⟩
      rw [e0] at *
      have h1' := hr.1
      have h2' := hr.2
      omega
  | succ H ih =>
    intro K hp
    rw [tin]
    have hb := blk_len H K
    have hpp := pw_pos H
    split
    · rename_i h
      exact til_blk (fun i h1 h2 => ⟨by omega, by omega⟩) hp
    · rename_i h
      split
      · rename_i h'
        exact ⟨by omega, fun i h1 h2 hr => by have h1' := hr.1; have h2' := hr.2; omega⟩
      · rename_i h'
        have hno : ¬ All (Rg lo hi) (H + 1) K := fun hall => h ⟨(hall _ (Nat.le_refl _) (by omega)).1, by
          have := (hall ((K + 1) * pw (H + 1) - 1) (by omega) (by omega)).2; omega⟩
        have t1 := ih (2 * K) (by rw [show 2 * K / 2 = K by omega]; exact hno)
        have t2 := ih (2 * K + 1) (by rw [show (2 * K + 1) / 2 = K by omega]; exact hno)
        rw [half_hi] at t2
        rw [half_lo] at t1
        exact til_app t2 t1
theorem tno_til (A : Nat → Prop) : ∀ H K (S : List Nat), (∀ i, K * pw H ≤ i → i < (K + 1) * pw H → (A i ↔ i ∉ S)) → ¬ All A (H + 1) (K / 2) → Til A ((K + 1) * pw H) (K * pw H) (tno H K S) := by
  intro H
  induction H with
  | zero =>
    intro K S hA hp
    rw [tno]
    have e0 : pw 0 = 1 := rfl
    split
    · rename_i h
      refine til_blk (fun i h1 h2 => (hA i h1 h2).2 (fun hi => ?_)) hp
      have hm : i ∈ S.filter (inb 0 K) := List.mem_filter.2 ⟨hi, inb_iff.2 ⟨h1, h2⟩⟩
      rw [List.length_eq_zero_iff.1 h] at hm
      cases hm
    · rename_i h
      refine ⟨by rw [e0]; omega, fun i h1 h2 hr => h ?_⟩
      cases hm : S.filter (inb 0 K) with
      | nil => rfl
      | cons s M =>
        have hs : s ∈ S.filter (inb 0 K) := by rw [hm]; exact List.mem_cons_self
        obtain ⟨g1, g2⟩ := List.mem_filter.1 hs
        obtain ⟨g3, g4⟩ := inb_iff.1 g2
        rw [e0] at *
        obtain rfl : i = s := by omega
        exact absurd g1 ((hA i h1 h2).1 hr)
  | succ H ih =>
    intro K S hA hp
    rw [tno]
    have hb := blk_len H K
    have hpp := pw_pos H
    split
    · rename_i h
      refine til_blk (fun i h1 h2 => (hA i h1 h2).2 (fun hi => ?_)) hp
      have hm : i ∈ S.filter (inb (H + 1) K) := List.mem_filter.2 ⟨hi, inb_iff.2 ⟨h1, h2⟩⟩
      rw [List.length_eq_zero_iff.1 h] at hm
      cases hm
    · rename_i h
      have hno : ¬ All A (H + 1) K := fun hall => h (by
        cases hm : S.filter (inb (H + 1) K) with
        | nil => rfl
        | cons s M =>
          have hs : s ∈ S.filter (inb (H + 1) K) := by rw [hm]; exact List.mem_cons_self
          obtain ⟨g1, g2⟩ := List.mem_filter.1 hs
          obtain ⟨g3, g4⟩ := inb_iff.1 g2
          exact absurd g1 ((hA s g3 g4).1 (hall s g3 g4)))
      have hM : ∀ i, K * pw (H + 1) ≤ i → i < (K + 1) * pw (H + 1) → (A i ↔ i ∉ S.filter (inb (H + 1) K)) := fun i h1 h2 => by
        rw [hA i h1 h2, List.mem_filter, inb_iff]
        exact ⟨fun h g => h g.1, fun h g => h ⟨g, h1, h2⟩⟩
      have e1 := half_lo H K
      have e2 := half_mid H K
      have e3 := half_hi H K
      have t1 := ih (2 * K) (S.filter (inb (H + 1) K)) (fun i h1 h2 => hM i (by omega) (by omega)) (by rw [show 2 * K / 2 = K by omega]; exact hno)
      have t2 := ih (2 * K + 1) (S.filter (inb (H + 1) K)) (fun i h1 h2 => hM i (by omega) (by omega)) (by rw [show (2 * K + 1) / 2 = K by omega]; exact hno)
      rw [half_hi] at t2
      rw [half_lo] at t1
      exact til_app t2 t1
/-- All mountains, one by one. -/
theorem mt_til {A : Nat → Prop} {n : Nat} (t : Nat → Nat → List (Nat × Nat)) (ht : ∀ h k, (k + 1) * pw h ≤ n → ¬ All A (h + 1) (k / 2) → Til A ((k + 1) * pw h) (k * pw h) (t h k)) (hn : ¬ A n) :
    ∀ h x, (∃ c, x = c * pw h) → n - x < pw h → x ≤ n → Til A n x ((dnL h x n).flatMap (fun b => t b.1 b.2)) := by
  intro h
  induction h with
  | zero =>
    intro x _ h2 h3
    rw [pw_zero] at h2
    exact ⟨h3, fun i h5 h6 => by omega⟩
  | succ h ih =>
    intro x h1 h2 h3
    obtain ⟨c, hc⟩ := h1
    have hp := pw_pos h
    have hps := pw_succ h
    rw [mul_half] at hc
    rw [dnL]
    split
    · rename_i hfit
      have hk : x / pw h = 2 * c := by rw [hc]; exact Nat.mul_div_cancel _ hp
      have e1 : (2 * c + 1) * pw h = x + pw h := by rw [Nat.add_mul, Nat.one_mul, ← hc]
      have e2 : 2 * c / 2 = c := by omega
      have e3 : c * pw (h + 1) = x := by rw [mul_half]; exact hc.symm
      rw [hk, List.flatMap_cons]
      have t1 := ht h (2 * c) (by omega) (by rw [e2]; exact fun hall => hn (hall n (by omega) (by rw [Nat.add_mul, Nat.one_mul, e3]; omega)))
      have t2 := ih (x + pw h) ⟨2 * c + 1, e1.symm⟩ (by omega) (by omega)
      rw [← e1] at t2
      rw [← hc] at t1
      rw [← e1]
      exact til_app t2 t1
    · exact ih x ⟨2 * c, hc⟩ (by omega) h3
theorem mt_all {A : Nat → Prop} {n : Nat} (t : Nat → Nat → List (Nat × Nat)) (ht : ∀ h k, (k + 1) * pw h ≤ n → ¬ All A (h + 1) (k / 2) → Til A ((k + 1) * pw h) (k * pw h) (t h k)) (hn : ¬ A n) (h40 : n ≤ 2 ^ 40) :
    Til A n 0 ((dnL 41 0 n).flatMap (fun b => t b.1 b.2)) :=
  mt_til t ht hn 41 0 ⟨0, by simp⟩ (by have : pw 41 = 2 ^ 41 := rfl
                                       omega) (Nat.zero_le _)
theorem range_ref (lo hi n : Nat) (h1 : lo ≤ hi) (h2 : hi ≤ n) (h3 : n ≤ 2 ^ 40) : cov lo hi = (dnL 41 0 n).flatMap (fun b => tin lo hi b.1 b.2) := by
  have t1 := cov_til lo hi h1 (by omega)
  have t2 : Til (Rg lo hi) n 0 (cov lo hi) := til_pre (til_suf t1 h2 (fun i i1 i2 hr => by have := hr.2; omega)) (Nat.zero_le _) (fun i i1 i2 hr => by have := hr.1; omega)
  exact til_one t2 (mt_all (tin lo hi) (fun h k _ hp => tin_til lo hi h k hp) (fun hr => by have := hr.2; omega) h3)
theorem par_sub (h k : Nat) : k / 2 * pw (h + 1) ≤ k * pw h ∧ (k + 1) * pw h ≤ (k / 2 + 1) * pw (h + 1) := by
  rw [mul_half, mul_half]
  exact ⟨Nat.mul_le_mul_right _ (by omega), Nat.mul_le_mul_right _ (by omega)⟩
theorem til_sub {A : Nat → Prop} {lo hi : Nat} (hA : ∀ j, lo ≤ j → j < hi → A j) (hl : lo = 0 ∨ ¬ A (lo - 1)) (hh : ¬ A hi) : ∀ {L : List (Nat × Nat)} {p : Nat}, lo ≤ p → Til (Rg lo hi) hi p L → Til A hi p L := by
  intro L
  induction L with
  | nil => intro p h1 h2; exact ⟨h2.1, fun i i1 i2 => absurd ⟨by omega, i2⟩ (h2.2 i i1 i2)⟩
  | cons b L ih =>
    intro p h1 h2
    obtain ⟨a1, a2, a3, a4, a5, a6⟩ := h2
    have hlt := blk_lt b.1 b.2
    refine ⟨a1, a2, fun i i1 i2 => absurd ⟨by omega, by omega⟩ (a3 i i1 i2), fun i i1 i2 => hA i (by omega) (by omega), fun hall => a5 (fun i i1 i2 => ?_), ih (by omega) a6⟩
    obtain ⟨p1, p2⟩ := par_sub b.1 b.2
    refine ⟨?_, ?_⟩
    · by_cases hlo : lo ≤ i
      · exact hlo
      · rcases hl with hl | hl
        · omega
        · exact absurd (hall (lo - 1) (by omega) (by omega)) hl
    · by_cases hhi : i < hi
      · exact hhi
      · exact absurd (hall hi (by omega) (by omega)) hh
theorem chain_mem : ∀ {S : List Nat} {x n : Nat}, Chain x S n → ∀ s ∈ S, x ≤ s ∧ s < n := by
  intro S
  induction S with
  | nil => intro x n _ s hs; cases hs
  | cons i S ih =>
    intro x n h s hs
    have h1 := h.1
    have h2 := chain_le h.2
    rcases List.mem_cons.1 hs with rfl | hs
    · exact ⟨h1, by omega⟩
    · have := ih h.2 s hs; omega
theorem rst_til {A : Nat → Prop} {n : Nat} (hn : n ≤ 2 ^ 40) : ∀ (S : List Nat) (x : Nat), (∀ i, x ≤ i → (A i ↔ i < n ∧ i ∉ S)) → (x = 0 ∨ ¬ A (x - 1)) → Chain x S n → Til A n x (rst x n S) := by
  intro S
  induction S with
  | nil =>
    intro x hA hx hc
    have hc' : x ≤ n := hc
    exact til_sub (fun j j1 j2 => (hA j j1).2 ⟨j2, by simp⟩) hx (fun h => by have := ((hA n hc').1 h).1; omega) (Nat.le_refl _) (cov_til x n hc' hn)
  | cons i S ih =>
    intro x hA hx hc
    obtain ⟨c1, c2⟩ := hc
    have hin := chain_le c2
    have hni : ¬ A i := fun h => ((hA i c1).1 h).2 List.mem_cons_self
    have t1 : Til A i x (cov x i) := til_sub (fun j j1 j2 => (hA j j1).2 ⟨by omega, fun hj => by
      rcases List.mem_cons.1 hj with rfl | hj
      · omega
      · have := chain_mem c2 j hj; omega⟩) hx hni (Nat.le_refl _) (cov_til x i c1 (by omega))
    have t2 : Til A n (i + 1) (rst (i + 1) n S) := ih (i + 1) (fun j j1 => by
      rw [hA j (by omega)]
      refine ⟨fun h => ⟨h.1, fun hj => h.2 (List.mem_cons_of_mem _ hj)⟩, fun h => ⟨h.1, fun hj => ?_⟩⟩
      rcases List.mem_cons.1 hj with rfl | hj
      · omega
      · exact h.2 hj) (.inr (by rw [Nat.add_sub_cancel]; exact hni)) c2
    exact til_app (til_pre t2 (Nat.le_succ i) (fun j j1 j2 => by obtain rfl : j = i := by omega
                                                                 exact hni)) t1
/-- All items below n but a set's. -/
abbrev But (n : Nat) (S : List Nat) : Nat → Prop := fun i => i < n ∧ i ∉ S
theorem rst_but (n : Nat) (S : List Nat) (hn : n ≤ 2 ^ 40) (hc : Chain 0 S n) : Til (But n S) n 0 (rst 0 n S) := rst_til hn S 0 (fun _ _ => Iff.rfl) (.inl rfl) hc
theorem rest_ref (n : Nat) (S : List Nat) (hn : n ≤ 2 ^ 40) (hc : Chain 0 S n) : rst 0 n S = (dnL 41 0 n).flatMap (fun b => tno b.1 b.2 S) :=
  til_one (rst_but n S hn hc) (mt_all (fun h k => tno h k S) (fun h k hk hp => tno_til _ h k S (fun i _ i2 => ⟨fun h => h.2, fun h => ⟨by omega, h⟩⟩) hp) (fun h => by have := h.1; omega) hn)
theorem rst_len (n : Nat) (hn : n ≤ 2 ^ 40) : ∀ (S : List Nat) (x : Nat), Chain x S n → (rst x n S).length ≤ 80 * (S.length + 1) := by
  intro S
  induction S with
  | nil => intro x hc; exact cov_len x n hc hn
  | cons i S ih =>
    intro x hc
    have h1 := cov_len x i hc.1 (by have := chain_le hc.2; omega)
    have h2 := ih (i + 1) hc.2
    simp only [rst, List.length_append, List.length_cons]
    omega
theorem tin_len (lo hi : Nat) : ∀ H K, (tin lo hi H K).length ≤ pw H := by
  intro H
  induction H with
  | zero => intro K; rw [tin]; split <;> simp [pw]
  | succ H ih =>
    intro K
    have := pw_pos H
    rw [tin, pw_succ]
    split
    · simp; omega
    · split
      · simp
      · have h1 := ih (2 * K); have h2 := ih (2 * K + 1); simp; omega
theorem tno_len (H : Nat) : ∀ K S, (tno H K S).length ≤ pw H := by
  induction H with
  | zero => intro K S; rw [tno]; split <;> simp [pw]
  | succ H ih =>
    intro K S
    have := pw_pos H
    rw [tno, pw_succ]
    split
    · simp; omega
    · have h1 := ih (2 * K) (S.filter (inb (H + 1) K)); have h2 := ih (2 * K + 1) (S.filter (inb (H + 1) K)); simp; omega
end Go.Proofs.Ytelglfmppmdmoaa.Cv
