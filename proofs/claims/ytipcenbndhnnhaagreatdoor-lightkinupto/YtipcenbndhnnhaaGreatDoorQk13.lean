/-
  Own work: CvSpec2, CvSpec3, BSpec.
-/
import Derived.Test.YtipcenbndhnnhaaGreatDoorQk09
import Derived.Test.YtipcenbndhnnhaaGreatDoorQk12
namespace Go.Proofs.YtipcenbndhnnhaaGreatDoor.Cv
open Pl
def tin (lo hi : Nat) : Nat → Nat → List (Nat × Nat)
  | 0, K => if lo ≤ K * pw 0 ∧ (K + 1) * pw 0 ≤ hi then [(0, K)] else []
  | H + 1, K => if lo ≤ K * pw (H + 1) ∧ (K + 1) * pw (H + 1) ≤ hi then [(H + 1, K)] else if (K + 1) * pw (H + 1) ≤ lo ∨ hi ≤ K * pw (H + 1) then [] else tin lo hi H (2 * K) ++ tin lo hi H (2 * K + 1)
def inb (H K i : Nat) : Bool := decide (K * pw H ≤ i) && decide (i < (K + 1) * pw H)
def tno : Nat → Nat → List Nat → List (Nat × Nat)
  | 0, K, S => if (S.filter (inb 0 K)).length = 0 then [(0, K)] else []
  | H + 1, K, S => if (S.filter (inb (H + 1) K)).length = 0 then [(H + 1, K)] else tno H (2 * K) (S.filter (inb (H + 1) K)) ++ tno H (2 * K + 1) (S.filter (inb (H + 1) K))
theorem inb_iff {H K i : Nat} : inb H K i = true ↔ K * pw H ≤ i ∧ i < (K + 1) * pw H := by simp [inb]
theorem half_lo (H K : Nat) : (2 * K) * pw H = K * pw (H + 1) := (mul_half K H).symm
theorem half_mid (H K : Nat) : (2 * K + 1) * pw H = K * pw (H + 1) + pw H := by rw [Nat.add_mul, Nat.one_mul, half_lo]
theorem half_hi (H K : Nat) : (2 * K + 1 + 1) * pw H = (K + 1) * pw (H + 1) := by rw [show 2 * K + 1 + 1 = 2 * (K + 1) by omega, half_lo]
theorem blk_len (H K : Nat) : (K + 1) * pw (H + 1) = K * pw (H + 1) + pw H + pw H := by rw [Nat.add_mul, Nat.one_mul, pw_succ]; omega
theorem til_blk {A : Nat → Prop} {H K : Nat} (ha : All A H K) (hp : ¬ All A (H + 1) (K / 2)) : Til A ((K + 1) * pw H) (K * pw H) [(H, K)] :=
  ⟨Nat.le_refl _, Nat.le_refl _, fun i h1 h2 => by dsimp only at h2; omega, ha, hp, Nat.le_refl _, fun i h1 h2 => by dsimp only at h1; omega⟩
theorem tin_til (lo hi : Nat) : ∀ H K, ¬ All (Rg lo hi) (H + 1) (K / 2) → Til (Rg lo hi) ((K + 1) * pw H) (K * pw H) (tin lo hi H K) := by
  intro H
  induction H with
  | zero =>
    intro K hp
    rw [tin]
    have e0 : pw 0 = 1 := rfl
    split
    · rename_i h
      exact til_blk (fun i h1 h2 => ⟨by omega, by omega⟩) hp
    · rename_i h
      refine ⟨by rw [e0]; omega, fun i h1 h2 hr => h ?_⟩
      rw [e0] at *
      have h1' := hr.1
      have h2' := hr.2
      omega
  | succ H ih =>
    intro K hp
    rw [tin]
    have hb := blk_len H K
    have hpp := pw_pos H
    split
    · rename_i h
      exact til_blk (fun i h1 h2 => ⟨by omega, by omega⟩) hp
    · rename_i h
      split
      · rename_i h'
        exact ⟨by omega, fun i h1 h2 hr => by have h1' := hr.1; have h2' := hr.2; omega⟩
      · rename_i h'
        have hno : ¬ All (Rg lo hi) (H + 1) K := fun hall => h ⟨(hall _ (Nat.le_refl _) (by omega)).1, by
          have := (hall ((K + 1) * pw (H + 1) - 1) (by omega) (by omega)).2; omega⟩
        have t1 := ih (2 * K) (by rw [show 2 * K / 2 = K by omega]; exact hno)
        have t2 := ih (2 * K + 1) (by rw [show (2 * K + 1) / 2 = K by omega]; exact hno)
        rw [half_hi] at t2
        rw [half_lo] at t1
        exact til_app t2 t1
theorem tno_til (A : Nat → Prop) : ∀ H K (S : List Nat), (∀ i, K * pw H ≤ i → i < (K + 1) * pw H → (A i ↔ i ∉ S)) → ¬ All A (H + 1) (K / 2) → Til A ((K + 1) * pw H) (K * pw H) (tno H K S) := by
  intro H
  induction H with
  | zero =>
    intro K S hA hp
    rw [tno]
    have e0 : pw 0 = 1 := rfl
    split
    · rename_i h
      refine til_blk (fun i h1 h2 => (hA i h1 h2).2 (fun hi => ?_)) hp
      have hm : i ∈ S.filter (inb 0 K) := List.mem_filter.2 ⟨hi, inb_iff.2 ⟨h1, h2⟩⟩
      rw [List.length_eq_zero_iff.1 h] at hm
      cases hm
    · rename_i h
      refine ⟨by rw [e0]; omega, fun i h1 h2 hr => h ?_⟩
      cases hm : S.filter (inb 0 K) with
      | nil => rfl
      | cons s M =>
        have hs : s ∈ S.filter (inb 0 K) := by rw [hm]; exact List.mem_cons_self
        obtain ⟨g1, g2⟩ := List.mem_filter.1 hs
        obtain ⟨g3, g4⟩ := inb_iff.1 g2
        rw [e0] at *
        obtain rfl : i = s := by omega
        exact absurd g1 ((hA i h1 h2).1 hr)
  | succ H ih =>
    intro K S hA hp
    rw [tno]
    have hb := blk_len H K
    have hpp := pw_pos H
    split
    · rename_i h
      refine til_blk (fun i h1 h2 => (hA i h1 h2).2 (fun hi => ?_)) hp
      have hm : i ∈ S.filter (inb (H + 1) K) := List.mem_filter.2 ⟨hi, inb_iff.2 ⟨h1, h2⟩⟩
      rw [List.length_eq_zero_iff.1 h] at hm
      cases hm
    · rename_i h
      have hno : ¬ All A (H + 1) K := fun hall => h (by
        cases hm : S.filter (inb (H + 1) K) with
        | nil => rfl
        | cons s M =>
          have hs : s ∈ S.filter (inb (H + 1) K) := by rw [hm]; exact List.mem_cons_self
          obtain ⟨g1, g2⟩ := List.mem_filter.1 hs
          obtain ⟨g3, g4⟩ := inb_iff.1 g2
          exact absurd g1 ((hA s g3 g4).1 (hall s g3 g4)))
      have hM : ∀ i, K * pw (H + 1) ≤ i → i < (K + 1) * pw (H + 1) → (A i ↔ i ∉ S.filter (inb (H + 1) K)) := fun i h1 h2 => by
        rw [hA i h1 h2, List.mem_filter, inb_iff]
        exact ⟨fun h g => h g.1, fun h g => h ⟨g, h1, h2⟩⟩
      have e1 := half_lo H K
      have e2 := half_mid H K
      have e3 := half_hi H K
      have t1 := ih (2 * K) (S.filter (inb (H + 1) K)) (fun i h1 h2 => hM i (by omega) (by omega)) (by rw [show 2 * K / 2 = K by omega]; exact hno)
      have t2 := ih (2 * K + 1) (S.filter (inb (H + 1) K)) (fun i h1 h2 => hM i (by omega) (by omega)) (by rw [show (2 * K + 1) / 2 = K by omega]; exact hno)
      rw [half_hi] at t2
      rw [half_lo] at t1
      exact til_app t2 t1
theorem mt_til {A : Nat → Prop} {n : Nat} (t : Nat → Nat → List (Nat × Nat)) (ht : ∀ h k, (k + 1) * pw h ≤ n → ¬ All A (h + 1) (k / 2) → Til A ((k + 1) * pw h) (k * pw h) (t h k)) (hn : ¬ A n) :
    ∀ h x, (∃ c, x = c * pw h) → n - x < pw h → x ≤ n → Til A n x ((dnL h x n).flatMap (fun b => t b.1 b.2)) := by
  intro h
  induction h with
  | zero =>
    intro x _ h2 h3
    rw [pw_zero] at h2
    exact ⟨h3, fun i h5 h6 => by omega⟩
  | succ h ih =>
    intro x h1 h2 h3
    obtain ⟨c, hc⟩ := h1
    have hp := pw_pos h
    have hps := pw_succ h
    rw [mul_half] at hc
    rw [dnL]
    split
    · rename_i hfit
      have hk : x / pw h = 2 * c := by rw [hc]; exact Nat.mul_div_cancel _ hp
      have e1 : (2 * c + 1) * pw h = x + pw h := by rw [Nat.add_mul, Nat.one_mul, ← hc]
      have e2 : 2 * c / 2 = c := by omega
      have e3 : c * pw (h + 1) = x := by rw [mul_half]; exact hc.symm
      rw [hk, List.flatMap_cons]
      have t1 := ht h (2 * c) (by omega) (by rw [e2]; exact fun hall => hn (hall n (by omega) (by rw [Nat.add_mul, Nat.one_mul, e3]; omega)))
      have t2 := ih (x + pw h) ⟨2 * c + 1, e1.symm⟩ (by omega) (by omega)
      rw [← e1] at t2
      rw [← hc] at t1
      rw [← e1]
      exact til_app t2 t1
    · exact ih x ⟨2 * c, hc⟩ (by omega) h3
theorem mt_all {A : Nat → Prop} {n : Nat} (t : Nat → Nat → List (Nat × Nat)) (ht : ∀ h k, (k + 1) * pw h ≤ n → ¬ All A (h + 1) (k / 2) → Til A ((k + 1) * pw h) (k * pw h) (t h k)) (hn : ¬ A n) (h40 : n ≤ 2 ^ 40) :
    Til A n 0 ((dnL 41 0 n).flatMap (fun b => t b.1 b.2)) :=
  mt_til t ht hn 41 0 ⟨0, by simp⟩ (by have : pw 41 = 2 ^ 41 := rfl
                                       omega) (Nat.zero_le _)
theorem range_ref (lo hi n : Nat) (h1 : lo ≤ hi) (h2 : hi ≤ n) (h3 : n ≤ 2 ^ 40) : cov lo hi = (dnL 41 0 n).flatMap (fun b => tin lo hi b.1 b.2) := by
  have t1 := cov_til lo hi h1 (by omega)
  have t2 : Til (Rg lo hi) n 0 (cov lo hi) := til_pre (til_suf t1 h2 (fun i i1 i2 hr => by have := hr.2; omega)) (Nat.zero_le _) (fun i i1 i2 hr => by have := hr.1; omega)
  exact til_one t2 (mt_all (tin lo hi) (fun h k _ hp => tin_til lo hi h k hp) (fun hr => by have := hr.2; omega) h3)
theorem par_sub (h k : Nat) : k / 2 * pw (h + 1) ≤ k * pw h ∧ (k + 1) * pw h ≤ (k / 2 + 1) * pw (h + 1) := by
  rw [mul_half, mul_half]
  exact ⟨Nat.mul_le_mul_right _ (by omega), Nat.mul_le_mul_right _ (by omega)⟩
theorem til_sub {A : Nat → Prop} {lo hi : Nat} (hA : ∀ j, lo ≤ j → j < hi → A j) (hl : lo = 0 ∨ ¬ A (lo - 1)) (hh : ¬ A hi) : ∀ {L : List (Nat × Nat)} {p : Nat}, lo ≤ p → Til (Rg lo hi) hi p L → Til A hi p L := by
  intro L
  induction L with
  | nil => intro p h1 h2; exact ⟨h2.1, fun i i1 i2 => absurd ⟨by omega, i2⟩ (h2.2 i i1 i2)⟩
  | cons b L ih =>
    intro p h1 h2
    obtain ⟨a1, a2, a3, a4, a5, a6⟩ := h2
    have hlt := blk_lt b.1 b.2
    refine ⟨a1, a2, fun i i1 i2 => absurd ⟨by omega, by omega⟩ (a3 i i1 i2), fun i i1 i2 => hA i (by omega) (by omega), fun hall => a5 (fun i i1 i2 => ?_), ih (by omega) a6⟩
    obtain ⟨p1, p2⟩ := par_sub b.1 b.2
    refine ⟨?_, ?_⟩
    · by_cases hlo : lo ≤ i
      · exact hlo
      · rcases hl with hl | hl
        · omega
        · exact absurd (hall (lo - 1) (by omega) (by omega)) hl
    · by_cases hhi : i < hi
      · exact hhi
      · exact absurd (hall hi (by omega) (by omega)) hh
theorem chain_mem : ∀ {S : List Nat} {x n : Nat}, Chain x S n → ∀ s ∈ S, x ≤ s ∧ s < n := by
  intro S
  induction S with
  | nil => intro x n _ s hs; cases hs
  | cons i S ih =>
    intro x n h s hs
    have h1 := h.1
    have h2 := chain_le h.2
    rcases List.mem_cons.1 hs with rfl | hs
    · exact ⟨h1, by omega⟩
    · have := ih h.2 s hs; omega
theorem rst_til {A : Nat → Prop} {n : Nat} (hn : n ≤ 2 ^ 40) : ∀ (S : List Nat) (x : Nat), (∀ i, x ≤ i → (A i ↔ i < n ∧ i ∉ S)) → (x = 0 ∨ ¬ A (x - 1)) → Chain x S n → Til A n x (rst x n S) := by
  intro S
  induction S with
  | nil =>
    intro x hA hx hc
    have hc' : x ≤ n := hc
    exact til_sub (fun j j1 j2 => (hA j j1).2 ⟨j2, by simp⟩) hx (fun h => by have := ((hA n hc').1 h).1; omega) (Nat.le_refl _) (cov_til x n hc' hn)
  | cons i S ih =>
    intro x hA hx hc
    obtain ⟨c1, c2⟩ := hc
    have hin := chain_le c2
    have hni : ¬ A i := fun h => ((hA i c1).1 h).2 List.mem_cons_self
    have t1 : Til A i x (cov x i) := til_sub (fun j j1 j2 => (hA j j1).2 ⟨by omega, fun hj => by
      rcases List.mem_cons.1 hj with rfl | hj
      · omega
      · have := chain_mem c2 j hj; omega⟩) hx hni (Nat.le_refl _) (cov_til x i c1 (by omega))
    have t2 : Til A n (i + 1) (rst (i + 1) n S) := ih (i + 1) (fun j j1 => by
      rw [hA j (by omega)]
      refine ⟨fun h => ⟨h.1, fun hj => h.2 (List.mem_cons_of_mem _ hj)⟩, fun h => ⟨h.1, fun hj => ?_⟩⟩
      rcases List.mem_cons.1 hj with rfl | hj
      · omega
      · exact h.2 hj) (.inr (by rw [Nat.add_sub_cancel]; exact hni)) c2
    exact til_app (til_pre t2 (Nat.le_succ i) (fun j j1 j2 => by obtain rfl : j = i := by omega
                                                                 exact hni)) t1
abbrev But (n : Nat) (S : List Nat) : Nat → Prop := fun i => i < n ∧ i ∉ S
theorem rst_but (n : Nat) (S : List Nat) (hn : n ≤ 2 ^ 40) (hc : Chain 0 S n) : Til (But n S) n 0 (rst 0 n S) := rst_til hn S 0 (fun _ _ => Iff.rfl) (.inl rfl) hc
theorem rest_ref (n : Nat) (S : List Nat) (hn : n ≤ 2 ^ 40) (hc : Chain 0 S n) : rst 0 n S = (dnL 41 0 n).flatMap (fun b => tno b.1 b.2 S) :=
  til_one (rst_but n S hn hc) (mt_all (fun h k => tno h k S) (fun h k hk hp => tno_til _ h k S (fun i _ i2 => ⟨fun h => h.2, fun h => ⟨by omega, h⟩⟩) hp) (fun h => by have := h.1; omega) hn)
theorem rst_len (n : Nat) (hn : n ≤ 2 ^ 40) : ∀ (S : List Nat) (x : Nat), Chain x S n → (rst x n S).length ≤ 80 * (S.length + 1) := by
  intro S
  induction S with
  | nil => intro x hc; exact cov_len x n hc hn
  | cons i S ih =>
    intro x hc
    have h1 := cov_len x i hc.1 (by have := chain_le hc.2; omega)
    have h2 := ih (i + 1) hc.2
    simp only [rst, List.length_append, List.length_cons]
    omega
theorem tin_len (lo hi : Nat) : ∀ H K, (tin lo hi H K).length ≤ pw H := by
  intro H
  induction H with
  | zero => intro K; rw [tin]; split <;> simp [pw]
  | succ H ih =>
    intro K
    have := pw_pos H
    rw [tin, pw_succ]
    split
    · simp; omega
    · split
      · simp
      · have h1 := ih (2 * K); have h2 := ih (2 * K + 1); simp; omega
theorem tno_len (H : Nat) : ∀ K S, (tno H K S).length ≤ pw H := by
  induction H with
  | zero => intro K S; rw [tno]; split <;> simp [pw]
  | succ H ih =>
    intro K S
    have := pw_pos H
    rw [tno, pw_succ]
    split
    · simp; omega
    · have h1 := ih (2 * K) (S.filter (inb (H + 1) K)); have h2 := ih (2 * K + 1) (S.filter (inb (H + 1) K)); simp; omega
end Go.Proofs.YtipcenbndhnnhaaGreatDoor.Cv
namespace Go.Proofs.YtipcenbndhnnhaaGreatDoor.Cv
open Pl
theorem part_len (H K : Nat) : ∀ M : List Nat, (∀ i ∈ M, inb (H + 1) K i = true) → (M.filter (inb H (2 * K))).length + (M.filter (inb H (2 * K + 1))).length = M.length := by
  have e1 := half_lo H K
  have e2 := half_mid H K
  have e3 := half_hi H K
  intro M
  induction M with
  | nil => intro _; rfl
  | cons i M ih =>
    intro h
    have h1 := inb_iff.1 (h i List.mem_cons_self)
    have h2 := ih (fun j hj => h j (List.mem_cons_of_mem _ hj))
    by_cases hm : i < (2 * K + 1) * pw H
    · have a1 : inb H (2 * K) i = true := inb_iff.2 ⟨by omega, hm⟩
      have a2 : inb H (2 * K + 1) i = false := by
        cases hb : inb H (2 * K + 1) i with
        | false => rfl
        | true => have := (inb_iff.1 hb).1; omega
      rw [List.filter_cons_of_pos a1, List.filter_cons_of_neg (by rw [a2]; decide), List.length_cons, List.length_cons]; omega
    · have a1 : inb H (2 * K + 1) i = true := inb_iff.2 ⟨by omega, by omega⟩
      have a2 : inb H (2 * K) i = false := by
        cases hb : inb H (2 * K) i with
        | false => rfl
        | true => have := (inb_iff.1 hb).2; omega
      rw [List.filter_cons_of_pos a1, List.filter_cons_of_neg (by rw [a2]; decide), List.length_cons, List.length_cons]; omega
theorem filter_twice (S : List Nat) (H K : Nat) : ∀ i ∈ S.filter (inb H K), inb H K i = true := fun _ hi => (List.mem_filter.1 hi).2
theorem tno_count : ∀ H K (S : List Nat), ((S.filter (inb H K)).length = 0 → (tno H K S).length = 1) ∧ ((S.filter (inb H K)).length ≠ 0 → (tno H K S).length ≤ (S.filter (inb H K)).length * H) := by
  intro H
  induction H with
  | zero =>
    intro K S
    refine ⟨fun h => by rw [tno, if_pos h]; rfl, fun h => by rw [tno, if_neg h]; simp⟩
  | succ H ih =>
    intro K S
    refine ⟨fun h => by rw [tno, if_pos h]; rfl, fun h => ?_⟩
    rw [tno, if_neg h, List.length_append]
    have hp := part_len H K (S.filter (inb (H + 1) K)) (filter_twice S (H + 1) K)
    obtain ⟨l0, l1⟩ := ih (2 * K) (S.filter (inb (H + 1) K))
    obtain ⟨r0, r1⟩ := ih (2 * K + 1) (S.filter (inb (H + 1) K))
    generalize ((S.filter (inb (H + 1) K)).filter (inb H (2 * K))).length = a at *
    generalize ((S.filter (inb (H + 1) K)).filter (inb H (2 * K + 1))).length = b at *
    generalize (tno H (2 * K) (S.filter (inb (H + 1) K))).length = x at *
    generalize (tno H (2 * K + 1) (S.filter (inb (H + 1) K))).length = y at *
    generalize (S.filter (inb (H + 1) K)).length = c at *
    subst hp
    rw [Nat.mul_add, Nat.mul_one, Nat.add_mul]
    by_cases ha : a = 0
    · have := l0 ha
      have hb : b ≠ 0 := by omega
      have := r1 hb
      subst ha
      omega
    · have := l1 ha
      by_cases hb : b = 0
      · have := r0 hb
        subst hb
        omega
      · have := r1 hb
        omega
theorem chain_drop : ∀ {S : List Nat} {a n : Nat} (_ : Chain a S n) (j : Nat), j < S.length → S.getD j 0 < n ∧ a ≤ S.getD j 0 ∧ ∀ t, t < j → S.getD t 0 < S.getD j 0 := by
  intro S
  induction S with
  | nil => intro a n _ j hj; simp at hj
  | cons s r ih =>
    intro a n h j hj
    have hle := chain_le h.2
    cases j with
    | zero => exact ⟨by simp; omega, by simpa using h.1, fun t ht => absurd ht (Nat.not_lt_zero t)⟩
    | succ j =>
      obtain ⟨g1, g2, g3⟩ := ih h.2 j (by simp at hj; omega)
      have h1 := h.1
      refine ⟨by simpa using g1, by simp; simp at g2; omega, fun t ht => ?_⟩
      cases t with
      | zero => simp; simp at g2; omega
      | succ t => have := g3 t (by omega); simpa using this
theorem chain_inc {S : List Nat} {n : Nat} (h : Chain 0 S n) (h0 : S ≠ []) (hn : n ≤ 2 ^ 40) : errS n S = 0 := by
  have hl : 0 < S.length := List.length_pos_iff.2 h0
  have hi : Inc S := ⟨hl, fun i hi => (chain_drop h (i + 1) hi).2.2 i (by omega)⟩
  have hlast := (chain_drop h (S.length - 1) (by omega)).1
  rw [errS, if_neg (by omega), if_neg (by rw [(incB_iff S).2 hi]; decide), if_neg (by omega)]
end Go.Proofs.YtipcenbndhnnhaaGreatDoor.Cv
namespace Go.Proofs.YtipcenbndhnnhaaGreatDoor
open Pl (pw pw_succ pw_pos pw_zero)
open Cv (tno inb inb_iff)
def bl (S : List Nat) (x : Nat) : Nat := (S.filter fun i => decide (i < x)).length
theorem bl_le (S : List Nat) (x : Nat) : bl S x ≤ S.length := List.length_filter_le _ _
abbrev Asc (S : List Nat) : Prop := S.Pairwise (· < ·)
theorem bl_split (x : Nat) : ∀ {S : List Nat}, Asc S → S.filter (fun i => decide (i < x)) = S.take (bl S x) ∧ S.filter (fun i => decide (x ≤ i)) = S.drop (bl S x)
  | [], _ => ⟨rfl, rfl⟩
  | a :: S, h => by
    obtain ⟨h1, h2⟩ := List.pairwise_cons.1 h
    obtain ⟨i1, i2⟩ := bl_split x h2
    by_cases ha : a < x
    · have e : bl (a :: S) x = bl S x + 1 := by simp [bl, ha]
      have hn : ¬ x ≤ a := by omega
      rw [e, List.take_succ_cons, List.drop_succ_cons, ← i1, ← i2]
      constructor
      · rw [List.filter_cons_of_pos (by simpa using ha)]
      · rw [List.filter_cons_of_neg (by simpa using hn)]
    · have hn : ∀ i ∈ S, ¬ i < x := fun i hi => by have := h1 i hi; omega
      have e1 : S.filter (fun i => decide (i < x)) = [] := List.filter_eq_nil_iff.2 (by simpa using hn)
      have e : bl (a :: S) x = 0 := by rw [bl, List.filter_cons_of_neg (by simpa using ha), e1]; rfl
      rw [e]
      constructor
      · rw [List.filter_cons_of_neg (by simpa using ha), e1]; rfl
      · refine List.filter_eq_self.2 fun i hi => ?_
        rcases List.mem_cons.1 hi with rfl | hi
        · simpa using ha
        · simpa using hn i hi
theorem mem_low {S : List Nat} {x i : Nat} (h : Asc S) (hi : i ∈ S.take (bl S x)) : i < x := by
  rw [← (bl_split x h).1] at hi
  simpa using (List.mem_filter.1 hi).2
theorem mem_high {S : List Nat} {x i : Nat} (h : Asc S) (hi : i ∈ S.drop (bl S x)) : x ≤ i := by
  rw [← (bl_split x h).2] at hi
  simpa using (List.mem_filter.1 hi).2
theorem asc_take {S : List Nat} (h : Asc S) (t : Nat) : Asc (S.take t) := h.sublist (List.take_sublist _ _)
theorem asc_drop {S : List Nat} (h : Asc S) (t : Nat) : Asc (S.drop t) := h.sublist (List.drop_sublist _ _)
theorem mem_take {S : List Nat} {t i : Nat} (hi : i ∈ S.take t) : i ∈ S := (List.take_sublist _ _).subset hi
theorem mem_drop {S : List Nat} {t i : Nat} (hi : i ∈ S.drop t) : i ∈ S := (List.drop_sublist _ _).subset hi
theorem tno_fil (h k : Nat) (S : List Nat) : tno h k (S.filter (inb h k)) = tno h k S := by
  cases h <;> simp only [tno, List.filter_filter, Bool.and_self]
theorem tno_nil (h k : Nat) : tno h k [] = [(h, k)] := by cases h <;> rfl
abbrev In (h k : Nat) (S : List Nat) : Prop := ∀ i ∈ S, k * pw h ≤ i ∧ i < (k + 1) * pw h
theorem in_cut {h k : Nat} {S : List Nat} (hp : Asc S) (hS : In (h + 1) k S) : S.filter (inb h (2 * k)) = S.take (bl S ((2 * k + 1) * pw h)) ∧ S.filter (inb h (2 * k + 1)) = S.drop (bl S ((2 * k + 1) * pw h)) := by
  obtain ⟨h1, h2⟩ := bl_split ((2 * k + 1) * pw h) hp
  rw [← h1, ← h2]
  have e1 := Cv.half_lo h k
  have e2 := Cv.half_hi h k
  constructor
  · refine List.filter_congr fun i hi => ?_
    have := hS i hi
    rw [Bool.eq_iff_iff, inb_iff, decide_eq_true_iff]; omega
  · refine List.filter_congr fun i hi => ?_
    have := hS i hi
    rw [Bool.eq_iff_iff, inb_iff, decide_eq_true_iff]; omega
theorem in_low {h k : Nat} {S : List Nat} (hp : Asc S) (hS : In (h + 1) k S) : In h (2 * k) (S.take (bl S ((2 * k + 1) * pw h))) := fun i hi => by
  rw [← (in_cut hp hS).1] at hi
  exact inb_iff.1 (List.mem_filter.1 hi).2
theorem in_high {h k : Nat} {S : List Nat} (hp : Asc S) (hS : In (h + 1) k S) : In h (2 * k + 1) (S.drop (bl S ((2 * k + 1) * pw h))) := fun i hi => by
  rw [← (in_cut hp hS).2] at hi
  exact inb_iff.1 (List.mem_filter.1 hi).2
theorem tno_cut {h k : Nat} {S : List Nat} (hp : Asc S) (hS : In (h + 1) k S) (h0 : S ≠ []) : tno (h + 1) k S = tno h (2 * k) (S.take (bl S ((2 * k + 1) * pw h))) ++ tno h (2 * k + 1) (S.drop (bl S ((2 * k + 1) * pw h))) := by
  have e : S.filter (inb (h + 1) k) = S := List.filter_eq_self.2 fun i hi => inb_iff.2 (hS i hi)
  rw [tno, e, if_neg (by simpa [List.length_eq_zero_iff] using h0), ← tno_fil h (2 * k) S, ← tno_fil h (2 * k + 1) S, (in_cut hp hS).1, (in_cut hp hS).2]
theorem tno_full {k : Nat} {S : List Nat} (hS : In 0 k S) (h0 : S ≠ []) : tno 0 k S = [] := by
  have e : S.filter (inb 0 k) = S := List.filter_eq_self.2 fun i hi => inb_iff.2 (hS i hi)
  rw [tno, e, if_neg (by simpa [List.length_eq_zero_iff] using h0)]
theorem in_one {k i : Nat} {S : List Nat} (hS : In 0 k (i :: S)) : i = k := by
  have := hS i (List.mem_cons_self ..)
  rw [pw_zero] at this; omega
def vB (c : Nat) : Nat → Nat → List Nat → List ByteArray → List ByteArray → ByteArray
  | 0, _, S, X, D => if S.length = 0 then D.getD 0 ByteArray.empty else dg c (leafT (X.getD 0 ByteArray.empty))
  | h + 1, k, S, X, D => if S.length = 0 then D.getD 0 ByteArray.empty else dg c (nodeT (vB c h (2 * k) (S.take (bl S ((2 * k + 1) * pw h))) (X.take (bl S ((2 * k + 1) * pw h))) D) (vB c h (2 * k + 1) (S.drop (bl S ((2 * k + 1) * pw h))) (X.drop (bl S ((2 * k + 1) * pw h))) (D.drop (tno h (2 * k) (S.take (bl S ((2 * k + 1) * pw h)))).length)))
theorem vB_nil (c h k : Nat) (X D : List ByteArray) : vB c h k [] X D = D.getD 0 ByteArray.empty := by cases h <;> simp [vB]
theorem vB_leaf (c k : Nat) {S : List Nat} (X D : List ByteArray) (h0 : S ≠ []) : vB c 0 k S X D = dg c (leafT (X.getD 0 ByteArray.empty)) := by
  rw [vB, if_neg (by simpa [List.length_eq_zero_iff] using h0)]
theorem vB_two (c h k : Nat) {S : List Nat} (X D : List ByteArray) (h0 : S ≠ []) {t : Nat} (ht : bl S ((2 * k + 1) * pw h) = t) : vB c (h + 1) k S X D = dg c (nodeT (vB c h (2 * k) (S.take t) (X.take t) D) (vB c h (2 * k + 1) (S.drop t) (X.drop t) (D.drop (tno h (2 * k) (S.take t)).length))) := by
  rw [vB, if_neg (by simpa [List.length_eq_zero_iff] using h0), ht]
theorem vB_size {c : Nat} (hc : c ≤ 32) : ∀ (h k : Nat) (S : List Nat) (X D : List ByteArray), (∀ s ∈ D, s.size = c) → 0 < D.length ∨ S ≠ [] → (vB c h k S X D).size = c := by
  intro h k S X D hD h0
  by_cases hS : S = []
  · subst hS
    rw [vB_nil]
    exact hD _ (getD_mem (by rcases h0 with h0 | h0; exact h0; exact absurd rfl h0))
  · cases h with
    | zero => rw [vB_leaf c k X D hS]; exact dg_size hc _
    | succ h => rw [vB_two c h k X D hS rfl]; exact dg_size hc _
theorem vB_nd (c : Nat) (L : List ByteArray) : ∀ (h k : Nat) (S : List Nat) (X D D' : List ByteArray), Asc S → In h k S → X = S.map (fun i => L.getD i ByteArray.empty) → D = (tno h k S).map (fun b => nd c L b.1 b.2) ++ D' → vB c h k S X D = nd c L h k := by
  intro h
  induction h with
  | zero =>
    intro k S X D D' hp hS hX hD
    cases S with
    | nil => rw [vB_nil, hD, tno_nil]; rfl
    | cons i S =>
      obtain rfl := in_one hS
      rw [vB_leaf c i X D (by simp), hX]; rfl
  | succ h ih =>
    intro k S X D D' hp hS hX hD
    by_cases h0 : S = []
    · subst h0
      rw [vB_nil, hD, tno_nil]; rfl
    · rw [vB_two c h k X D h0 rfl]
      rw [tno_cut hp hS h0, List.map_append, List.append_assoc] at hD
      rw [ih (2 * k) _ _ D _ (asc_take hp _) (in_low hp hS) (by rw [hX, List.map_take]) hD, ih (2 * k + 1) _ _ _ D' (asc_drop hp _) (in_high hp hS) (by rw [hX, List.map_drop]) (by rw [hD]; exact List.drop_left' (by rw [List.length_map])), nd]
theorem getD_dr {α : Type} (d : α) (A : List α) (t j : Nat) : (A.drop t).getD j d = A.getD (t + j) d := by
  rw [List.getD_eq_getElem?_getD, List.getElem?_drop, List.getD_eq_getElem?_getD]
theorem getD_tk {α : Type} (d : α) (A : List α) {t j : Nat} (h : j < t) : (A.take t).getD j d = A.getD j d := by
  rw [List.getD_eq_getElem?_getD, List.getElem?_take, if_pos h, List.getD_eq_getElem?_getD]
def pB (c : Nat) : List (Nat × Nat) → List Nat → List ByteArray → List ByteArray → List ByteArray
  | [], _, _, _ => []
  | m :: M, S, X, D => vB c m.1 m.2 (S.take (bl S ((m.2 + 1) * pw m.1))) (X.take (bl S ((m.2 + 1) * pw m.1))) D :: pB c M (S.drop (bl S ((m.2 + 1) * pw m.1))) (X.drop (bl S ((m.2 + 1) * pw m.1))) (D.drop (tno m.1 m.2 (S.take (bl S ((m.2 + 1) * pw m.1)))).length)
def fB : List (Nat × Nat) → List Nat → List (Nat × Nat)
  | [], _ => []
  | m :: M, S => tno m.1 m.2 (S.take (bl S ((m.2 + 1) * pw m.1))) ++ fB M (S.drop (bl S ((m.2 + 1) * pw m.1)))
theorem pB_len (c : Nat) : ∀ (M : List (Nat × Nat)) (S : List Nat) (X D : List ByteArray), (pB c M S X D).length = M.length
  | [], _, _, _ => rfl
  | m :: M, S, X, D => by rw [pB, List.length_cons, pB_len, List.length_cons]
theorem row_le {q : Nat} : ∀ {M : List (Nat × Nat)} {p : Nat}, Cv.Row q p M → p ≤ q
  | [], _, h => Nat.le_of_eq h
  | m :: M, p, h => by
    have := row_le h.2.2.2
    have h1 := Cv.blk_lt m.1 m.2
    have h2 := h.1
    omega
theorem row_from {q : Nat} : ∀ {M : List (Nat × Nat)} {p : Nat}, Cv.Row q p M → ∀ b ∈ M, p ≤ b.2 * pw b.1 ∧ (b.2 + 1) * pw b.1 ≤ q
  | [], _, _, b, hb => by cases hb
  | m :: M, p, h, b, hb => by
    rcases List.mem_cons.1 hb with rfl | hb
    · exact ⟨Nat.le_of_eq h.1, row_le h.2.2.2⟩
    · have := row_from h.2.2.2 b hb
      have h1 := Cv.blk_lt m.1 m.2
      have h2 := h.1
      exact ⟨by omega, this.2⟩
abbrev Fr (p q : Nat) (S : List Nat) : Prop := ∀ i ∈ S, p ≤ i ∧ i < q
theorem fr_low {p q h k : Nat} {S : List Nat} (hp : Asc S) (hS : Fr p q S) (hk : p = k * pw h) : In h k (S.take (bl S ((k + 1) * pw h))) := fun i hi => ⟨by have := (hS i (mem_take hi)).1; omega, mem_low hp hi⟩
theorem fr_high {p q x : Nat} {S : List Nat} (hp : Asc S) (hS : Fr p q S) : Fr x q (S.drop (bl S x)) := fun i hi => ⟨mem_high hp hi, (hS i (mem_drop hi)).2⟩
theorem flat_eq {f g : Nat × Nat → List (Nat × Nat)} {M : List (Nat × Nat)} (h : ∀ b ∈ M, f b = g b) : M.flatMap f = M.flatMap g := by
  rw [List.flatMap_def, List.flatMap_def, List.map_congr_left h]
theorem fB_flat {q : Nat} : ∀ {M : List (Nat × Nat)} {p : Nat} {S : List Nat}, Cv.Row q p M → Asc S → Fr p q S → fB M S = M.flatMap fun b => tno b.1 b.2 S
  | [], _, _, _, _, _ => rfl
  | m :: M, p, S, h, hp, hS => by
    rw [fB, List.flatMap_cons, fB_flat h.2.2.2 (asc_drop hp _) (fr_high hp hS)]
    have e1 : S.filter (inb m.1 m.2) = S.take (bl S ((m.2 + 1) * pw m.1)) := by
      rw [← (bl_split _ hp).1]
      refine List.filter_congr fun i hi => ?_
      have := hS i hi
      have h1 := h.1
      rw [Bool.eq_iff_iff, inb_iff, decide_eq_true_iff]; omega
    rw [← e1, tno_fil]
    congr 1
    refine flat_eq fun b hb => ?_
    have hb1 := row_from h.2.2.2 b hb
    rw [← tno_fil b.1 b.2 S, ← tno_fil b.1 b.2 (S.drop _)]
    congr 1
    rw [← (bl_split _ hp).2, List.filter_filter]
    refine List.filter_congr fun i hi => ?_
    rw [Bool.eq_iff_iff, Bool.and_eq_true, inb_iff, decide_eq_true_iff]; omega
theorem pB_nd (c : Nat) (L : List ByteArray) {q : Nat} : ∀ (M : List (Nat × Nat)) (p : Nat) (S : List Nat) (X D D' : List ByteArray), Cv.Row q p M → Asc S → Fr p q S → X = S.map (fun i => L.getD i ByteArray.empty) → D = (fB M S).map (fun b => nd c L b.1 b.2) ++ D' → pB c M S X D = M.map fun b => nd c L b.1 b.2
  | [], _, _, _, _, _, _, _, _, _, _ => rfl
  | m :: M, p, S, X, D, D', h, hp, hS, hX, hD => by
    rw [fB, List.map_append, List.append_assoc] at hD
    rw [pB, List.map_cons, vB_nd c L m.1 m.2 _ _ D _ (asc_take hp _) (fr_low hp hS h.1) (by rw [hX, List.map_take]) hD]
    rw [pB_nd c L M _ _ _ _ D' h.2.2.2 (asc_drop hp _) (fr_high hp hS) (by rw [hX, List.map_drop]) (by rw [hD]; exact List.drop_left' (by rw [List.length_map]))]
theorem pB_size {c : Nat} (hc : c ≤ 32) : ∀ (M : List (Nat × Nat)) (S : List Nat) (X D : List ByteArray), (∀ s ∈ D, s.size = c) → (fB M S).length ≤ D.length → ∀ s ∈ pB c M S X D, s.size = c
  | [], _, _, _, _, _, s, hs => by cases hs
  | m :: M, S, X, D, hD, hl, s, hs => by
    rw [fB, List.length_append] at hl
    rw [pB] at hs
    rcases List.mem_cons.1 hs with rfl | hs
    · refine vB_size hc _ _ _ _ _ hD ?_
      by_cases h0 : S.take (bl S ((m.2 + 1) * pw m.1)) = []
      · rw [h0, tno_nil] at hl
        exact .inl (by rw [List.length_singleton] at hl; omega)
      · exact .inr h0
    · exact pB_size hc M _ _ _ (fun s hs => hD s ((List.drop_sublist _ _).subset hs)) (by rw [List.length_drop]; omega) s hs
theorem chain_asc : ∀ {S : List Nat} {x n : Nat}, Cv.Chain x S n → Asc S
  | [], _, _, _ => List.Pairwise.nil
  | _ :: _, _, _, h => List.pairwise_cons.2 ⟨fun j hj => (Cv.chain_mem h.2 j hj).1, chain_asc h.2⟩
end Go.Proofs.YtipcenbndhnnhaaGreatDoor
