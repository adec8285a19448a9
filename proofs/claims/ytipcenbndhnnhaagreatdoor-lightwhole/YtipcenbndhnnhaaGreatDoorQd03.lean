/-
  Own work: CvSpec2, CvSpec3, WSpec.
-/
import Derived.Laws.IdiomStrings
import Derived.Test.YtipcenbndhnnhaaGreatDoorQd02
namespace Go.Proofs.YtipcenbndhnnhaaGreatDoor.Cv
open Pl
def inb (H K i : Nat) : Bool := decide (K * pw H ≤ i) && decide (i < (K + 1) * pw H)
def tno : Nat → Nat → List Nat → List (Nat × Nat)
  | 0, K, S => if (S.filter (inb 0 K)).length = 0 then [(0, K)] else []
  | H + 1, K, S => if (S.filter (inb (H + 1) K)).length = 0 then [(H + 1, K)] else tno H (2 * K) (S.filter (inb (H + 1) K)) ++ tno H (2 * K + 1) (S.filter (inb (H + 1) K))
theorem inb_iff {H K i : Nat} : inb H K i = true ↔ K * pw H ≤ i ∧ i < (K + 1) * pw H := by simp [inb]
theorem half_lo (H K : Nat) : (2 * K) * pw H = K * pw (H + 1) := (mul_half K H).symm
theorem half_mid (H K : Nat) : (2 * K + 1) * pw H = K * pw (H + 1) + pw H := by rw [Nat.add_mul, Nat.one_mul, half_lo]
theorem half_hi (H K : Nat) : (2 * K + 1 + 1) * pw H = (K + 1) * pw (H + 1) := by rw [show 2 * K + 1 + 1 = 2 * (K + 1) by omega, half_lo]
theorem blk_len (H K : Nat) : (K + 1) * pw (H + 1) = K * pw (H + 1) + pw H + pw H := by rw [Nat.add_mul, Nat.one_mul, pw_succ]; omega
theorem til_blk {A : Nat → Prop} {H K : Nat} (ha : All A H K) (hp : ¬ All A (H + 1) (K / 2)) : Til A ((K + 1) * pw H) (K * pw H) [(H, K)] :=
  ⟨Nat.le_refl _, Nat.le_refl _, fun i h1 h2 => by dsimp only at h2; omega, ha, hp, Nat.le_refl _, fun i h1 h2 => by dsimp only at h1; omega⟩
theorem tno_til (A : Nat → Prop) : ∀ H K (S : List Nat), (∀ i, K * pw H ≤ i → i < (K + 1) * pw H → (A i ↔ i ∉ S)) → ¬ All A (H + 1) (K / 2) → Til A ((K + 1) * pw H) (K * pw H) (tno H K S) := by
  intro H
  induction H with
  | zero =>
    intro K S hA hp
    rw [tno]
    have e0 : pw 0 = 1 := rfl
    split
    · rename_i h
      refine til_blk (fun i h1 h2 => (hA i h1 h2).2 (fun hi => ?_)) hp
      have hm : i ∈ S.filter (inb 0 K) := List.mem_filter.2 ⟨hi, inb_iff.2 ⟨h1, h2⟩⟩
      rw [List.length_eq_zero_iff.1 h] at hm
      cases hm
    · rename_i h
      refine ⟨by rw [e0]; omega, fun i h1 h2 hr => h ?_⟩
      cases hm : S.filter (inb 0 K) with
      | nil => rfl
      | cons s M =>
        have hs : s ∈ S.filter (inb 0 K) := by rw [hm]; exact List.mem_cons_self
        obtain ⟨g1, g2⟩ := List.mem_filter.1 hs
        obtain ⟨g3, g4⟩ := inb_iff.1 g2
        rw [e0] at *
        obtain rfl : i = s := by omega
        exact absurd g1 ((hA i h1 h2).1 hr)
  | succ H ih =>
    intro K S hA hp
    rw [tno]
    have hb := blk_len H K
    have hpp := pw_pos H
    split
    · rename_i h
      refine til_blk (fun i h1 h2 => (hA i h1 h2).2 (fun hi => ?_)) hp
      have hm : i ∈ S.filter (inb (H + 1) K) := List.mem_filter.2 ⟨hi, inb_iff.2 ⟨h1, h2⟩⟩
      rw [List.length_eq_zero_iff.1 h] at hm
      cases hm
    · rename_i h
      have hno : ¬ All A (H + 1) K := fun hall => h (by
        cases hm : S.filter (inb (H + 1) K) with
        | nil => rfl
        | cons s M =>
          have hs : s ∈ S.filter (inb (H + 1) K) := by rw [hm]; exact List.mem_cons_self
          obtain ⟨g1, g2⟩ := List.mem_filter.1 hs
          obtain ⟨g3, g4⟩ := inb_iff.1 g2
          exact absurd g1 ((hA s g3 g4).1 (hall s g3 g4)))
      have hM : ∀ i, K * pw (H + 1) ≤ i → i < (K + 1) * pw (H + 1) → (A i ↔ i ∉ S.filter (inb (H + 1) K)) := fun i h1 h2 => by
        rw [hA i h1 h2, List.mem_filter, inb_iff]
        exact ⟨fun h g => h g.1, fun h g => h ⟨g, h1, h2⟩⟩
      have e1 := half_lo H K
      have e2 := half_mid H K
      have e3 := half_hi H K
      have t1 := ih (2 * K) (S.filter (inb (H + 1) K)) (fun i h1 h2 => hM i (by omega) (by omega)) (by rw [show 2 * K / 2 = K by omega]; exact hno)
      have t2 := ih (2 * K + 1) (S.filter (inb (H + 1) K)) (fun i h1 h2 => hM i (by omega) (by omega)) (by rw [show (2 * K + 1) / 2 = K by omega]; exact hno)
      rw [half_hi] at t2
      rw [half_lo] at t1
      exact til_app t2 t1
theorem mt_til {A : Nat → Prop} {n : Nat} (t : Nat → Nat → List (Nat × Nat)) (ht : ∀ h k, (k + 1) * pw h ≤ n → ¬ All A (h + 1) (k / 2) → Til A ((k + 1) * pw h) (k * pw h) (t h k)) (hn : ¬ A n) :
    ∀ h x, (∃ c, x = c * pw h) → n - x < pw h → x ≤ n → Til A n x ((dnL h x n).flatMap (fun b => t b.1 b.2)) := by
  intro h
  induction h with
  | zero =>
    intro x _ h2 h3
    rw [pw_zero] at h2
    exact ⟨h3, fun i h5 h6 => by omega⟩
  | succ h ih =>
    intro x h1 h2 h3
    obtain ⟨c, hc⟩ := h1
    have hp := pw_pos h
    have hps := pw_succ h
    rw [mul_half] at hc
    rw [dnL]
    split
    · rename_i hfit
      have hk : x / pw h = 2 * c := by rw [hc]; exact Nat.mul_div_cancel _ hp
      have e1 : (2 * c + 1) * pw h = x + pw h := by rw [Nat.add_mul, Nat.one_mul, ← hc]
      have e2 : 2 * c / 2 = c := by omega
      have e3 : c * pw (h + 1) = x := by rw [mul_half]; exact hc.symm
      rw [hk, List.flatMap_cons]
      have t1 := ht h (2 * c) (by omega) (by rw [e2]; exact fun hall => hn (hall n (by omega) (by rw [Nat.add_mul, Nat.one_mul, e3]; omega)))
      have t2 := ih (x + pw h) ⟨2 * c + 1, e1.symm⟩ (by omega) (by omega)
      rw [← e1] at t2
      rw [← hc] at t1
      rw [← e1]
      exact til_app t2 t1
    · exact ih x ⟨2 * c, hc⟩ (by omega) h3
theorem mt_all {A : Nat → Prop} {n : Nat} (t : Nat → Nat → List (Nat × Nat)) (ht : ∀ h k, (k + 1) * pw h ≤ n → ¬ All A (h + 1) (k / 2) → Til A ((k + 1) * pw h) (k * pw h) (t h k)) (hn : ¬ A n) (h40 : n ≤ 2 ^ 40) :
    Til A n 0 ((dnL 41 0 n).flatMap (fun b => t b.1 b.2)) :=
  mt_til t ht hn 41 0 ⟨0, by simp⟩ (by have : pw 41 = 2 ^ 41 := rfl
                                       omega) (Nat.zero_le _)
theorem par_sub (h k : Nat) : k / 2 * pw (h + 1) ≤ k * pw h ∧ (k + 1) * pw h ≤ (k / 2 + 1) * pw (h + 1) := by
  rw [mul_half, mul_half]
  exact ⟨Nat.mul_le_mul_right _ (by omega), Nat.mul_le_mul_right _ (by omega)⟩
theorem til_sub {A : Nat → Prop} {lo hi : Nat} (hA : ∀ j, lo ≤ j → j < hi → A j) (hl : lo = 0 ∨ ¬ A (lo - 1)) (hh : ¬ A hi) : ∀ {L : List (Nat × Nat)} {p : Nat}, lo ≤ p → Til (Rg lo hi) hi p L → Til A hi p L := by
  intro L
  induction L with
  | nil => intro p h1 h2; exact ⟨h2.1, fun i i1 i2 => absurd ⟨by omega, i2⟩ (h2.2 i i1 i2)⟩
  | cons b L ih =>
    intro p h1 h2
    obtain ⟨a1, a2, a3, a4, a5, a6⟩ := h2
    have hlt := blk_lt b.1 b.2
    refine ⟨a1, a2, fun i i1 i2 => absurd ⟨by omega, by omega⟩ (a3 i i1 i2), fun i i1 i2 => hA i (by omega) (by omega), fun hall => a5 (fun i i1 i2 => ?_), ih (by omega) a6⟩
    obtain ⟨p1, p2⟩ := par_sub b.1 b.2
    refine ⟨?_, ?_⟩
    · by_cases hlo : lo ≤ i
      · exact hlo
      · rcases hl with hl | hl
        · omega
        · exact absurd (hall (lo - 1) (by omega) (by omega)) hl
    · by_cases hhi : i < hi
      · exact hhi
      · exact absurd (hall hi (by omega) (by omega)) hh
theorem chain_mem : ∀ {S : List Nat} {x n : Nat}, Chain x S n → ∀ s ∈ S, x ≤ s ∧ s < n := by
  intro S
  induction S with
  | nil => intro x n _ s hs; cases hs
  | cons i S ih =>
    intro x n h s hs
    have h1 := h.1
    have h2 := chain_le h.2
    rcases List.mem_cons.1 hs with rfl | hs
    · exact ⟨h1, by omega⟩
    · have := ih h.2 s hs; omega
theorem rst_til {A : Nat → Prop} {n : Nat} (hn : n ≤ 2 ^ 40) : ∀ (S : List Nat) (x : Nat), (∀ i, x ≤ i → (A i ↔ i < n ∧ i ∉ S)) → (x = 0 ∨ ¬ A (x - 1)) → Chain x S n → Til A n x (rst x n S) := by
  intro S
  induction S with
  | nil =>
    intro x hA hx hc
    have hc' : x ≤ n := hc
    exact til_sub (fun j j1 j2 => (hA j j1).2 ⟨j2, by simp⟩) hx (fun h => by have := ((hA n hc').1 h).1; omega) (Nat.le_refl _) (cov_til x n hc' hn)
  | cons i S ih =>
    intro x hA hx hc
    obtain ⟨c1, c2⟩ := hc
    have hin := chain_le c2
    have hni : ¬ A i := fun h => ((hA i c1).1 h).2 List.mem_cons_self
    have t1 : Til A i x (cov x i) := til_sub (fun j j1 j2 => (hA j j1).2 ⟨by omega, fun hj => by
      rcases List.mem_cons.1 hj with rfl | hj
      · omega
      · have := chain_mem c2 j hj; omega⟩) hx hni (Nat.le_refl _) (cov_til x i c1 (by omega))
    have t2 : Til A n (i + 1) (rst (i + 1) n S) := ih (i + 1) (fun j j1 => by
      rw [hA j (by omega)]
      refine ⟨fun h => ⟨h.1, fun hj => h.2 (List.mem_cons_of_mem _ hj)⟩, fun h => ⟨h.1, fun hj => ?_⟩⟩
      rcases List.mem_cons.1 hj with rfl | hj
      · omega
      · exact h.2 hj) (.inr (by rw [Nat.add_sub_cancel]; exact hni)) c2
    exact til_app (til_pre t2 (Nat.le_succ i) (fun j j1 j2 => by obtain rfl : j = i := by omega
                                                                 exact hni)) t1
abbrev But (n : Nat) (S : List Nat) : Nat → Prop := fun i => i < n ∧ i ∉ S
theorem rst_but (n : Nat) (S : List Nat) (hn : n ≤ 2 ^ 40) (hc : Chain 0 S n) : Til (But n S) n 0 (rst 0 n S) := rst_til hn S 0 (fun _ _ => Iff.rfl) (.inl rfl) hc
theorem rest_ref (n : Nat) (S : List Nat) (hn : n ≤ 2 ^ 40) (hc : Chain 0 S n) : rst 0 n S = (dnL 41 0 n).flatMap (fun b => tno b.1 b.2 S) :=
  til_one (rst_but n S hn hc) (mt_all (fun h k => tno h k S) (fun h k hk hp => tno_til _ h k S (fun i _ i2 => ⟨fun h => h.2, fun h => ⟨by omega, h⟩⟩) hp) (fun h => by have := h.1; omega) hn)
theorem rst_len (n : Nat) (hn : n ≤ 2 ^ 40) : ∀ (S : List Nat) (x : Nat), Chain x S n → (rst x n S).length ≤ 80 * (S.length + 1) := by
  intro S
  induction S with
  | nil => intro x hc; exact cov_len x n hc hn
  | cons i S ih =>
    intro x hc
    have h1 := cov_len x i hc.1 (by have := chain_le hc.2; omega)
    have h2 := ih (i + 1) hc.2
    simp only [rst, List.length_append, List.length_cons]
    omega
end Go.Proofs.YtipcenbndhnnhaaGreatDoor.Cv
namespace Go.Proofs.YtipcenbndhnnhaaGreatDoor.Cv
open Pl
theorem part_len (H K : Nat) : ∀ M : List Nat, (∀ i ∈ M, inb (H + 1) K i = true) → (M.filter (inb H (2 * K))).length + (M.filter (inb H (2 * K + 1))).length = M.length := by
  have e1 := half_lo H K
  have e2 := half_mid H K
  have e3 := half_hi H K
  intro M
  induction M with
  | nil => intro _; rfl
  | cons i M ih =>
    intro h
    have h1 := inb_iff.1 (h i List.mem_cons_self)
    have h2 := ih (fun j hj => h j (List.mem_cons_of_mem _ hj))
    by_cases hm : i < (2 * K + 1) * pw H
    · have a1 : inb H (2 * K) i = true := inb_iff.2 ⟨by omega, hm⟩
      have a2 : inb H (2 * K + 1) i = false := by
        cases hb : inb H (2 * K + 1) i with
        | false => rfl
        | true => have := (inb_iff.1 hb).1; omega
      rw [List.filter_cons_of_pos a1, List.filter_cons_of_neg (by rw [a2]; decide), List.length_cons, List.length_cons]; omega
    · have a1 : inb H (2 * K + 1) i = true := inb_iff.2 ⟨by omega, by omega⟩
      have a2 : inb H (2 * K) i = false := by
        cases hb : inb H (2 * K) i with
        | false => rfl
        | true => have := (inb_iff.1 hb).2; omega
      rw [List.filter_cons_of_pos a1, List.filter_cons_of_neg (by rw [a2]; decide), List.length_cons, List.length_cons]; omega
theorem filter_twice (S : List Nat) (H K : Nat) : ∀ i ∈ S.filter (inb H K), inb H K i = true := fun _ hi => (List.mem_filter.1 hi).2
theorem tno_count : ∀ H K (S : List Nat), ((S.filter (inb H K)).length = 0 → (tno H K S).length = 1) ∧ ((S.filter (inb H K)).length ≠ 0 → (tno H K S).length ≤ (S.filter (inb H K)).length * H) := by
  intro H
  induction H with
  | zero =>
    intro K S
    refine ⟨fun h => by rw [tno, if_pos h]; rfl, fun h => by rw [tno, if_neg h]; simp⟩
  | succ H ih =>
    intro K S
    refine ⟨fun h => by rw [tno, if_pos h]; rfl, fun h => ?_⟩
    rw [tno, if_neg h, List.length_append]
    have hp := part_len H K (S.filter (inb (H + 1) K)) (filter_twice S (H + 1) K)
    obtain ⟨l0, l1⟩ := ih (2 * K) (S.filter (inb (H + 1) K))
    obtain ⟨r0, r1⟩ := ih (2 * K + 1) (S.filter (inb (H + 1) K))
    generalize ((S.filter (inb (H + 1) K)).filter (inb H (2 * K))).length = a at *
    generalize ((S.filter (inb (H + 1) K)).filter (inb H (2 * K + 1))).length = b at *
    generalize (tno H (2 * K) (S.filter (inb (H + 1) K))).length = x at *
    generalize (tno H (2 * K + 1) (S.filter (inb (H + 1) K))).length = y at *
    generalize (S.filter (inb (H + 1) K)).length = c at *
    subst hp
    rw [Nat.mul_add, Nat.mul_one, Nat.add_mul]
    by_cases ha : a = 0
    · have := l0 ha
      have hb : b ≠ 0 := by omega
      have := r1 hb
      subst ha
      omega
    · have := l1 ha
      by_cases hb : b = 0
      · have := r0 hb
        subst hb
        omega
      · have := r1 hb
        omega
theorem chain_drop : ∀ {S : List Nat} {a n : Nat} (_ : Chain a S n) (j : Nat), j < S.length → S.getD j 0 < n ∧ a ≤ S.getD j 0 ∧ ∀ t, t < j → S.getD t 0 < S.getD j 0 := by
  intro S
  induction S with
  | nil => intro a n _ j hj; simp at hj
  | cons s r ih =>
    intro a n h j hj
    have hle := chain_le h.2
    cases j with
    | zero => exact ⟨by simp; omega, by simpa using h.1, fun t ht => absurd ht (Nat.not_lt_zero t)⟩
    | succ j =>
      obtain ⟨g1, g2, g3⟩ := ih h.2 j (by simp at hj; omega)
      have h1 := h.1
      refine ⟨by simpa using g1, by simp; simp at g2; omega, fun t ht => ?_⟩
      cases t with
      | zero => simp; simp at g2; omega
      | succ t => have := g3 t (by omega); simpa using this
theorem chain_inc {S : List Nat} {n : Nat} (h : Chain 0 S n) (h0 : S ≠ []) (hn : n ≤ 2 ^ 40) : errS n S = 0 := by
  have hl : 0 < S.length := List.length_pos_iff.2 h0
  have hi : Inc S := ⟨hl, fun i hi => (chain_drop h (i + 1) hi).2.2 i (by omega)⟩
  have hlast := (chain_drop h (S.length - 1) (by omega)).1
  rw [errS, if_neg (by omega), if_neg (by rw [(incB_iff S).2 hi]; decide), if_neg (by omega)]
end Go.Proofs.YtipcenbndhnnhaaGreatDoor.Cv
namespace Go.Proofs.YtipcenbndhnnhaaGreatDoor
def num (n : Nat) : List UInt8 := if n < 128 then [UInt8.ofNat n] else UInt8.ofNat (n % 128 + 128) :: num (n / 128)
termination_by n
decreasing_by omega
theorem num_low {n : Nat} (h : n < 128) : num n = [UInt8.ofNat n] := by rw [num, if_pos h]
theorem num_high {n : Nat} (h : 128 ≤ n) : num n = UInt8.ofNat (n % 128 + 128) :: num (n / 128) := by rw [num, if_neg (by omega)]
theorem num_pos (n : Nat) : 0 < (num n).length := by
  by_cases h : n < 128
  · rw [num_low h]; simp
  · rw [num_high (by omega)]; simp
def scan : List UInt8 → Nat → Nat → Nat × Nat × Nat
  | [], _, _ => (0, 60, 0)
  | b :: r, i, n =>
    if i = 9 ∧ 1 < b.toNat then (0, 61, 0)
    else if b.toNat < 128 then (if b.toNat = 0 ∧ 0 < i then (0, 61, 0) else (n + b.toNat * 128 ^ i, 0, i + 1))
    else scan r (i + 1) (n + (b.toNat % 128) * 128 ^ i)
theorem ofNat_toNat {x : Nat} (h : x < 256) : (UInt8.ofNat x).toNat = x := by
  rw [UInt8.toNat_ofNat']; exact Nat.mod_eq_of_lt h
theorem pow_le9 {i : Nat} (h : i ≤ 9) : 128 ^ i ≤ 128 ^ 9 := Nat.pow_le_pow_right (by decide) h
theorem scan_num (t : List UInt8) : ∀ (m i acc : Nat), acc < 128 ^ i → acc + m * 128 ^ i < 2 ^ 64 → i ≤ 9 → (i = 0 ∨ 0 < m) →
    scan (num m ++ t) i acc = (acc + m * 128 ^ i, 0, i + (num m).length) := by
  intro m
  induction m using Nat.strongRecOn with
  | _ m ih =>
    intro i acc ha hn hi h0
    by_cases h : m < 128
    · rw [num_low h, List.singleton_append, scan, ofNat_toNat (by omega)]
      have h1 : ¬(i = 9 ∧ 1 < m) := by
        rintro ⟨rfl, h1⟩
        have : 2 * 128 ^ 9 ≤ m * 128 ^ 9 := Nat.mul_le_mul_right _ h1
        have e : 2 * 128 ^ 9 = 2 ^ 64 := by decide
        omega
      rw [if_neg h1, if_pos h, if_neg (by omega)]
      rfl
    · rw [num_high (by omega), List.cons_append, scan, ofNat_toNat (by omega)]
      have h1 : i ≠ 9 := by
        rintro rfl
        have : 128 * 128 ^ 9 ≤ m * 128 ^ 9 := Nat.mul_le_mul_right _ (by omega)
        have e : 2 ^ 64 ≤ 128 * 128 ^ 9 := by decide
        omega
      rw [if_neg (by omega), if_neg (by omega)]
      have hs : acc + (m % 128 + 128) % 128 * 128 ^ i + m / 128 * 128 ^ (i + 1) = acc + m * 128 ^ i := by
        rw [Nat.add_mod_right, Nat.mod_mod, Nat.pow_succ, Nat.mul_comm (128 ^ i), ← Nat.mul_assoc, Nat.add_assoc, ← Nat.add_mul, Nat.mod_add_div']
      have hlt : acc + (m % 128 + 128) % 128 * 128 ^ i < 128 ^ (i + 1) := by
        rw [Nat.add_mod_right, Nat.mod_mod, Nat.pow_succ]
        have : m % 128 * 128 ^ i ≤ 127 * 128 ^ i := Nat.mul_le_mul_right _ (by omega)
        omega
      rw [ih (m / 128) (by omega) (i + 1) _ hlt (by rw [hs]; exact hn) (by omega) (.inr (by omega)), hs, List.length_cons]
      exact congrArg (fun x => (acc + m * 128 ^ i, 0, x)) (by omega)
theorem scan_back : ∀ (l : List UInt8) (i acc n k : Nat), acc < 128 ^ i → i ≤ 9 → scan l i acc = (n, 0, k) →
    ∃ m, n = acc + m * 128 ^ i ∧ num m = l.take (k - i) ∧ i < k ∧ k ≤ 10 ∧ k - i ≤ l.length ∧ (0 < i → 0 < m) ∧ n < 2 ^ 64 := by
  intro l
  induction l with
  | nil => intro i acc n k _ _ h; simp [scan] at h
  | cons b r ih =>
    intro i acc n k ha hi h
    rw [scan] at h
    by_cases h1 : i = 9 ∧ 1 < b.toNat
    · rw [if_pos h1] at h; simp at h
    · rw [if_neg h1] at h
      by_cases h2 : b.toNat < 128
      · rw [if_pos h2] at h
        by_cases h3 : b.toNat = 0 ∧ 0 < i
        · rw [if_pos h3] at h; simp at h
        · rw [if_neg h3] at h
          simp only [Prod.mk.injEq, true_and] at h
          obtain ⟨rfl, rfl⟩ := h
          refine ⟨b.toNat, rfl, ?_, by omega, by omega, by simp, by omega, ?_⟩
          · rw [num_low h2, Nat.add_sub_cancel_left]
            simp
          · have e9 : (128 : Nat) ^ 9 = 9223372036854775808 := by decide
            rcases Nat.lt_or_ge i 9 with h9 | h9
            · have hp : 128 ^ (i + 1) ≤ 128 ^ 9 := pow_le9 (by omega)
              have : b.toNat * 128 ^ i ≤ 127 * 128 ^ i := Nat.mul_le_mul_right _ (by omega)
              rw [Nat.pow_succ] at hp
              omega
            · obtain rfl : i = 9 := by omega
              have : b.toNat * 128 ^ 9 ≤ 1 * 128 ^ 9 := Nat.mul_le_mul_right _ (by omega)
              omega
      · rw [if_neg h2] at h
        have h9 : i ≠ 9 := by omega
        have hlt : acc + b.toNat % 128 * 128 ^ i < 128 ^ (i + 1) := by
          rw [Nat.pow_succ]
          have : b.toNat % 128 * 128 ^ i ≤ 127 * 128 ^ i := Nat.mul_le_mul_right _ (by omega)
          omega
        obtain ⟨m, rfl, h4, h5, h6, h7, h8, h10⟩ := ih (i + 1) _ n k hlt (by omega) h
        have hm := h8 (by omega)
        have hb := b.toNat_lt
        refine ⟨b.toNat % 128 + 128 * m, ?_, ?_, by omega, h6, by simp; omega, by omega, h10⟩
        · rw [Nat.add_mul, Nat.pow_succ, Nat.mul_comm (128 ^ i), ← Nat.mul_assoc, Nat.mul_comm m, Nat.add_assoc]
        · rw [num_high (by omega), show (b.toNat % 128 + 128 * m) / 128 = m by omega, h4, show (b.toNat % 128 + 128 * m) % 128 + 128 = b.toNat by omega,
            show k - i = (k - (i + 1)) + 1 by omega, List.take_succ_cons]
          simp
theorem num_len {n : Nat} (h : n < 2 ^ 64) : (num n).length ≤ 10 := by
  have := scan_num [] n 0 0 (by decide) (by simpa using h) (by omega) (.inl rfl)
  obtain ⟨m, h1, h2, h3, h4, h5, _⟩ := scan_back _ 0 0 _ _ (by decide) (by omega) this
  omega
end Go.Proofs.YtipcenbndhnnhaaGreatDoor
