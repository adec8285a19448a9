/-
  Own work: CvSpec3, BSpec, BMem.
-/
import Derived.Test.YtdocjikpcbmcgaaGreatDoorQs10
import Derived.Test.YtdocjikpcbmcgaaGreatDoorQs11
namespace Go.Proofs.YtdocjikpcbmcgaaGreatDoor.Cv
open Pl
theorem part_len (H K : Nat) : ∀ M : List Nat, (∀ i ∈ M, inb (H + 1) K i = true) → (M.filter (inb H (2 * K))).length + (M.filter (inb H (2 * K + 1))).length = M.length := by
  have e1 := half_lo H K
  have e2 := half_mid H K
  have e3 := half_hi H K
  intro M
  induction M with
  | nil => intro _; rfl
  | cons i M ih =>
    intro h
    have h1 := inb_iff.1 (h i List.mem_cons_self)
    have h2 := ih (fun j hj => h j (List.mem_cons_of_mem _ hj))
    by_cases hm : i < (2 * K + 1) * pw H
    · have a1 : inb H (2 * K) i = true := inb_iff.2 ⟨by omega, hm⟩
      have a2 : inb H (2 * K + 1) i = false := by
        cases hb : inb H (2 * K + 1) i with
        | false => rfl
        | true => have := (inb_iff.1 hb).1; omega
      rw [List.filter_cons_of_pos a1, List.filter_cons_of_neg (by rw [a2]; decide), List.length_cons, List.length_cons]; omega
    · have a1 : inb H (2 * K + 1) i = true := inb_iff.2 ⟨by omega, by omega⟩
      have a2 : inb H (2 * K) i = false := by
        cases hb : inb H (2 * K) i with
        | false => rfl
        | true => have := (inb_iff.1 hb).2; omega
      rw [List.filter_cons_of_pos a1, List.filter_cons_of_neg (by rw [a2]; decide), List.length_cons, List.length_cons]; omega
theorem filter_twice (S : List Nat) (H K : Nat) : ∀ i ∈ S.filter (inb H K), inb H K i = true := fun _ hi => (List.mem_filter.1 hi).2
theorem tno_count : ∀ H K (S : List Nat), ((S.filter (inb H K)).length = 0 → (tno H K S).length = 1) ∧ ((S.filter (inb H K)).length ≠ 0 → (tno H K S).length ≤ (S.filter (inb H K)).length * H) := by
  intro H
  induction H with
  | zero =>
    intro K S
    refine ⟨fun h => by rw [tno, if_pos h]; rfl, fun h => by rw [tno, if_neg h]; simp⟩
  | succ H ih =>
    intro K S
    refine ⟨fun h => by rw [tno, if_pos h]; rfl, fun h => ?_⟩
    rw [tno, if_neg h, List.length_append]
    have hp := part_len H K (S.filter (inb (H + 1) K)) (filter_twice S (H + 1) K)
    obtain ⟨l0, l1⟩ := ih (2 * K) (S.filter (inb (H + 1) K))
    obtain ⟨r0, r1⟩ := ih (2 * K + 1) (S.filter (inb (H + 1) K))
    generalize ((S.filter (inb (H + 1) K)).filter (inb H (2 * K))).length = a at *
    generalize ((S.filter (inb (H + 1) K)).filter (inb H (2 * K + 1))).length = b at *
    generalize (tno H (2 * K) (S.filter (inb (H + 1) K))).length = x at *
    generalize (tno H (2 * K + 1) (S.filter (inb (H + 1) K))).length = y at *
    generalize (S.filter (inb (H + 1) K)).length = c at *
    subst hp
    rw [Nat.mul_add, Nat.mul_one, Nat.add_mul]
    by_cases ha : a = 0
    · have := l0 ha
      have hb : b ≠ 0 := by omega
      have := r1 hb
      subst ha
      omega
    · have := l1 ha
      by_cases hb : b = 0
      · have := r0 hb
        subst hb
        omega
      · have := r1 hb
        omega
theorem chain_drop : ∀ {S : List Nat} {a n : Nat} (_ : Chain a S n) (j : Nat), j < S.length → S.getD j 0 < n ∧ a ≤ S.getD j 0 ∧ ∀ t, t < j → S.getD t 0 < S.getD j 0 := by
  intro S
  induction S with
  | nil => intro a n _ j hj; simp at hj
  | cons s r ih =>
    intro a n h j hj
    have hle := chain_le h.2
    cases j with
    | zero => exact ⟨by simp; omega, by simpa using h.1, fun t ht => absurd ht (Nat.not_lt_zero t)⟩
    | succ j =>
      obtain ⟨g1, g2, g3⟩ := ih h.2 j (by simp at hj; omega)
      have h1 := h.1
      refine ⟨by simpa using g1, by simp; simp at g2; omega, fun t ht => ?_⟩
      cases t with
      | zero => simp; simp at g2; omega
      | succ t => have := g3 t (by omega); simpa using this
theorem chain_inc {S : List Nat} {n : Nat} (h : Chain 0 S n) (h0 : S ≠ []) (hn : n ≤ 2 ^ 40) : errS n S = 0 := by
  have hl : 0 < S.length := List.length_pos_iff.2 h0
  have hi : Inc S := ⟨hl, fun i hi => (chain_drop h (i + 1) hi).2.2 i (by omega)⟩
  have hlast := (chain_drop h (S.length - 1) (by omega)).1
  rw [errS, if_neg (by omega), if_neg (by rw [(incB_iff S).2 hi]; decide), if_neg (by omega)]
end Go.Proofs.YtdocjikpcbmcgaaGreatDoor.Cv
namespace Go.Proofs.YtdocjikpcbmcgaaGreatDoor
open Pl (pw pw_succ pw_pos pw_zero)
open Cv (tno inb inb_iff)
def bl (S : List Nat) (x : Nat) : Nat := (S.filter fun i => decide (i < x)).length
theorem bl_le (S : List Nat) (x : Nat) : bl S x ≤ S.length := List.length_filter_le _ _
abbrev Asc (S : List Nat) : Prop := S.Pairwise (· < ·)
theorem bl_split (x : Nat) : ∀ {S : List Nat}, Asc S → S.filter (fun i => decide (i < x)) = S.take (bl S x) ∧ S.filter (fun i => decide (x ≤ i)) = S.drop (bl S x)
  | [], _ => ⟨rfl, rfl⟩
  | a :: S, h => by
    obtain ⟨h1, h2⟩ := List.pairwise_cons.1 h
    obtain ⟨i1, i2⟩ := bl_split x h2
    by_cases ha : a < x
    · have e : bl (a :: S) x = bl S x + 1 := by simp [bl, ha]
      have hn : ¬ x ≤ a := by omega
      rw [e, List.take_succ_cons, List.drop_succ_cons, ← i1, ← i2]
      constructor
      · rw [List.filter_cons_of_pos (by simpa using ha)]
      · rw [List.filter_cons_of_neg (by simpa using hn)]
    · have hn : ∀ i ∈ S, ¬ i < x := fun i hi => by have := h1 i hi; omega
      have e1 : S.filter (fun i => decide (i < x)) = [] := List.filter_eq_nil_iff.2 (by simpa using hn)
      have e : bl (a :: S) x = 0 := by rw [bl, List.filter_cons_of_neg (by simpa using ha), e1]; rfl
      rw [e]
      constructor
      · rw [List.filter_cons_of_neg (by simpa using ha), e1]; rfl
      · refine List.filter_eq_self.2 fun i hi => ?_
        rcases List.mem_cons.1 hi with rfl | hi
        · simpa using ha
        · simpa using hn i hi
theorem mem_low {S : List Nat} {x i : Nat} (h : Asc S) (hi : i ∈ S.take (bl S x)) : i < x := by
  rw [← (bl_split x h).1] at hi
  simpa using (List.mem_filter.1 hi).2
theorem mem_high {S : List Nat} {x i : Nat} (h : Asc S) (hi : i ∈ S.drop (bl S x)) : x ≤ i := by
  rw [← (bl_split x h).2] at hi
  simpa using (List.mem_filter.1 hi).2
theorem asc_take {S : List Nat} (h : Asc S) (t : Nat) : Asc (S.take t) := h.sublist (List.take_sublist _ _)
theorem asc_drop {S : List Nat} (h : Asc S) (t : Nat) : Asc (S.drop t) := h.sublist (List.drop_sublist _ _)
theorem mem_take {S : List Nat} {t i : Nat} (hi : i ∈ S.take t) : i ∈ S := (List.take_sublist _ _).subset hi
theorem mem_drop {S : List Nat} {t i : Nat} (hi : i ∈ S.drop t) : i ∈ S := (List.drop_sublist _ _).subset hi
theorem tno_fil (h k : Nat) (S : List Nat) : tno h k (S.filter (inb h k)) = tno h k S := by
  cases h <;> simp only [tno, List.filter_filter, Bool.and_self]
theorem tno_nil (h k : Nat) : tno h k [] = [(h, k)] := by cases h <;> rfl
abbrev In (h k : Nat) (S : List Nat) : Prop := ∀ i ∈ S, k * pw h ≤ i ∧ i < (k + 1) * pw h
theorem in_cut {h k : Nat} {S : List Nat} (hp : Asc S) (hS : In (h + 1) k S) : S.filter (inb h (2 * k)) = S.take (bl S ((2 * k + 1) * pw h)) ∧ S.filter (inb h (2 * k + 1)) = S.drop (bl S ((2 * k + 1) * pw h)) := by
  obtain ⟨h1, h2⟩ := bl_split ((2 * k + 1) * pw h) hp
  rw [← h1, ← h2]
  have e1 := Cv.half_lo h k
  have e2 := Cv.half_hi h k
  constructor
  · refine List.filter_congr fun i hi => ?_
    have := hS i hi
    rw [Bool.eq_iff_iff, inb_iff, decide_eq_true_iff]; omega
  · refine List.filter_congr fun i hi => ?_
    have := hS i hi
    rw [Bool.eq_iff_iff, inb_iff, decide_eq_true_iff]; omega
theorem in_low {h k : Nat} {S : List Nat} (hp : Asc S) (hS : In (h + 1) k S) : In h (2 * k) (S.take (bl S ((2 * k + 1) * pw h))) := fun i hi => by
  rw [← (in_cut hp hS).1] at hi
  exact inb_iff.1 (List.mem_filter.1 hi).2
theorem in_high {h k : Nat} {S : List Nat} (hp : Asc S) (hS : In (h + 1) k S) : In h (2 * k + 1) (S.drop (bl S ((2 * k + 1) * pw h))) := fun i hi => by
  rw [← (in_cut hp hS).2] at hi
  exact inb_iff.1 (List.mem_filter.1 hi).2
theorem tno_cut {h k : Nat} {S : List Nat} (hp : Asc S) (hS : In (h + 1) k S) (h0 : S ≠ []) : tno (h + 1) k S = tno h (2 * k) (S.take (bl S ((2 * k + 1) * pw h))) ++ tno h (2 * k + 1) (S.drop (bl S ((2 * k + 1) * pw h))) := by
  have e : S.filter (inb (h + 1) k) = S := List.filter_eq_self.2 fun i hi => inb_iff.2 (hS i hi)
  rw [tno, e, if_neg (by simpa [List.length_eq_zero_iff] using h0), ← tno_fil h (2 * k) S, ← tno_fil h (2 * k + 1) S, (in_cut hp hS).1, (in_cut hp hS).2]
theorem tno_full {k : Nat} {S : List Nat} (hS : In 0 k S) (h0 : S ≠ []) : tno 0 k S = [] := by
  have e : S.filter (inb 0 k) = S := List.filter_eq_self.2 fun i hi => inb_iff.2 (hS i hi)
  rw [tno, e, if_neg (by simpa [List.length_eq_zero_iff] using h0)]
theorem in_one {k i : Nat} {S : List Nat} (hS : In 0 k (i :: S)) : i = k := by
  have := hS i (List.mem_cons_self ..)
  rw [pw_zero] at this; omega
def vB (c : Nat) : Nat → Nat → List Nat → List ByteArray → List ByteArray → ByteArray
  | 0, _, S, X, D => if S.length = 0 then D.getD 0 ByteArray.empty else dg c (leafT (X.getD 0 ByteArray.empty))
  | h + 1, k, S, X, D => if S.length = 0 then D.getD 0 ByteArray.empty else dg c (nodeT (vB c h (2 * k) (S.take (bl S ((2 * k + 1) * pw h))) (X.take (bl S ((2 * k + 1) * pw h))) D) (vB c h (2 * k + 1) (S.drop (bl S ((2 * k + 1) * pw h))) (X.drop (bl S ((2 * k + 1) * pw h))) (D.drop (tno h (2 * k) (S.take (bl S ((2 * k + 1) * pw h)))).length)))
theorem vB_nil (c h k : Nat) (X D : List ByteArray) : vB c h k [] X D = D.getD 0 ByteArray.empty := by cases h <;> simp [vB]
theorem vB_leaf (c k : Nat) {S : List Nat} (X D : List ByteArray) (h0 : S ≠ []) : vB c 0 k S X D = dg c (leafT (X.getD 0 ByteArray.empty)) := by
  rw [vB, if_neg (by simpa [List.length_eq_zero_iff] using h0)]
theorem vB_two (c h k : Nat) {S : List Nat} (X D : List ByteArray) (h0 : S ≠ []) {t : Nat} (ht : bl S ((2 * k + 1) * pw h) = t) : vB c (h + 1) k S X D = dg c (nodeT (vB c h (2 * k) (S.take t) (X.take t) D) (vB c h (2 * k + 1) (S.drop t) (X.drop t) (D.drop (tno h (2 * k) (S.take t)).length))) := by
  rw [vB, if_neg (by simpa [List.length_eq_zero_iff] using h0), ht]
theorem vB_size {c : Nat} (hc : c ≤ 32) : ∀ (h k : Nat) (S : List Nat) (X D : List ByteArray), (∀ s ∈ D, s.size = c) → 0 < D.length ∨ S ≠ [] → (vB c h k S X D).size = c := by
  intro h k S X D hD h0
  by_cases hS : S = []
  · subst hS
    rw [vB_nil]
    exact hD _ (getD_mem (by rcases h0 with h0 | h0; exact h0; exact absurd rfl h0))
  · cases h with
    | zero => rw [vB_leaf c k X D hS]; exact dg_size hc _
    | succ h => rw [vB_two c h k X D hS rfl]; exact dg_size hc _
def Tl (c : Nat) (K : List ((Nat × Nat) × ByteArray)) : Nat → Nat → ByteArray → Prop
  | 0, k, v => ((0, k), v) ∈ K
  | h + 1, k, v => ((h + 1, k), v) ∈ K ∨ ((∀ u, ((h + 1, k), u) ∉ K) ∧ ∃ x y, Tl c K h (2 * k) x ∧ Tl c K h (2 * k + 1) y ∧ v = dg c (nodeT x y))
theorem Tl.at {c : Nat} {K : List ((Nat × Nat) × ByteArray)} {h k : Nat} {v : ByteArray} (e : ((h, k), v) ∈ K) : Tl c K h k v := by
  cases h with
  | zero => exact e
  | succ h => exact .inl e
theorem getD_app {α : Type} (d : α) (A B : List α) (j : Nat) : (A ++ B).getD (A.length + j) d = B.getD j d := by
  rw [List.getD_eq_getElem?_getD, List.getElem?_append_right (by omega), Nat.add_sub_cancel_left, List.getD_eq_getElem?_getD]
theorem getD_fst {α : Type} (d : α) (A B : List α) {j : Nat} (h : j < A.length) : (A ++ B).getD j d = A.getD j d := by
  rw [List.getD_eq_getElem?_getD, List.getElem?_append_left h, List.getD_eq_getElem?_getD]
theorem getD_dr {α : Type} (d : α) (A : List α) (t j : Nat) : (A.drop t).getD j d = A.getD (t + j) d := by
  rw [List.getD_eq_getElem?_getD, List.getElem?_drop, List.getD_eq_getElem?_getD]
theorem getD_tk {α : Type} (d : α) (A : List α) {t j : Nat} (h : j < t) : (A.take t).getD j d = A.getD j d := by
  rw [List.getD_eq_getElem?_getD, List.getElem?_take, if_pos h, List.getD_eq_getElem?_getD]
theorem vB_tl (c : Nat) (K : List ((Nat × Nat) × ByteArray)) : ∀ (h k : Nat) (S : List Nat) (X D : List ByteArray), Asc S → In h k S → (∀ e ∈ K, 0 < e.1.1 → ∀ i ∈ S, ¬ (e.1.2 * pw e.1.1 ≤ i ∧ i < (e.1.2 + 1) * pw e.1.1)) → (∀ j, j < S.length → ((0, S.getD j 0), dg c (leafT (X.getD j ByteArray.empty))) ∈ K) → (∀ j, j < (tno h k S).length → ((tno h k S).getD j (0, 0), D.getD j ByteArray.empty) ∈ K) → Tl c K h k (vB c h k S X D) := by
  intro h
  induction h with
  | zero =>
    intro k S X D hp hS hK hX hD
    cases S with
    | nil => rw [vB_nil]; exact Tl.at (hD 0 (by rw [tno_nil]; exact Nat.zero_lt_one))
    | cons i S =>
      obtain rfl := in_one hS
      rw [vB_leaf c i X D (by simp)]
      exact hX 0 (by simp)
  | succ h ih =>
    intro k S X D hp hS hK hX hD
    by_cases h0 : S = []
    · subst h0
      rw [vB_nil]; exact Tl.at (hD 0 (by rw [tno_nil]; exact Nat.zero_lt_one))
    · obtain ⟨t, ht⟩ : ∃ t, bl S ((2 * k + 1) * pw h) = t := ⟨_, rfl⟩
      have htl : t ≤ S.length := by rw [← ht]; exact bl_le _ _
      have l1 := in_low hp hS
      have l2 := in_high hp hS
      have l3 := tno_cut hp hS h0
      rw [ht] at l1 l2 l3
      rw [vB_two c h k X D h0 ht]
      refine .inr ⟨fun u hu => ?_, _, _, ?_, ?_, rfl⟩
      · obtain ⟨i, hi⟩ := List.exists_mem_of_ne_nil S h0
        exact hK _ hu (Nat.succ_pos h) i hi (hS i hi)
      · refine ih (2 * k) _ _ D (asc_take hp _) l1 (fun e he h1 i hi => hK e he h1 i (mem_take hi)) (fun j hj => ?_) (fun j hj => ?_)
        · rw [List.length_take] at hj
          rw [getD_tk _ _ (by omega), getD_tk _ _ (by omega)]
          exact hX j (by omega)
        · have := hD j (by rw [l3, List.length_append]; omega)
          rwa [l3, getD_fst _ _ _ hj] at this
      · refine ih (2 * k + 1) _ _ _ (asc_drop hp _) l2 (fun e he h1 i hi => hK e he h1 i (mem_drop hi)) (fun j hj => ?_) (fun j hj => ?_)
        · rw [List.length_drop] at hj
          rw [getD_dr, getD_dr]
          exact hX (t + j) (by omega)
        · have := hD ((tno h (2 * k) (S.take t)).length + j) (by rw [l3, List.length_append]; omega)
          rwa [l3, getD_app, ← getD_dr] at this
def pB (c : Nat) : List (Nat × Nat) → List Nat → List ByteArray → List ByteArray → List ByteArray
  | [], _, _, _ => []
  | m :: M, S, X, D => vB c m.1 m.2 (S.take (bl S ((m.2 + 1) * pw m.1))) (X.take (bl S ((m.2 + 1) * pw m.1))) D :: pB c M (S.drop (bl S ((m.2 + 1) * pw m.1))) (X.drop (bl S ((m.2 + 1) * pw m.1))) (D.drop (tno m.1 m.2 (S.take (bl S ((m.2 + 1) * pw m.1)))).length)
def fB : List (Nat × Nat) → List Nat → List (Nat × Nat)
  | [], _ => []
  | m :: M, S => tno m.1 m.2 (S.take (bl S ((m.2 + 1) * pw m.1))) ++ fB M (S.drop (bl S ((m.2 + 1) * pw m.1)))
theorem pB_len (c : Nat) : ∀ (M : List (Nat × Nat)) (S : List Nat) (X D : List ByteArray), (pB c M S X D).length = M.length
  | [], _, _, _ => rfl
  | m :: M, S, X, D => by rw [pB, List.length_cons, pB_len, List.length_cons]
theorem row_le {q : Nat} : ∀ {M : List (Nat × Nat)} {p : Nat}, Cv.Row q p M → p ≤ q
  | [], _, h => Nat.le_of_eq h
  | m :: M, p, h => by
    have := row_le h.2.2.2
    have h1 := Cv.blk_lt m.1 m.2
    have h2 := h.1
    omega
theorem row_from {q : Nat} : ∀ {M : List (Nat × Nat)} {p : Nat}, Cv.Row q p M → ∀ b ∈ M, p ≤ b.2 * pw b.1 ∧ (b.2 + 1) * pw b.1 ≤ q
  | [], _, _, b, hb => by cases hb
  | m :: M, p, h, b, hb => by
    rcases List.mem_cons.1 hb with rfl | hb
    · exact ⟨Nat.le_of_eq h.1, row_le h.2.2.2⟩
    · have := row_from h.2.2.2 b hb
      have h1 := Cv.blk_lt m.1 m.2
      have h2 := h.1
      exact ⟨by omega, this.2⟩
abbrev Fr (p q : Nat) (S : List Nat) : Prop := ∀ i ∈ S, p ≤ i ∧ i < q
theorem fr_low {p q h k : Nat} {S : List Nat} (hp : Asc S) (hS : Fr p q S) (hk : p = k * pw h) : In h k (S.take (bl S ((k + 1) * pw h))) := fun i hi => ⟨by have := (hS i (mem_take hi)).1; omega, mem_low hp hi⟩
theorem fr_high {p q x : Nat} {S : List Nat} (hp : Asc S) (hS : Fr p q S) : Fr x q (S.drop (bl S x)) := fun i hi => ⟨mem_high hp hi, (hS i (mem_drop hi)).2⟩
theorem flat_eq {f g : Nat × Nat → List (Nat × Nat)} {M : List (Nat × Nat)} (h : ∀ b ∈ M, f b = g b) : M.flatMap f = M.flatMap g := by
  rw [List.flatMap_def, List.flatMap_def, List.map_congr_left h]
theorem fB_flat {q : Nat} : ∀ {M : List (Nat × Nat)} {p : Nat} {S : List Nat}, Cv.Row q p M → Asc S → Fr p q S → fB M S = M.flatMap fun b => tno b.1 b.2 S
  | [], _, _, _, _, _ => rfl
  | m :: M, p, S, h, hp, hS => by
    rw [fB, List.flatMap_cons, fB_flat h.2.2.2 (asc_drop hp _) (fr_high hp hS)]
    have e1 : S.filter (inb m.1 m.2) = S.take (bl S ((m.2 + 1) * pw m.1)) := by
      rw [← (bl_split _ hp).1]
      refine List.filter_congr fun i hi => ?_
      have := hS i hi
      have h1 := h.1
      rw [Bool.eq_iff_iff, inb_iff, decide_eq_true_iff]; omega
    rw [← e1, tno_fil]
    congr 1
    refine flat_eq fun b hb => ?_
    have hb1 := row_from h.2.2.2 b hb
    rw [← tno_fil b.1 b.2 S, ← tno_fil b.1 b.2 (S.drop _)]
    congr 1
    rw [← (bl_split _ hp).2, List.filter_filter]
    refine List.filter_congr fun i hi => ?_
    rw [Bool.eq_iff_iff, Bool.and_eq_true, inb_iff, decide_eq_true_iff]; omega
theorem pB_tl (c : Nat) (K : List ((Nat × Nat) × ByteArray)) {q : Nat} : ∀ (M : List (Nat × Nat)) (p : Nat) (S : List Nat) (X D : List ByteArray), Cv.Row q p M → Asc S → Fr p q S → (∀ e ∈ K, 0 < e.1.1 → ∀ i ∈ S, ¬ (e.1.2 * pw e.1.1 ≤ i ∧ i < (e.1.2 + 1) * pw e.1.1)) → (∀ j, j < S.length → ((0, S.getD j 0), dg c (leafT (X.getD j ByteArray.empty))) ∈ K) → (∀ j, j < (fB M S).length → ((fB M S).getD j (0, 0), D.getD j ByteArray.empty) ∈ K) → ∀ j, j < M.length → Tl c K (M.getD j (0, 0)).1 (M.getD j (0, 0)).2 ((pB c M S X D).getD j ByteArray.empty)
  | [], _, _, _, _, _, _, _, _, _, _, j, hj => absurd hj (Nat.not_lt_zero j)
  | m :: M, p, S, X, D, h, hp, hS, hK, hX, hD, j, hj => by
    obtain ⟨t, ht⟩ : ∃ t, bl S ((m.2 + 1) * pw m.1) = t := ⟨_, rfl⟩
    have htl : t ≤ S.length := by rw [← ht]; exact bl_le _ _
    have l1 := fr_low hp hS h.1
    have l2 : Fr ((m.2 + 1) * pw m.1) q (S.drop (bl S ((m.2 + 1) * pw m.1))) := fr_high hp hS
    rw [ht] at l1 l2
    rw [fB, ht] at hD
    rw [pB, ht]
    cases j with
    | zero =>
      refine vB_tl c K m.1 m.2 _ _ D (asc_take hp _) l1 (fun e he h1 i hi => hK e he h1 i (mem_take hi)) (fun j hj => ?_) (fun j hj => ?_)
      · rw [List.length_take] at hj
        rw [getD_tk _ _ (by omega), getD_tk _ _ (by omega)]
        exact hX j (by omega)
      · have := hD j (by rw [List.length_append]; omega)
        rwa [getD_fst _ _ _ hj] at this
    | succ j =>
      refine pB_tl c K M _ _ _ _ h.2.2.2 (asc_drop hp _) l2 (fun e he h1 i hi => hK e he h1 i (mem_drop hi)) (fun j hj => ?_) (fun j hj => ?_) j (by rw [List.length_cons] at hj; omega)
      · rw [List.length_drop] at hj
        rw [getD_dr, getD_dr]
        exact hX (t + j) (by omega)
      · have := hD ((tno m.1 m.2 (S.take t)).length + j) (by rw [List.length_append]; omega)
        rwa [getD_app, ← getD_dr] at this
theorem pB_size {c : Nat} (hc : c ≤ 32) : ∀ (M : List (Nat × Nat)) (S : List Nat) (X D : List ByteArray), (∀ s ∈ D, s.size = c) → (fB M S).length ≤ D.length → ∀ s ∈ pB c M S X D, s.size = c
  | [], _, _, _, _, _, s, hs => by cases hs
  | m :: M, S, X, D, hD, hl, s, hs => by
    rw [fB, List.length_append] at hl
    rw [pB] at hs
    rcases List.mem_cons.1 hs with rfl | hs
    · refine vB_size hc _ _ _ _ _ hD ?_
      by_cases h0 : S.take (bl S ((m.2 + 1) * pw m.1)) = []
      · rw [h0, tno_nil] at hl
        exact .inl (by rw [List.length_singleton] at hl; omega)
      · exact .inr h0
    · exact pB_size hc M _ _ _ (fun s hs => hD s ((List.drop_sublist _ _).subset hs)) (by rw [List.length_drop]; omega) s hs
theorem chain_asc : ∀ {S : List Nat} {x n : Nat}, Cv.Chain x S n → Asc S
  | [], _, _, _ => List.Pairwise.nil
  | _ :: _, _, _, h => List.pairwise_cons.2 ⟨fun j hj => (Cv.chain_mem h.2 j hj).1, chain_asc h.2⟩
end Go.Proofs.YtdocjikpcbmcgaaGreatDoor
namespace Go.Proofs.YtdocjikpcbmcgaaGreatDoor
open Go.RowKit
open Cv (RdC zl cU)
attribute [local go_sem ↓] Go.wp_at_zero Go.wp_at_succ
theorem keep_row {w w' : World} {B T s n : Nat} {x : Value} {cs : List Value} (h : w.ownsRow B T s x n cs) (hk : ∀ g, x.ownBlock = some g → B ≤ g → w'.heap[g]? = w.heap[g]?) : w'.ownsRow B T s x n cs := by
  obtain ⟨h1, h2⟩ := h
  refine ⟨h1, ?_⟩
  rcases h2 with h2 | ⟨g, cap, cur, rfl, hg, hh, h3⟩
  · exact .inl h2
  · exact .inr ⟨g, cap, cur, rfl, hg, (hk g rfl hg).trans hh, h3⟩
structure ChT (S : Nat → Prop) (w w' : World) : Prop where
  os : w'.os = w.os
  tape : w'.tape = w.tape
  output : w'.output = w.output
  size : w'.heap.size = w.heap.size
  block : ∀ b, ¬ S b → w'.heap[b]? = w.heap[b]?
theorem ChT.refl (S : Nat → Prop) (w : World) : ChT S w w := ⟨rfl, rfl, rfl, rfl, fun _ _ => rfl⟩
theorem ChT.set {S : Nat → Prop} {w w' : World} (h : ChT S w w') (b i : Nat) (v : Value) (hb : S b) : ChT S w (w'.setCell ⟨b, i, none⟩ v) := by
  have h0 := (Below.refl 0 w').setCell (p := ⟨b, i, none⟩) (Nat.zero_le _) v
  refine ⟨h0.os.trans h.os, h0.tape.trans h.tape, h0.output.trans h.output, by rw [← h.size]; simp, fun c hc => ?_⟩
  rw [← h.block c hc]
  exact Below.heap_setCell _ _ _ _ (by show c ≠ b; rintro rfl; exact hc hb)
theorem ChT.drew {S : Nat → Prop} {w w' : World} (h : ChT S w w') : ChT S w w'.drew := ⟨h.os, h.tape, h.output, h.size, h.block⟩
theorem rdc_slice {w : World} {u : Value} {m : Nat} {news : List Value} (h : RdC w u m news) : ∃ ao cap, u = .slice ao m cap := by
  obtain ⟨ao, cap, e, _⟩ := h
  exact ⟨ao, cap, e⟩
def Six (w : World) (s : Nat) (a b c d e f : Value) : Prop := w.heap[s]? = some (.cells #[a, b, c, d, e, f] 55 (0, 0))
section
variable {w W : World} {s : Nat} {a b c d e f : Value}
theorem Six.cells (h : Six w s a b c d e f) : w.cell? ⟨s, 0, none⟩ = some a ∧ w.cell? ⟨s, 1, none⟩ = some b ∧ w.cell? ⟨s, 2, none⟩ = some c ∧ w.cell? ⟨s, 3, none⟩ = some d ∧ w.cell? ⟨s, 4, none⟩ = some e ∧ w.cell? ⟨s, 5, none⟩ = some f :=
  ⟨by rw [cell_of_row w s 0 _ _ (0, 0) h]; rfl, by rw [cell_of_row w s 1 _ _ (0, 0) h]; rfl, by rw [cell_of_row w s 2 _ _ (0, 0) h]; rfl, by rw [cell_of_row w s 3 _ _ (0, 0) h]; rfl, by rw [cell_of_row w s 4 _ _ (0, 0) h]; rfl, by rw [cell_of_row w s 5 _ _ (0, 0) h]; rfl⟩
theorem Six.fz (h : Six w s a b c d e f) (j : Nat) : w.frozen? ⟨s, j, none⟩ = false := frozen_of_row w s j _ _ h
theorem Six.lt (h : Six w s a b c d e f) : s < w.heap.size := (Array.getElem?_eq_some_iff.1 h).1
theorem Six.same (h : Six w s a b c d e f) (hb : W.heap[s]? = w.heap[s]?) : Six W s a b c d e f := hb.trans h
theorem Six.next (h : Six w s a b c d e f) (hb : Below w.heap.size w W) : Six W s a b c d e f := h.same (hb.block s h.lt)
theorem six_new (w : World) (a b c d e f : Value) : Six (w.alloc (.cells #[a, b, c, d, e, f] 55)) w.heap.size a b c d e f := heap_alloc_new w _
def put6 (w : World) (s : Nat) (a b c d e f : Value) : World := (((((w.setCell ⟨s, 0, none⟩ a).setCell ⟨s, 1, none⟩ b).setCell ⟨s, 2, none⟩ c).setCell ⟨s, 3, none⟩ d).setCell ⟨s, 4, none⟩ e).setCell ⟨s, 5, none⟩ f
theorem Six.put (h : Six w s a b c d e f) (a' b' c' d' e' f' : Value) : Six (put6 w s a' b' c' d' e' f') s a' b' c' d' e' f' := by
  have h0 := heap_setCell_same w s 0 _ _ a' h
  have h1 := heap_setCell_same _ s 1 _ _ b' h0
  have h2 := heap_setCell_same _ s 2 _ _ c' h1
  have h3 := heap_setCell_same _ s 3 _ _ d' h2
  have h4 := heap_setCell_same _ s 4 _ _ e' h3
  exact heap_setCell_same _ s 5 _ _ f' h4
theorem put6_ch (w : World) (s : Nat) (a b c d e f : Value) : ChT (fun x => x = s) w (put6 w s a b c d e f) :=
  ((((((ChT.refl (fun x => x = s) w).set s 0 a rfl).set s 1 b rfl).set s 2 c rfl).set s 3 d rfl).set s 4 e rfl).set s 5 f rfl
end
theorem ChT.below {S : Nat → Prop} {w w' : World} (h : ChT S w w') {B : Nat} (hS : ∀ b, S b → B ≤ b) : Below B w w' :=
  ⟨h.os, h.tape, h.output, Nat.le_of_eq h.size.symm, fun b hb => h.block b fun hs => by have := hS b hs; omega⟩
abbrev noP : Value := .agg #[.int .i64 0, .int .i64 0, .int .u64 0, .int .u64 0, .slice none 0 0, .slice none 0 0]
structure RdU (w : World) (ao : Option Addr) (b off len : Nat) (l : List Nat) : Prop where
  hl : l.length = len
  ptr : 0 < len → ao = some ⟨b, off, none⟩
  rng : w.rangeAt b off (cU l)
theorem RdU.at {w : World} {ao : Option Addr} {b off len : Nat} {l : List Nat} (h : RdU w ao b off len l) {j : Nat} (hj : j < len) : w.cell? ⟨b, off + j, none⟩ = some (.int .u64 (l.getD j 0 : Nat)) :=
  h.rng j _ (by have := h.hl; simp [List.getElem?_eq_getElem (show j < l.length by omega), List.getD_eq_getElem?_getD])
theorem RdU.lt {w : World} {ao : Option Addr} {b off len : Nat} {l : List Nat} (h : RdU w ao b off len l) (h0 : 0 < len) : b < w.heap.size := World.block_lt_of_cell? w _ (h.at h0)
theorem RdU.next {w W : World} {ao : Option Addr} {b off len : Nat} {l : List Nat} (h : RdU w ao b off len l) (hb : Below w.heap.size w W) : RdU W ao b off len l := by
  refine ⟨h.hl, h.ptr, fun j v hv => ?_⟩
  have := h.rng j v hv
  exact (hb.cell (World.block_lt_of_cell? w _ this)).trans this
theorem own_rdu {w : World} {B g n c : Nat} {l l' : List Nat} (o : Cv.Own w B (.slice (some ⟨g, 0, none⟩) n c) (l ++ l')) : RdU w (some ⟨g, 0, none⟩) g 0 l.length l :=
  ⟨rfl, fun _ => rfl, fun t v hv => by
    have := o.cells (g := g) rfl t v (by rw [show cU (l ++ l') = cU l ++ cU l' from List.map_append, List.getElem?_append_left (by have := (List.getElem?_eq_some_iff.1 hv).1; simpa using this)]; exact hv)
    rwa [Addr.add_mid] at this⟩
theorem RdU.same {w W : World} {ao : Option Addr} {b off len : Nat} {l : List Nat} (h : RdU w ao b off len l) (hb : W.heap[b]? = w.heap[b]?) : RdU W ao b off len l :=
  ⟨h.hl, h.ptr, fun j v hv => (World.cell?_of_block hb).trans (h.rng j v hv)⟩
theorem RdS.same {w W : World} {ao : Option Addr} {b off len : Nat} {l : List ByteArray} (h : RdS w ao b off len l) (hb : W.heap[b]? = w.heap[b]?) : RdS W ao b off len l :=
  ⟨h.hl, h.ptr, fun j v hv => (World.cell?_of_block hb).trans (h.rng j v hv), h.sz⟩
theorem rds_drop {w : World} {da : Option Addr} {db dO dc H : Nat} {D : List ByteArray} (h : RdS w da db dO D.length D) (hc : D.length ≤ dc) (hH : H ≤ D.length) (hn : da = none → dc = 0) {ax : Option Addr} (hx : (if dc = H then da else Option.map (fun x => x.add H) da) = ax) : RdS w ax db (dO + H) (D.drop H).length (D.drop H) ∧ (ax = none → dc - H = 0) := by
  refine ⟨⟨rfl, fun h0 => ?_, fun j v hj => ?_, fun s hs => h.sz s (List.mem_of_mem_drop hs)⟩, fun e => ?_⟩
  · rw [List.length_drop] at h0
    rw [if_neg (by omega), h.ptr (by omega)] at hx
    rw [← hx]
    simp [Addr.add_mid]
  · rw [List.map_drop, List.getElem?_drop] at hj
    have := h.rng (H + j) v hj
    rwa [← Nat.add_assoc] at this
  · rw [e] at hx
    split at hx
    · omega
    · have : da = none := by simpa using hx
      have := hn this
      omega
theorem rds_take {w : World} {da : Option Addr} {db dO : Nat} {D : List ByteArray} (h : RdS w da db dO D.length D) {H : Nat} (hH : H ≤ D.length) : RdS w da db dO (D.take H).length (D.take H) := by
  refine ⟨rfl, fun h0 => h.ptr ?_, fun j v hj => ?_, fun s hs => h.sz s (List.mem_of_mem_take hs)⟩
  · rw [List.length_take] at h0; omega
  · refine h.rng j v ?_
    rw [List.map_take, List.getElem?_take] at hj
    split at hj
    · exact hj
    · cases hj
structure Bx (q : Nat) (w w' : World) : Prop where
  os : w'.os = w.os
  tape : w'.tape = w.tape
  output : w'.output = w.output
  size : w.heap.size ≤ w'.heap.size
  block : ∀ b, b < w.heap.size → b ≠ q → w'.heap[b]? = w.heap[b]?
section
variable {q : Nat} {w w1 w2 : World}
theorem Bx.refl (q : Nat) (w : World) : Bx q w w := ⟨rfl, rfl, rfl, Nat.le_refl _, fun _ _ _ => rfl⟩
theorem Bx.next (h : Bx q w w1) (hb : Below w1.heap.size w1 w2) : Bx q w w2 := ⟨hb.os.trans h.os, hb.tape.trans h.tape, hb.output.trans h.output, Nat.le_trans h.size hb.size, fun b h1 h2 => (hb.block b (Nat.lt_of_lt_of_le h1 h.size)).trans (h.block b h1 h2)⟩
theorem Bx.put (h : Bx q w w1) (hc : ChT (fun b => b = q) w1 w2) : Bx q w w2 := ⟨hc.os.trans h.os, hc.tape.trans h.tape, hc.output.trans h.output, by rw [hc.size]; exact h.size, fun b h1 h2 => (hc.block b h2).trans (h.block b h1 h2)⟩
theorem Bx.trans {w0 : World} (h0 : Bx q w0 w) (h : Bx q w w1) : Bx q w0 w1 := ⟨h.os.trans h0.os, h.tape.trans h0.tape, h.output.trans h0.output, Nat.le_trans h0.size h.size, fun b h1 h2 => (h.block b (Nat.lt_of_lt_of_le h1 h0.size) h2).trans (h0.block b h1 h2)⟩
theorem Bx.below (h : Bx q w w1) {B : Nat} (hB : B ≤ q) (hw : B ≤ w.heap.size) : Below B w w1 := ⟨h.os, h.tape, h.output, h.size, fun b hb => h.block b (by omega) (by omega)⟩
end
end Go.Proofs.YtdocjikpcbmcgaaGreatDoor
