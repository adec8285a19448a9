/-
  Batches: what comes out of a block and of mountains; what the document finds. Own work.
-/
import Derived.Test.YtnbejijpmeklaaaDoorFSpec
import Derived.Test.YtnbejijpmeklaaaDoorCvSpec3
namespace Go.Proofs.YtnbejijpmeklaaaDoor
open Pl (pw pw_succ pw_pos pw_zero)
open Cv (tno inb inb_iff)
/-- How many of a row are below a number. -/
def bl (S : List Nat) (x : Nat) : Nat := (S.filter fun i => decide (i < x)).length
theorem bl_le (S : List Nat) (x : Nat) : bl S x ≤ S.length := List.length_filter_le _ _
/-- A number rises from item to item. -/
abbrev Asc (S : List Nat) : Prop := S.Pairwise (· < ·)
theorem bl_split (x : Nat) : ∀ {S : List Nat}, Asc S → S.filter (fun i => decide (i < x)) = S.take (bl S x) ∧ S.filter (fun i => decide (x ≤ i)) = S.drop (bl S x)
  | [], _ => ⟨rfl, rfl⟩
  | a :: S, h => by
    obtain ⟨h1, h2⟩ := List.pairwise_cons.1 h
    obtain ⟨i1, i2⟩ := bl_split x h2
    by_cases ha : a < x
    · have e : bl (a :: S) x = bl S x + 1 := by simp [bl, ha]
      have hn : ¬ x ≤ a := by omega
      rw [e, List.take_succ_cons, List.drop_succ_cons, ← i1, ← i2]
      constructor
      · rw [List.filter_cons_of_pos (by simpa using ha)]
      · rw [List.filter_cons_of_neg (by simpa using hn)]
    · have hn : ∀ i ∈ S, ¬ i < x := fun i hi => by have := h1 i hi; omega
      have e1 : S.filter (fun i => decide (i < x)) = [] := List.filter_eq_nil_iff.2 (by simpa using hn)
      have e : bl (a :: S) x = 0 := by rw [bl, List.filter_cons_of_neg (by simpa using ha), e1]; rfl
      rw [e]
      constructor
      · rw [List.filter_cons_of_neg (by simpa using ha), e1]; rfl
      · refine List.filter_eq_self.2 fun i hi => ?_
        rcases List.mem_cons.1 hi with rfl | hi
        · simpa using ha
        · simpa using hn i hi
theorem mem_low {S : List Nat} {x i : Nat} (h : Asc S) (hi : i ∈ S.take (bl S x)) : i < x := by
  rw [← (bl_split x h).1] at hi
  simpa using (List.mem_filter.1 hi).2
theorem mem_high {S : List Nat} {x i : Nat} (h : Asc S) (hi : i ∈ S.drop (bl S x)) : x ≤ i := by
  rw [← (bl_split x h).2] at hi
  simpa using (List.mem_filter.1 hi).2
theorem asc_take {S : List Nat} (h : Asc S) (t : Nat) : Asc (S.take t) := h.sublist (List.take_sublist _ _)
theorem asc_drop {S : List Nat} (h : Asc S) (t : Nat) : Asc (S.drop t) := h.sublist (List.drop_sublist _ _)
theorem mem_take {S : List Nat} {t i : Nat} (hi : i ∈ S.take t) : i ∈ S := (List.take_sublist _ _).subset hi
theorem mem_drop {S : List Nat} {t i : Nat} (hi : i ∈ S.drop t) : i ∈ S := (List.drop_sublist _ _).subset hi
theorem tno_fil (h k : Nat) (S : List Nat) : tno h k (S.filter (inb h k)) = tno h k S := by
  cases h <;> simp only [tno, List.filter_filter, Bool.and_self]
theorem tno_nil (h k : Nat) : tno h k [] = [(h, k)] := by cases h <;> rfl
/-- All of a block. -/
abbrev In (h k : Nat) (S : List Nat) : Prop := ∀ i ∈ S, k * pw h ≤ i ∧ i < (k + 1) * pw h
theorem in_cut {h k : Nat} {S : List Nat} (hp : Asc S) (hS : In (h + 1) k S) : S.filter (inb h (2 * k)) = S.take (bl S ((2 * k + 1) * pw h)) ∧ S.filter (inb h (2 * k + 1)) = S.drop (bl S ((2 * k + 1) * pw h)) := by
  obtain ⟨h1, h2⟩ := bl_split ((2 * k + 1) * pw h) hp
  rw [← h1, ← h2]
  have e1 := Cv.half_lo h k
  have e2 := Cv.half_hi h k
  constructor
  · refine List.filter_congr fun i hi => ?_
    have := hS i hi
    rw [Bool.eq_iff_iff, inb_iff, decide_eq_true_iff]; omega
  · refine List.filter_congr fun i hi => ?_
    have := hS i hi
    rw [Bool.eq_iff_iff, inb_iff, decide_eq_true_iff]; omega
theorem in_low {h k : Nat} {S : List Nat} (hp : Asc S) (hS : In (h + 1) k S) : In h (2 * k) (S.take (bl S ((2 * k + 1) * pw h))) := fun i hi => by
  rw [← (in_cut hp hS).1] at hi
  exact inb_iff.1 (List.mem_filter.1 hi).2
theorem in_high {h k : Nat} {S : List Nat} (hp : Asc S) (hS : In (h + 1) k S) : In h (2 * k + 1) (S.drop (bl S ((2 * k + 1) * pw h))) := fun i hi => by
  rw [← (in_cut hp hS).2] at hi
  exact inb_iff.1 (List.mem_filter.1 hi).2
theorem tno_cut {h k : Nat} {S : List Nat} (hp : Asc S) (hS : In (h + 1) k S) (h0 : S ≠ []) : tno (h + 1) k S = tno h (2 * k) (S.take (bl S ((2 * k + 1) * pw h))) ++ tno h (2 * k + 1) (S.drop (bl S ((2 * k + 1) * pw h))) := by
  have e : S.filter (inb (h + 1) k) = S := List.filter_eq_self.2 fun i hi => inb_iff.2 (hS i hi)
  rw [tno, e, if_neg (by simpa [List.length_eq_zero_iff] using h0), ← tno_fil h (2 * k) S, ← tno_fil h (2 * k + 1) S, (in_cut hp hS).1, (in_cut hp hS).2]
theorem tno_full {k : Nat} {S : List Nat} (hS : In 0 k S) (h0 : S ≠ []) : tno 0 k S = [] := by
  have e : S.filter (inb 0 k) = S := List.filter_eq_self.2 fun i hi => inb_iff.2 (hS i hi)
  rw [tno, e, if_neg (by simpa [List.length_eq_zero_iff] using h0)]
theorem in_one {k i : Nat} {S : List Nat} (hS : In 0 k (i :: S)) : i = k := by
  have := hS i (List.mem_cons_self ..)
  rw [pw_zero] at this; omega
/-- What comes out of a block, out of the numbers in it, their items and the digests that are left. -/
def vB (c : Nat) : Nat → Nat → List Nat → List ByteArray → List ByteArray → ByteArray
  | 0, _, S, X, D => if S.length = 0 then D.getD 0 ByteArray.empty else dg c (leafT (X.getD 0 ByteArray.empty))
  | h + 1, k, S, X, D => if S.length = 0 then D.getD 0 ByteArray.empty else dg c (nodeT (vB c h (2 * k) (S.take (bl S ((2 * k + 1) * pw h))) (X.take (bl S ((2 * k + 1) * pw h))) D) (vB c h (2 * k + 1) (S.drop (bl S ((2 * k + 1) * pw h))) (X.drop (bl S ((2 * k + 1) * pw h))) (D.drop (tno h (2 * k) (S.take (bl S ((2 * k + 1) * pw h)))).length)))
theorem vB_nil (c h k : Nat) (X D : List ByteArray) : vB c h k [] X D = D.getD 0 ByteArray.empty := by cases h <;> simp [vB]
theorem vB_leaf (c k : Nat) {S : List Nat} (X D : List ByteArray) (h0 : S ≠ []) : vB c 0 k S X D = dg c (leafT (X.getD 0 ByteArray.empty)) := by
  rw [vB, if_neg (by simpa [List.length_eq_zero_iff] using h0)]
theorem vB_two (c h k : Nat) {S : List Nat} (X D : List ByteArray) (h0 : S ≠ []) {t : Nat} (ht : bl S ((2 * k + 1) * pw h) = t) : vB c (h + 1) k S X D = dg c (nodeT (vB c h (2 * k) (S.take t) (X.take t) D) (vB c h (2 * k + 1) (S.drop t) (X.drop t) (D.drop (tno h (2 * k) (S.take t)).length))) := by
  rw [vB, if_neg (by simpa [List.length_eq_zero_iff] using h0), ht]
theorem vB_size {c : Nat} (hc : c ≤ 32) : ∀ (h k : Nat) (S : List Nat) (X D : List ByteArray), (∀ s ∈ D, s.size = c) → 0 < D.length ∨ S ≠ [] → (vB c h k S X D).size = c := by
  intro h k S X D hD h0
  by_cases hS : S = []
  · subst hS
    rw [vB_nil]
    exact hD _ (getD_mem (by rcases h0 with h0 | h0; exact h0; exact absurd rfl h0))
  · cases h with
    | zero => rw [vB_leaf c k X D hS]; exact dg_size hc _
    | succ h => rw [vB_two c h k X D hS rfl]; exact dg_size hc _
/-- Of a list's own digests and items its node comes out. -/
theorem vB_nd (c : Nat) (L : List ByteArray) : ∀ (h k : Nat) (S : List Nat) (X D D' : List ByteArray), Asc S → In h k S → X = S.map (fun i => L.getD i ByteArray.empty) → D = (tno h k S).map (fun b => nd c L b.1 b.2) ++ D' → vB c h k S X D = nd c L h k := by
  intro h
  induction h with
  | zero =>
    intro k S X D D' hp hS hX hD
    cases S with
    | nil => rw [vB_nil, hD, tno_nil]; rfl
    | cons i S =>
      obtain rfl := in_one hS
      rw [vB_leaf c i X D (by simp), hX]; rfl
  | succ h ih =>
    intro k S X D D' hp hS hX hD
    by_cases h0 : S = []
    · subst h0
      rw [vB_nil, hD, tno_nil]; rfl
    · rw [vB_two c h k X D h0 rfl]
      rw [tno_cut hp hS h0, List.map_append, List.append_assoc] at hD
      rw [ih (2 * k) _ _ D _ (asc_take hp _) (in_low hp hS) (by rw [hX, List.map_take]) hD, ih (2 * k + 1) _ _ _ D' (asc_drop hp _) (in_high hp hS) (by rw [hX, List.map_drop]) (by rw [hD]; exact List.drop_left' (by rw [List.length_map])), nd]
/-- What the blocks that are known tell. -/
def Tl (c : Nat) (K : List ((Nat × Nat) × ByteArray)) : Nat → Nat → ByteArray → Prop
  | 0, k, v => ((0, k), v) ∈ K
  | h + 1, k, v => ((h + 1, k), v) ∈ K ∨ ((∀ u, ((h + 1, k), u) ∉ K) ∧ ∃ x y, Tl c K h (2 * k) x ∧ Tl c K h (2 * k + 1) y ∧ v = dg c (nodeT x y))
theorem Tl.at {c : Nat} {K : List ((Nat × Nat) × ByteArray)} {h k : Nat} {v : ByteArray} (e : ((h, k), v) ∈ K) : Tl c K h k v := by
  cases h with
  | zero => exact e
  | succ h => exact .inl e
theorem getD_app {α : Type} (d : α) (A B : List α) (j : Nat) : (A ++ B).getD (A.length + j) d = B.getD j d := by
  rw [List.getD_eq_getElem?_getD, List.getElem?_append_right (by omega), Nat.add_sub_cancel_left, List.getD_eq_getElem?_getD]
theorem getD_fst {α : Type} (d : α) (A B : List α) {j : Nat} (h : j < A.length) : (A ++ B).getD j d = A.getD j d := by
  rw [List.getD_eq_getElem?_getD, List.getElem?_append_left h, List.getD_eq_getElem?_getD]
theorem getD_dr {α : Type} (d : α) (A : List α) (t j : Nat) : (A.drop t).getD j d = A.getD (t + j) d := by
  rw [List.getD_eq_getElem?_getD, List.getElem?_drop, List.getD_eq_getElem?_getD]
theorem getD_tk {α : Type} (d : α) (A : List α) {t j : Nat} (h : j < t) : (A.take t).getD j d = A.getD j d := by
  rw [List.getD_eq_getElem?_getD, List.getElem?_take, if_pos h, List.getD_eq_getElem?_getD]
theorem vB_tl (c : Nat) (K : List ((Nat × Nat) × ByteArray)) : ∀ (h k : Nat) (S : List Nat) (X D : List ByteArray), Asc S → In h k S → (∀ e ∈ K, 0 < e.1.1 → ∀ i ∈ S, ¬ (e.1.2 * pw e.1.1 ≤ i ∧ i < (e.1.2 + 1) * pw e.1.1)) → (∀ j, j < S.length → ((0, S.getD j 0), dg c (leafT (X.getD j ByteArray.empty))) ∈ K) → (∀ j, j < (tno h k S).length → ((tno h k S).getD j (0, 0), D.getD j ByteArray.empty) ∈ K) → Tl c K h k (vB c h k S X D) := by
  intro h
  induction h with
  | zero =>
    intro k S X D hp hS hK hX hD
    cases S with
    | nil => rw [vB_nil]; exact Tl.at (hD 0 (by rw [tno_nil]; exact Nat.zero_lt_one))
    | cons i S =>
      obtain rfl := in_one hS
      rw [vB_leaf c i X D (by simp)]
      exact hX 0 (by simp)
  | succ h ih =>
    intro k S X D hp hS hK hX hD
    by_cases h0 : S = []
    · subst h0
      rw [vB_nil]; exact Tl.at (hD 0 (by rw [tno_nil]; exact Nat.zero_lt_one))
    · obtain ⟨t, ht⟩ : ∃ t, bl S ((2 * k + 1) * pw h) = t := ⟨_, rfl⟩
      have htl : t ≤ S.length := by rw [← ht]; exact bl_le _ _
      have l1 := in_low hp hS
      have l2 := in_high hp hS
      have l3 := tno_cut hp hS h0
      rw [ht] at l1 l2 l3
      rw [vB_two c h k X D h0 ht]
      refine .inr ⟨fun u hu => ?_, _, _, ?_, ?_, rfl⟩
      · obtain ⟨i, hi⟩ := List.exists_mem_of_ne_nil S h0
        exact hK _ hu (Nat.succ_pos h) i hi (hS i hi)
      · refine ih (2 * k) _ _ D (asc_take hp _) l1 (fun e he h1 i hi => hK e he h1 i (mem_take hi)) (fun j hj => ?_) (fun j hj => ?_)
        · rw [List.length_take] at hj
          rw [getD_tk _ _ (by omega), getD_tk _ _ (by omega)]
          exact hX j (by omega)
        · have := hD j (by rw [l3, List.length_append]; omega)
          rwa [l3, getD_fst _ _ _ hj] at this
      · refine ih (2 * k + 1) _ _ _ (asc_drop hp _) l2 (fun e he h1 i hi => hK e he h1 i (mem_drop hi)) (fun j hj => ?_) (fun j hj => ?_)
        · rw [List.length_drop] at hj
          rw [getD_dr, getD_dr]
          exact hX (t + j) (by omega)
        · have := hD ((tno h (2 * k) (S.take t)).length + j) (by rw [l3, List.length_append]; omega)
          rwa [l3, getD_app, ← getD_dr] at this
/-- The peaks that come out. -/
def pB (c : Nat) : List (Nat × Nat) → List Nat → List ByteArray → List ByteArray → List ByteArray
  | [], _, _, _ => []
  | m :: M, S, X, D => vB c m.1 m.2 (S.take (bl S ((m.2 + 1) * pw m.1))) (X.take (bl S ((m.2 + 1) * pw m.1))) D :: pB c M (S.drop (bl S ((m.2 + 1) * pw m.1))) (X.drop (bl S ((m.2 + 1) * pw m.1))) (D.drop (tno m.1 m.2 (S.take (bl S ((m.2 + 1) * pw m.1)))).length)
/-- The blocks of their digests. -/
def fB : List (Nat × Nat) → List Nat → List (Nat × Nat)
  | [], _ => []
  | m :: M, S => tno m.1 m.2 (S.take (bl S ((m.2 + 1) * pw m.1))) ++ fB M (S.drop (bl S ((m.2 + 1) * pw m.1)))
theorem pB_len (c : Nat) : ∀ (M : List (Nat × Nat)) (S : List Nat) (X D : List ByteArray), (pB c M S X D).length = M.length
  | [], _, _, _ => rfl
  | m :: M, S, X, D => by rw [pB, List.length_cons, pB_len, List.length_cons]
theorem row_le {q : Nat} : ∀ {M : List (Nat × Nat)} {p : Nat}, Cv.Row q p M → p ≤ q
  | [], _, h => Nat.le_of_eq h
  | m :: M, p, h => by
    have := row_le h.2.2.2
    have h1 := Cv.blk_lt m.1 m.2
    have h2 := h.1
    omega
theorem row_from {q : Nat} : ∀ {M : List (Nat × Nat)} {p : Nat}, Cv.Row q p M → ∀ b ∈ M, p ≤ b.2 * pw b.1 ∧ (b.2 + 1) * pw b.1 ≤ q
  | [], _, _, b, hb => by cases hb
  | m :: M, p, h, b, hb => by
    rcases List.mem_cons.1 hb with rfl | hb
    · exact ⟨Nat.le_of_eq h.1, row_le h.2.2.2⟩
    · have := row_from h.2.2.2 b hb
      have h1 := Cv.blk_lt m.1 m.2
      have h2 := h.1
      exact ⟨by omega, this.2⟩
/-- All from p on. -/
abbrev Fr (p q : Nat) (S : List Nat) : Prop := ∀ i ∈ S, p ≤ i ∧ i < q
theorem fr_low {p q h k : Nat} {S : List Nat} (hp : Asc S) (hS : Fr p q S) (hk : p = k * pw h) : In h k (S.take (bl S ((k + 1) * pw h))) := fun i hi => ⟨by have := (hS i (mem_take hi)).1; omega, mem_low hp hi⟩
theorem fr_high {p q x : Nat} {S : List Nat} (hp : Asc S) (hS : Fr p q S) : Fr x q (S.drop (bl S x)) := fun i hi => ⟨mem_high hp hi, (hS i (mem_drop hi)).2⟩
theorem flat_eq {f g : Nat × Nat → List (Nat × Nat)} {M : List (Nat × Nat)} (h : ∀ b ∈ M, f b = g b) : M.flatMap f = M.flatMap g := by
  rw [List.flatMap_def, List.flatMap_def, List.map_congr_left h]
theorem fB_flat {q : Nat} : ∀ {M : List (Nat × Nat)} {p : Nat} {S : List Nat}, Cv.Row q p M → Asc S → Fr p q S → fB M S = M.flatMap fun b => tno b.1 b.2 S
  | [], _, _, _, _, _ => rfl
  | m :: M, p, S, h, hp, hS => by
    rw [fB, List.flatMap_cons, fB_flat h.2.2.2 (asc_drop hp _) (fr_high hp hS)]
    have e1 : S.filter (inb m.1 m.2) = S.take (bl S ((m.2 + 1) * pw m.1)) := by
      rw [← (bl_split _ hp).1]
      refine List.filter_congr fun i hi => ?_
      have := hS i hi
      have h1 := h.1
      rw [Bool.eq_iff_iff, inb_iff, decide_eq_true_iff]; omega
    rw [← e1, tno_fil]
    congr 1
    refine flat_eq fun b hb => ?_
    have hb1 := row_from h.2.2.2 b hb
    rw [← tno_fil b.1 b.2 S, ← tno_fil b.1 b.2 (S.drop _)]
    congr 1
    rw [← (bl_split _ hp).2, List.filter_filter]
    refine List.filter_congr fun i hi => ?_
    rw [Bool.eq_iff_iff, Bool.and_eq_true, inb_iff, decide_eq_true_iff]; omega
theorem pB_nd (c : Nat) (L : List ByteArray) {q : Nat} : ∀ (M : List (Nat × Nat)) (p : Nat) (S : List Nat) (X D D' : List ByteArray), Cv.Row q p M → Asc S → Fr p q S → X = S.map (fun i => L.getD i ByteArray.empty) → D = (fB M S).map (fun b => nd c L b.1 b.2) ++ D' → pB c M S X D = M.map fun b => nd c L b.1 b.2
  | [], _, _, _, _, _, _, _, _, _, _ => rfl
  | m :: M, p, S, X, D, D', h, hp, hS, hX, hD => by
    rw [fB, List.map_append, List.append_assoc] at hD
    rw [pB, List.map_cons, vB_nd c L m.1 m.2 _ _ D _ (asc_take hp _) (fr_low hp hS h.1) (by rw [hX, List.map_take]) hD]
    rw [pB_nd c L M _ _ _ _ D' h.2.2.2 (asc_drop hp _) (fr_high hp hS) (by rw [hX, List.map_drop]) (by rw [hD]; exact List.drop_left' (by rw [List.length_map]))]
theorem pB_tl (c : Nat) (K : List ((Nat × Nat) × ByteArray)) {q : Nat} : ∀ (M : List (Nat × Nat)) (p : Nat) (S : List Nat) (X D : List ByteArray), Cv.Row q p M → Asc S → Fr p q S → (∀ e ∈ K, 0 < e.1.1 → ∀ i ∈ S, ¬ (e.1.2 * pw e.1.1 ≤ i ∧ i < (e.1.2 + 1) * pw e.1.1)) → (∀ j, j < S.length → ((0, S.getD j 0), dg c (leafT (X.getD j ByteArray.empty))) ∈ K) → (∀ j, j < (fB M S).length → ((fB M S).getD j (0, 0), D.getD j ByteArray.empty) ∈ K) → ∀ j, j < M.length → Tl c K (M.getD j (0, 0)).1 (M.getD j (0, 0)).2 ((pB c M S X D).getD j ByteArray.empty)
  | [], _, _, _, _, _, _, _, _, _, _, j, hj => absurd hj (Nat.not_lt_zero j)
  | m :: M, p, S, X, D, h, hp, hS, hK, hX, hD, j, hj => by
    obtain ⟨t, ht⟩ : ∃ t, bl S ((m.2 + 1) * pw m.1) = t := ⟨_, rfl⟩
    have htl : t ≤ S.length := by rw [← ht]; exact bl_le _ _
    have l1 := fr_low hp hS h.1
    have l2 : Fr ((m.2 + 1) * pw m.1) q (S.drop (bl S ((m.2 + 1) * pw m.1))) := fr_high hp hS
    rw [ht] at l1 l2
    rw [fB, ht] at hD
    rw [pB, ht]
    cases j with
    | zero =>
      refine vB_tl c K m.1 m.2 _ _ D (asc_take hp _) l1 (fun e he h1 i hi => hK e he h1 i (mem_take hi)) (fun j hj => ?_) (fun j hj => ?_)
      · rw [List.length_take] at hj
        rw [getD_tk _ _ (by omega), getD_tk _ _ (by omega)]
        exact hX j (by omega)
      · have := hD j (by rw [List.length_append]; omega)
        rwa [getD_fst _ _ _ hj] at this
    | succ j =>
      refine pB_tl c K M _ _ _ _ h.2.2.2 (asc_drop hp _) l2 (fun e he h1 i hi => hK e he h1 i (mem_drop hi)) (fun j hj => ?_) (fun j hj => ?_) j (by rw [List.length_cons] at hj; omega)
      · rw [List.length_drop] at hj
        rw [getD_dr, getD_dr]
        exact hX (t + j) (by omega)
      · have := hD ((tno m.1 m.2 (S.take t)).length + j) (by rw [List.length_append]; omega)
        rwa [getD_app, ← getD_dr] at this
theorem pB_size {c : Nat} (hc : c ≤ 32) : ∀ (M : List (Nat × Nat)) (S : List Nat) (X D : List ByteArray), (∀ s ∈ D, s.size = c) → (fB M S).length ≤ D.length → ∀ s ∈ pB c M S X D, s.size = c
  | [], _, _, _, _, _, s, hs => by cases hs
  | m :: M, S, X, D, hD, hl, s, hs => by
    rw [fB, List.length_append] at hl
    rw [pB] at hs
    rcases List.mem_cons.1 hs with rfl | hs
    · refine vB_size hc _ _ _ _ _ hD ?_
      by_cases h0 : S.take (bl S ((m.2 + 1) * pw m.1)) = []
      · rw [h0, tno_nil] at hl
        exact .inl (by rw [List.length_singleton] at hl; omega)
      · exact .inr h0
    · exact pB_size hc M _ _ _ (fun s hs => hD s ((List.drop_sublist _ _).subset hs)) (by rw [List.length_drop]; omega) s hs
theorem chain_asc : ∀ {S : List Nat} {x n : Nat}, Cv.Chain x S n → Asc S
  | [], _, _, _ => List.Pairwise.nil
  | _ :: _, _, _, h => List.pairwise_cons.2 ⟨fun j hj => (Cv.chain_mem h.2 j hj).1, chain_asc h.2⟩
end Go.Proofs.YtnbejijpmeklaaaDoor
