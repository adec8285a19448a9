/-
  FilesTurned: one byte turned. Own work.
-/
import Derived.Test.YthfnpagangjpbaaGreatZ30
import Derived.Test.YthfnpagangjpbaaGreatYNTur
namespace Go.Proofs.YthfnpagangjpbaaGreat
open Rc
theorem cntM_len {A : List It} {M : List UInt8} (hl : M.length = 64 * A.length) (hz : ∀ j, j < A.length → rowM M j ≠ zer 64) : cntM M = A.length := by
  unfold cntM
  have hd : M.length / 64 = A.length := by omega
  rw [hd, if_neg]
  rintro ⟨h0, h1⟩
  exact hz _ (by omega) h1
theorem tkN_mrk {k : Nat} {a b : List UInt8} {st : List Nat × BitVec 32} {row : List UInt8} (h : rmrk row = none) : tkN k a b st row = none := by unfold tkN; rw [h]
/-- Which piece of a row of pieces a place lies in. -/
theorem rowM_set_ne (m : List UInt8) (n j : Nat) (y : UInt8) (h : n / 64 ≠ j) : rowM (m.set n y) j = rowM m j := by
  unfold rowM
  apply List.ext_getElem?
  intro i
  rw [List.getElem?_take, List.getElem?_take]
  split
  · rw [List.getElem?_drop, List.getElem?_drop, List.getElem?_set_ne (by omega)]
  · rfl
theorem rowM_set_eq (m : List UInt8) (n : Nat) (y : UInt8) : rowM (m.set n y) (n / 64) = (rowM m (n / 64)).set (n % 64) y := by
  unfold rowM
  apply List.ext_getElem?
  intro i
  rw [List.getElem?_take, List.getElem?_drop, List.getElem?_set, List.getElem?_set, List.getElem?_take, List.getElem?_drop]
  by_cases hi : i < 64
  · rw [if_pos hi, if_pos hi]
    by_cases he : n % 64 = i
    · rw [if_pos (by omega), if_pos he]
      rw [List.length_take, List.length_drop]
      by_cases hl : n < m.length
      · rw [if_pos hl, if_pos (by omega)]
      · rw [if_neg hl, if_neg (by omega)]
    · rw [if_neg (by omega), if_neg he]
  · rw [if_neg hi, if_neg hi, if_neg (by omega)]
theorem mrk_set_ne (m : MV) (h : 1 ≤ m.k ∧ m.k ≤ 32) (i : Nat) (y : UInt8) : (mrk m).set i y ≠ zer 64 := by
  obtain ⟨r, hr⟩ : ∃ r, mrk m = 109 :: 115 :: r := ⟨_, by unfold mrk; rw [if_pos h]; rfl⟩
  have hz : zer 64 = 0 :: 0 :: zer 62 := rfl
  rw [hr, hz]
  cases i with
  | zero =>
    intro e
    rw [List.set_cons_zero] at e
    injection e with _ e
    injection e with e
    revert e; decide
  | succ i =>
    intro e
    rw [List.set_cons_succ] at e
    injection e with e
    revert e; decide
/-- The markers: a byte turned. -/
theorem turn_m {k : Nat} {A : List It} (h : OkA k A) (n : Nat) (hn : n < (bA k A).m.length) (y : UInt8) (hy : y ≠ (bA k A).m.getD n 0) : tkAll k (bA k A).a (bA k A).b ((bA k A).m.set n y) = none := by
  have l := h.lens
  have hj : n / 64 < A.length := by have := l.m; omega
  have hrow : ∀ j, j < A.length → ∃ m : MV, (1 ≤ m.k ∧ m.k ≤ 32) ∧ rowM (bA k A).m j = mrk m := fun j hj => by
    have e := take_next A j hj
    have ht := h.take (j + 1)
    have hp := bA_take k A (j + 1)
    rw [e] at ht hp
    have := rowM_at ht hp.2.2
    have hl : (A.take j).length = j := by rw [List.length_take]; omega
    rw [hl] at this
    exact ⟨_, ⟨by show (1 : Int) ≤ (k : Int); have := h.k1; omega, by show (k : Int) ≤ 32; have := h.k2; omega⟩, this⟩
  have hcnt : cntM ((bA k A).m.set n y) = A.length := by
    refine cntM_len (by rw [List.length_set, l.m]) fun j hj => ?_
    obtain ⟨m, hm, e⟩ := hrow j hj
    by_cases hc : n / 64 = j
    · subst hc
      rw [rowM_set_eq, e]; exact mrk_set_ne m hm _ _
    · rw [rowM_set_ne _ _ _ _ hc, e]; exact mrk_ne m hm
  rw [tkAll, hcnt]
  refine tkA_none (j := n / 64 + 1) ?_ _ (by omega)
  rw [tkA]
  split
  · rfl
  · obtain ⟨m, hm, e⟩ := hrow _ hj
    refine tkN_mrk ?_
    rw [rowM_set_eq, e]
    refine turned_mrk m _ y hm (Nat.mod_lt _ (by decide)) fun q => hy ?_
    rw [q, ← e]
    unfold rowM
    rw [List.getD_eq_getElem?_getD, List.getD_eq_getElem?_getD, List.getElem?_take, if_pos (Nat.mod_lt _ (by decide)), List.getElem?_drop, Nat.div_add_mod]
theorem pay_turned (x : List UInt8) (i : Nat) (y : UInt8) (hx : x.length ≤ 1048576) (hi : i < (pay x).length) (hy : y ≠ (pay x).getD i 0) : whl ((pay x).set i y) = false := by
  by_cases h4 : 4 ≤ i
  · unfold whl
    rw [turned_pay x i y hx h4 hi hy]
  · unfold whl
    cases hz : rpay ((pay x).set i y) with
    | none => rfl
    | some z =>
      obtain ⟨z1, z2, z3, z4⟩ := rpay_len hz
      simp only [List.length_set]
      rw [beq_eq_false_iff_ne]
      intro e
      rw [pay_len] at e
      have e1 : z.length = x.length := by omega
      rw [e1] at z4
      have e2 : ((pay x).set i y).take 4 = (pay x).take 4 := by
        rw [pay_four, ← z4, big_num' _ _ (by rw [List.length_take, List.length_set, pay_len]; omega)]
      have e3 := congrArg (fun l => l.getD i 0) e2
      simp only [List.getD_eq_getElem?_getD, List.getElem?_take, if_pos (show i < 4 by omega), List.getElem?_set, if_pos hi, if_true] at e3
      exact hy (by rw [List.getD_eq_getElem?_getD, ← e3]; rfl)
theorem find_a {k : Nat} (A : List It) (n : Nat) : n < (bA k A).a.length → ∃ j, j < A.length ∧ (bA k (A.take j)).a.length ≤ n ∧ n < (bA k (A.take (j + 1))).a.length := by
  refine rev_ind (P := fun A => n < (bA k A).a.length → ∃ j, j < A.length ∧ (bA k (A.take j)).a.length ≤ n ∧ n < (bA k (A.take (j + 1))).a.length) (fun h => absurd h (Nat.not_lt_zero _)) (fun A x ih h => ?_) A
  by_cases hc : n < (bA k A).a.length
  · obtain ⟨j, h1, h2, h3⟩ := ih hc
    exact ⟨j, by simp; omega, by rw [List.take_append_of_le_length (by omega)]; exact h2, by rw [List.take_append_of_le_length (by omega)]; exact h3⟩
  · refine ⟨A.length, by simp, by rw [List.take_left]; omega, ?_⟩
    rw [List.take_of_length_le (by simp)]; exact h
theorem pre_set {P l : List UInt8} (h : P <+: l) (n : Nat) (y : UInt8) (hn : P.length ≤ n) : P <+: l.set n y := by
  obtain ⟨t, rfl⟩ := h
  rw [List.set_append_right _ _ hn]
  exact List.prefix_append _ _
/-- The items: a byte turned. -/
theorem turn_a {k : Nat} {A : List It} (h : OkA k A) (n : Nat) (hn : n < (bA k A).a.length) (y : UInt8) (hy : y ≠ (bA k A).a.getD n 0) : tkAll k ((bA k A).a.set n y) (bA k A).b (bA k A).m = none := by
  have hcnt : cntM (bA k A).m = A.length := by
    have := cntM_good h (t := []) (.inl (by decide))
    rwa [List.append_nil] at this
  obtain ⟨j, hj, h1, h2⟩ := find_a A n hn
  rw [tkAll, hcnt]
  refine tkA_none (j := j + 1) ?_ _ (by omega)
  have ht := h.take (j + 1)
  have e := take_next A j hj
  obtain ⟨pa, pb, pm⟩ := bA_take k A (j + 1)
  obtain ⟨qa, qb, qm⟩ := bA_take k A j
  have hl : (A.take j).length = j := by rw [List.length_take]; omega
  have hg := tkA_good (h.take j) (pre_set qa n y h1) qb qm j (by omega)
  rw [List.take_take, Nat.min_self] at hg
  rw [tkA, hg]
  simp only
  rw [e] at ht pa pm h2
  generalize A[j] = x at *
  have hr := rowM_at ht pm
  rw [hl] at hr
  have l := (h.take j).lens
  have hxo := ht.last
  rw [hr]
  unfold tkN
  rw [rmrk_mrk _ ht.mvok]
  simp only
  have ei : ((bA k (A.take j)).mk' k x).items - lst (bA k (A.take j)).ends = (pay x.1).length := by
    show lst (bA k (A.take j)).ends + (pay x.1).length - _ = _
    omega
  obtain ⟨t, pa⟩ := pa
  rw [bA_snoc] at pa h2
  have pa' : ((bA k (A.take j)).a ++ pay x.1) ++ t = (bA k A).a := pa
  have h2' : n < ((bA k (A.take j)).a ++ pay x.1).length := h2
  rw [List.length_append] at h2'
  have hp : (((bA k A).a.set n y).drop (lst (bA k (A.take j)).ends)).take (((bA k (A.take j)).mk' k x).items - lst (bA k (A.take j)).ends) = (pay x.1).set (n - (bA k (A.take j)).a.length) y := by
    rw [ei, l.lst, ← pa', List.append_assoc, List.set_append_right _ _ h1, List.drop_left, List.set_append_left _ _ (by omega), List.take_append_of_le_length (by rw [List.length_set]; exact Nat.le_refl _), List.take_of_length_le (by rw [List.length_set]; exact Nat.le_refl _)]
  rw [if_pos]
  refine .inr (.inr (.inr ?_))
  rw [hp]
  refine pay_turned x.1 _ y hxo.len (by omega) fun q => hy ?_
  rw [q, ← pa', List.append_assoc, List.getD_eq_getElem?_getD, List.getD_eq_getElem?_getD, List.getElem?_append_right h1, List.getElem?_append_left (by omega)]
theorem rdN_bad (k : Nat) (b : List UInt8) (p r : Nat) (h : rnod k (p + r) (rowN b (p + r)) = none) : ∀ j, r < j → rdN k b p j = none
  | 0, hj => absurd hj (Nat.not_lt_zero _)
  | j + 1, hj => by
    rw [rdN]
    by_cases e : r = j
    · subst e
      split
      · rfl
      · rw [if_neg]
        rintro ⟨_, q⟩
        rw [h] at q
        cases q
    · rw [rdN_bad k b p r h j (by omega)]
theorem find_n (p N : Nat) (h : p < nn N) : ∃ j, j < N ∧ nn j ≤ p ∧ p < nn (j + 1) := by
  induction N with
  | zero => exact absurd h (Nat.not_lt_zero _)
  | succ N ih =>
    by_cases hc : p < nn N
    · obtain ⟨j, h1, h2, h3⟩ := ih hc
      exact ⟨j, by omega, h2, h3⟩
    · exact ⟨N, by omega, by omega, h⟩
theorem rowN_set_eq (m : List UInt8) (n : Nat) (y : UInt8) : rowN (m.set n y) (n / 40) = (rowN m (n / 40)).set (n % 40) y := by
  unfold rowN
  apply List.ext_getElem?
  intro i
  rw [List.getElem?_take, List.getElem?_drop, List.getElem?_set, List.getElem?_set, List.getElem?_take, List.getElem?_drop]
  by_cases hi : i < 40
  · rw [if_pos hi, if_pos hi]
    by_cases he : n % 40 = i
    · rw [if_pos (by omega), if_pos he]
      rw [List.length_take, List.length_drop]
      by_cases hl : n < m.length
      · rw [if_pos hl, if_pos (by omega)]
      · rw [if_neg hl, if_neg (by omega)]
    · rw [if_neg (by omega), if_neg he]
  · rw [if_neg hi, if_neg hi, if_neg (by omega)]
/-- The nodes: a byte turned. -/
theorem turn_b {k : Nat} {A : List It} (h : OkA k A) (n : Nat) (hn : n < (bA k A).b.length) (y : UInt8) (hy : y ≠ (bA k A).b.getD n 0) : tkAll k (bA k A).a ((bA k A).b.set n y) (bA k A).m = none := by
  have hcnt : cntM (bA k A).m = A.length := by
    have := cntM_good h (t := []) (.inl (by decide))
    rwa [List.append_nil] at this
  have l0 := h.lens
  have hpn : n / 40 < nn A.length := by have := l0.b; omega
  obtain ⟨j, hj, h1, h2⟩ := find_n (n / 40) A.length hpn
  rw [tkAll, hcnt]
  refine tkA_none (j := j + 1) ?_ _ (by omega)
  have ht := h.take (j + 1)
  have e := take_next A j hj
  obtain ⟨pa, pb, pm⟩ := bA_take k A (j + 1)
  obtain ⟨qa, qb, qm⟩ := bA_take k A j
  have hl : (A.take j).length = j := by rw [List.length_take]; omega
  have l := (h.take j).lens
  have hg := tkA_good (h.take j) qa (pre_set qb n y (by rw [l.b, hl]; omega)) qm j (by omega)
  rw [List.take_take, Nat.min_self] at hg
  rw [tkA, hg]
  simp only
  obtain ⟨x, hx⟩ : ∃ x, A[j]? = some x := ⟨_, List.getElem?_eq_getElem hj⟩
  have hxo := h.it j x hx
  have hc := hxo.cnt
  have hlt : n / 40 - nn j < x.2.length := by rw [hc]; exact Nat.sub_lt_sub_right h1 h2
  obtain ⟨d, hd⟩ : ∃ d, x.2[n / 40 - nn j]? = some d := ⟨_, List.getElem?_eq_getElem hlt⟩
  have hrw := (rows_at h j (n / 40 - nn j) x d hx hd).1
  have hs : nn j + (n / 40 - nn j) = n / 40 := Nat.add_sub_cancel' h1
  rw [hs] at hrw
  have hrw' : rowN (bA k A).b (n / 40) = nod (n / 40) d.data.toList := hrw
  have hdz : d.size = k := hxo.sz d (List.mem_of_getElem? hd)
  have hno : rnod k (nn j + (n / 40 - nn j)) (rowN ((bA k A).b.set n y) (nn j + (n / 40 - nn j))) = none := by
    rw [hs, rowN_set_eq, hrw']
    refine turned_nod k _ _ _ _ y (by rw [size_list, hdz]; exact h.k2) (Nat.mod_lt _ (by decide)) fun q => hy ?_
    rw [q, ← hrw']
    unfold rowN
    rw [List.getD_eq_getElem?_getD, List.getD_eq_getElem?_getD, List.getElem?_take, if_pos (Nat.mod_lt _ (by decide)), List.getElem?_drop, Nat.div_add_mod]
  have hR := rdN_bad k ((bA k A).b.set n y) (nn j) (n / 40 - nn j) hno (nn (j + 1) - nn j) (by rw [← hc]; exact hlt)
  unfold tkN
  split
  · rfl
  · split
    · rfl
    · rw [l.ends, hl, hR]
end Go.Proofs.YthfnpagangjpbaaGreat
