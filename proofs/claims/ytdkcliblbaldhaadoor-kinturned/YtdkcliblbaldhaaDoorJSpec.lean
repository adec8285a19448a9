/-
  Kin: the blocks of a beginning and of what came behind; how they are joined. Own work.
-/
import Derived.Test.YtdkcliblbaldhaaDoorBMem
import Derived.Test.YtdkcliblbaldhaaDoorQ1
namespace Go.Proofs.YtdkcliblbaldhaaDoor
open Pl (pw pw_succ pw_pos pw_zero pw_add pw_le)
open Cv (dnL cov cov_zero Row row_app cov_row)
theorem dn_nil (h x : Nat) : dnL h x x = [] := by
  induction h with
  | zero => rfl
  | succ h ih => rw [dnL, if_neg (by have := pw_pos h; omega)]; exact ih
theorem pw_cut {h j : Nat} (hj : h ≤ j) : pw j = pw (j - h) * pw h := by rw [← pw_add]; congr 1; omega
/-- What lies down from a height: the greater ones, then the lesser. -/
theorem dn_split (h : Nat) : ∀ j lo hi q, h ≤ j → hi - lo < pw j → (hi - lo) / pw h * pw h = q → dnL j lo hi = dnL j lo (lo + q) ++ dnL h (lo + q) hi := by
  intro j
  induction j with
  | zero =>
    intro lo hi q hj _ _
    obtain rfl : h = 0 := by omega
    rfl
  | succ j ih =>
    intro lo hi q hj hl hq
    have hp := pw_pos h
    have hpj := pw_pos j
    by_cases he : h = j + 1
    · subst he
      have : q = 0 := by rw [← hq, Nat.div_eq_of_lt hl, Nat.zero_mul]
      subst this
      show dnL (j + 1) lo hi = dnL (j + 1) lo lo ++ dnL (j + 1) lo hi
      rw [dn_nil, List.nil_append]
    · have hj' : h ≤ j := by omega
      have hc := pw_cut hj'
      have hps := pw_succ j
      rw [dnL, dnL]
      by_cases hf : pw j ≤ hi - lo
      · have hq1 : pw j ≤ q := by
          rw [← hq, hc]
          refine Nat.mul_le_mul_right _ ?_
          rw [Nat.le_div_iff_mul_le hp, ← hc]
          exact hf
        have e2 : (hi - (lo + pw j)) / pw h * pw h = q - pw j := by
          have e3 : hi - lo = (hi - (lo + pw j)) + pw (j - h) * pw h := by rw [← hc]; omega
          rw [e3, Nat.add_mul_div_right _ _ hp, Nat.add_mul, ← hc] at hq
          omega
        have := ih (lo + pw j) hi (q - pw j) hj' (by omega) e2
        rw [show lo + pw j + (q - pw j) = lo + q by omega] at this
        rw [if_pos hf, if_pos (by omega), this, List.cons_append]
      · have hq1 : ¬ pw j ≤ q := by
          have := Nat.div_mul_le_self (hi - lo) (pw h)
          omega
        rw [if_neg hf, if_neg (by omega)]
        exact ih lo hi q hj' (by omega) hq
theorem dn_high (h : Nat) : ∀ j lo hi, hi - lo < pw j → (∃ c, hi - lo = c * pw h) → ∀ b ∈ dnL j lo hi, h ≤ b.1 := by
  intro j
  induction j with
  | zero => intro lo hi _ _ b hb; cases hb
  | succ j ih =>
    intro lo hi hl hc b hb
    obtain ⟨c, hc⟩ := hc
    have hps := pw_succ j
    have hpj := pw_pos j
    rw [dnL] at hb
    split at hb
    · rename_i hf
      have hj : h ≤ j := by
        apply Classical.byContradiction
        intro hlt
        have h1 : pw (j + 1) ≤ pw h := pw_le (by omega)
        have h2 : c = 0 := by
          apply Classical.byContradiction
          intro h0
          have := Nat.mul_le_mul_right (pw h) (show 1 ≤ c by omega)
          omega
        subst h2
        omega
      rcases List.mem_cons.1 hb with rfl | hb
      · exact hj
      · refine ih (lo + pw j) hi (by omega) ⟨c - pw (j - h), ?_⟩ b hb
        rw [Nat.sub_mul, ← pw_cut hj, ← hc]; omega
    · exact ih lo hi (by omega) ⟨c, hc⟩ b hb
theorem h40_of {h k : Nat} (hk : 0 < k) (hl : k * pw h ≤ 2 ^ 40) : h ≤ 40 := Cv.pw40 (Nat.le_trans (by have := Nat.mul_le_mul_right (pw h) hk; rwa [Nat.one_mul] at this) hl)
/-- Mountains, one more at their end. -/
theorem cov_odd (h K : Nat) (hl : (2 * K + 1) * pw h ≤ 2 ^ 40) : cov 0 ((2 * K + 1) * pw h) = cov 0 (2 * K * pw h) ++ [(h, 2 * K)] := by
  have h40 := h40_of (by omega) hl
  have hp := pw_pos h
  have e1 : (2 * K + 1) * pw h = 2 * K * pw h + pw h := by rw [Nat.add_mul, Nat.one_mul]
  have e2 : 2 * K * pw h = K * pw (h + 1) := (Cv.mul_half K h).symm
  have hps := pw_succ h
  have h41 : pw 41 = 2 ^ 41 := rfl
  rw [cov_zero _ hl, cov_zero _ (by omega), dn_split (h + 1) 41 0 ((2 * K + 1) * pw h) (2 * K * pw h) (by omega) (by omega) ?_]
  · rw [Nat.zero_add]
    congr 1
    rw [dnL, if_pos (by omega), Nat.mul_div_cancel _ hp, ← e1, dn_nil]
  · rw [Nat.sub_zero, e1, e2]
    congr 1
    rw [Nat.add_comm, Nat.add_mul_div_right _ _ (pw_pos _), Nat.div_eq_of_lt (by omega), Nat.zero_add]
theorem cov_even (h K : Nat) (hl : 2 * K * pw h ≤ 2 ^ 40) : ∀ b ∈ cov 0 (2 * K * pw h), h < b.1 := by
  intro b hb
  have h41 : pw 41 = 2 ^ 41 := rfl
  rw [cov_zero _ hl] at hb
  exact dn_high (h + 1) 41 0 _ (by omega) ⟨K, by rw [Nat.sub_zero, Cv.mul_half]⟩ b hb
theorem cov_none : cov 0 0 = [] := Cv.cov_self 0
/-- The blocks of a kin. -/
def kb (m n : Nat) : List (Nat × Nat) := cov 0 m ++ cov m n
theorem kb_row {m n : Nat} (hm : m ≤ n) (hn : n ≤ 2 ^ 40) : Row n 0 (kb m n) := row_app (cov_row m n hm hn) (cov_row 0 m (Nat.zero_le _) (by omega))
theorem kb_len {m n : Nat} (hm : m ≤ n) (hn : n ≤ 2 ^ 40) : (kb m n).length ≤ 120 := by
  have h1 := Cv.cov_forty m (by omega)
  have h2 := Cv.cov_len m n hm hn
  rw [kb, List.length_append]; omega
theorem row_le {q : Nat} : ∀ {M : List (Nat × Nat)} {p : Nat}, Row q p M → p ≤ q
  | [], _, h => Nat.le_of_eq h
  | m :: M, p, h => by
    have := row_le h.2.2.2
    have h1 := Cv.blk_lt m.1 m.2
    have h2 := h.1
    omega
theorem row_from {q : Nat} : ∀ {M : List (Nat × Nat)} {p : Nat}, Row q p M → ∀ b ∈ M, p ≤ b.2 * pw b.1 ∧ (b.2 + 1) * pw b.1 ≤ q
  | [], _, _, b, hb => by cases hb
  | m :: M, p, h, b, hb => by
    rcases List.mem_cons.1 hb with rfl | hb
    · exact ⟨Nat.le_of_eq h.1, row_le h.2.2.2⟩
    · have := row_from h.2.2.2 b hb
      have h1 := Cv.blk_lt m.1 m.2
      have h2 := h.1
      exact ⟨by omega, this.2⟩
theorem row_end {q : Nat} : ∀ {L : List (Nat × Nat)} {p : Nat}, Row q p L → ∀ b ∈ L, ∀ b' ∈ L, (b.2 + 1) * pw b.1 = (b'.2 + 1) * pw b'.1 → b = b'
  | [], _, _, b, hb, _, _, _ => by cases hb
  | c :: L, p, h, b, hb, b', hb', he => by
    have hf := row_from h.2.2.2
    rcases List.mem_cons.1 hb with h1 | h1
    · rcases List.mem_cons.1 hb' with h2 | h2
      · rw [h1, h2]
      · have := hf b' h2
        have := Cv.blk_lt b'.1 b'.2
        rw [h1] at he
        omega
    · rcases List.mem_cons.1 hb' with h2 | h2
      · have := hf b h1
        have := Cv.blk_lt b.1 b.2
        rw [h2] at he
        omega
      · exact row_end h.2.2.2 b h1 b' h2 he
theorem row_ix {q : Nat} : ∀ {L : List (Nat × Nat)} {p : Nat}, Row q p L → ∀ i j, i < L.length → j < L.length → L.getD i (0, 0) = L.getD j (0, 0) → i = j
  | [], _, _, i, _, hi, _, _ => by cases hi
  | c :: L, p, h, i, j, hi, hj, he => by
    have hf := row_from h.2.2.2
    have key : ∀ t, t < L.length → L.getD t (0, 0) ≠ c := fun t ht e => by
      have hm : L.getD t (0, 0) ∈ L := by rw [List.getD_eq_getElem?_getD, List.getElem?_eq_getElem ht]; exact List.getElem_mem ht
      have h1 := hf _ hm
      rw [e] at h1
      have := Cv.blk_lt c.1 c.2
      omega
    rw [List.length_cons] at hi hj
    cases i with
    | zero =>
      cases j with
      | zero => rfl
      | succ j => rw [List.getD_cons_zero, List.getD_cons_succ] at he; exact absurd he.symm (key j (by omega))
    | succ i =>
      cases j with
      | zero => rw [List.getD_cons_zero, List.getD_cons_succ] at he; exact absurd he (key i (by omega))
      | succ j =>
        rw [List.getD_cons_succ, List.getD_cons_succ] at he
        rw [row_ix h.2.2.2 i j (by omega) (by omega) he]
/-- A block's digest, by the blocks of a proof. -/
def dgK (c : Nat) (L : List (Nat × Nat)) (D : List ByteArray) : Nat → Nat → ByteArray
  | 0, k => if (0, k) ∈ L then D.getD (L.idxOf (0, k)) ⟨#[]⟩ else ⟨#[]⟩
  | h + 1, k => if (h + 1, k) ∈ L then D.getD (L.idxOf (h + 1, k)) ⟨#[]⟩ else dg c (nodeT (dgK c L D h (2 * k)) (dgK c L D h (2 * k + 1)))
theorem idx_at {b : Nat × Nat} : ∀ {L : List (Nat × Nat)} {j : Nat}, j < L.length → L.getD j (0, 0) = b → (∀ t, t < j → L.getD t (0, 0) ≠ b) → L.idxOf b = j
  | [], _, hj, _, _ => by cases hj
  | a :: L, 0, _, h, _ => by
    have h : a = b := h
    subst h
    exact List.idxOf_cons_self
  | a :: L, j + 1, hj, h, hn => by
    have h0 : a ≠ b := hn 0 (by omega)
    have h1 : L.idxOf b = j := idx_at (show j < L.length by rw [List.length_cons] at hj; omega) (by rw [List.getD_cons_succ] at h; exact h) (fun t ht => by have := hn (t + 1) (by omega); rwa [List.getD_cons_succ] at this)
    rw [List.idxOf_cons, (beq_false_of_ne h0 : (a == b) = false), cond_false, h1]
theorem mem_getD {L : List (Nat × Nat)} {j : Nat} (hj : j < L.length) : L.getD j (0, 0) ∈ L := by
  rw [List.getD_eq_getElem?_getD, List.getElem?_eq_getElem hj]; exact List.getElem_mem hj
theorem dgK_in {c : Nat} {L : List (Nat × Nat)} {D : List ByteArray} {h k j : Nat} (hj : j < L.length) (hb : L.getD j (0, 0) = (h, k)) (hn : ∀ t, t < j → L.getD t (0, 0) ≠ (h, k)) : dgK c L D h k = D.getD j ⟨#[]⟩ := by
  have hm : (h, k) ∈ L := by rw [← hb]; exact mem_getD hj
  have hi := idx_at hj hb hn
  cases h with
  | zero => rw [dgK, if_pos hm, hi]
  | succ h => rw [dgK, if_pos hm, hi]
theorem dgK_at {c q p : Nat} {L : List (Nat × Nat)} {D : List ByteArray} (hr : Row q p L) {j : Nat} (hj : j < L.length) : dgK c L D (L.getD j (0, 0)).1 (L.getD j (0, 0)).2 = D.getD j ⟨#[]⟩ :=
  dgK_in hj rfl fun t ht e => by have := row_ix hr t j (by omega) hj e; omega
theorem dgK_zero {c : Nat} {L : List (Nat × Nat)} {D : List ByteArray} {k : Nat} (hn : (0, k) ∉ L) : dgK c L D 0 k = ⟨#[]⟩ := by rw [dgK, if_neg hn]
theorem dgK_node {c : Nat} {L : List (Nat × Nat)} {D : List ByteArray} {h k : Nat} (hn : (h + 1, k) ∉ L) : dgK c L D (h + 1) k = dg c (nodeT (dgK c L D h (2 * k)) (dgK c L D h (2 * k + 1))) := by rw [dgK, if_neg hn]
theorem dgK_size {c : Nat} (hc : c ≤ 32) {L : List (Nat × Nat)} {D : List ByteArray} (hD : ∀ d ∈ D, d.size ≤ 32) (h k : Nat) : (dgK c L D h k).size ≤ 32 := by
  have hg : ∀ i, (D.getD i ⟨#[]⟩).size ≤ 32 := fun i => by
    by_cases hi : i < D.length
    · rw [List.getD_eq_getElem?_getD, List.getElem?_eq_getElem hi]; exact hD _ (List.getElem_mem hi)
    · rw [List.getD_eq_getElem?_getD, List.getElem?_eq_none (by omega)]; exact Nat.zero_le _
  cases h with
  | zero => rw [dgK]; split; exact hg _; exact Nat.zero_le _
  | succ h => rw [dgK]; split; exact hg _; rw [dg_size hc]; exact hc
/-- What becomes of blocks that are joined: known of those that are given, made of the halves of the others. -/
structure Jn (c : Nat) (L : List (Nat × Nat)) (D : List ByteArray) (F : Nat → Nat → ByteArray) : Prop where
  at' : ∀ j, j < L.length → F (L.getD j (0, 0)).1 (L.getD j (0, 0)).2 = D.getD j ⟨#[]⟩
  up : ∀ h k, (h + 1, k) ∉ L → F (h + 1) k = dg c (nodeT (F h (2 * k)) (F h (2 * k + 1)))
  sz : ∀ h k, (F h k).size ≤ 32
theorem jn_dgK {c q p : Nat} (hc : c ≤ 32) {L : List (Nat × Nat)} {D : List ByteArray} (hr : Row q p L) (hD : ∀ d ∈ D, d.size ≤ 32) : Jn c L D (dgK c L D) :=
  ⟨fun _ hj => dgK_at hr hj, fun _ _ hn => dgK_node hn, dgK_size hc hD⟩
/-- Above a block that is given nothing is given. -/
theorem Jn.join {c q p : Nat} {L : List (Nat × Nat)} {D : List ByteArray} {F : Nat → Nat → ByteArray} (hJ : Jn c L D F) (hr : Row q p L) {h k : Nat} (hb : (h, k) ∈ L) {h' K : Nat} (hh : h ≤ h') (he : (K + 1) * pw (h' + 1) = (k + 1) * pw h) : F (h' + 1) K = dg c (nodeT (F h' (2 * K)) (F h' (2 * K + 1))) :=
  hJ.up h' K fun hm => by
    have := row_end hr _ hm _ hb he
    injection this with h1 _
    omega
end Go.Proofs.YtdkcliblbaldhaaDoor
