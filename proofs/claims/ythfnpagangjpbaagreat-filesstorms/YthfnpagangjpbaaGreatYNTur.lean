/-
  Records that are cut, or of which one byte is another one. Own work.
-/
import Derived.Test.YthfnpagangjpbaaGreatZ04
namespace Go.Proofs.YthfnpagangjpbaaGreat.Rc
theorem pay_four (x : List UInt8) : (pay x).take 4 = big 4 x.length := by
  rw [pay, sld, List.append_assoc, List.take_append_of_le_length (by rw [big_len]; exact Nat.le_refl _), List.take_of_length_le (by rw [big_len]; exact Nat.le_refl _)]
theorem cut_pay (x : List UInt8) (k : Nat) (hx : x.length ≤ 1048576) (hk : k < (pay x).length) : rpay ((pay x).take k) = none := by
  rw [pay_len] at hk
  have hl : ((pay x).take k).length = k := by rw [List.length_take, pay_len]; omega
  refine if_neg fun q => ?_
  obtain ⟨q1, q2, q3, _⟩ := q
  rw [hl] at q1 q3
  rw [List.take_take, Nat.min_eq_left q1, pay_four, num_big_lt _ _ (by omega)] at q3
  omega
theorem turned_pay (x : List UInt8) (k : Nat) (y : UInt8) (hx : x.length ≤ 1048576) (h4 : 4 ≤ k) (hk : k < (pay x).length) (hy : y ≠ (pay x).getD k 0) : rpay ((pay x).set k y) = none := by
  cases h : rpay ((pay x).set k y) with
  | none => rfl
  | some z =>
    obtain ⟨z1, z2, z3, z4⟩ := rpay_len h
    have e4 : ((pay x).set k y).take 4 = (pay x).take 4 := by rw [List.take_set, List.set_eq_of_length_le (by simp; omega)]
    rw [e4, pay_four, num_big_lt _ _ (by omega)] at z4
    rw [← z4, List.take_of_length_le (by rw [List.length_set, pay_len]; exact Nat.le_refl _)] at z3
    exact absurd z3 (sld_turned _ _ k y (by have := pay_len x; rw [pay_len] at hk; simp [big_len]; omega) hy)
theorem cut_nod (K p : Nat) (s : List UInt8) (h : s.length ≠ 40) : rnod K p s = none := if_neg fun q => h q.1
theorem turned_nod (K p q : Nat) (d : List UInt8) (k : Nat) (y : UInt8) (hd : d.length ≤ 32) (hk : k < 40) (hy : y ≠ (nod p d).getD k 0) : rnod K q ((nod p d).set k y) = none := by
  refine if_neg fun h => ?_
  exact absurd h.2 (sld_turned _ _ k y (by simp [big_len, zer_len]; omega) hy)
theorem cut_mrk (s : List UInt8) (h : s.length ≠ 64) : rmrk s = none := if_neg fun q => h q.1
theorem turned_mrk (m : MV) (k : Nat) (y : UInt8) (hm : 1 ≤ m.k ∧ m.k ≤ 32) (hk : k < 64) (hy : y ≠ (mrk m).getD k 0) : rmrk ((mrk m).set k y) = none := by
  refine if_neg fun h => ?_
  have e : mrk m = sld (bodyM m.k.toNat m.size m.items m.nodes m.chain.toNat) := if_pos hm
  obtain ⟨h1, h2⟩ := h
  rw [e] at h1 h2 hy
  generalize mOf _ = M at h2
  unfold mrk at h2
  split at h2
  · exact absurd h2 (sld_turned _ _ k y (by rw [bodyM_len]; omega) hy)
  · rw [← h2] at h1
    simp at h1
end Go.Proofs.YthfnpagangjpbaaGreat.Rc
