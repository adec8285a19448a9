/-
  Nodes, peaks and rows of nodes of a list, by the definition. Own work.
-/
import Derived.Test.YtdkcliblbaldhaaDoorHWalkC
namespace Go.Proofs.YtdkcliblbaldhaaDoor
open Go.RowKit
/-- The node of a block, by the definition. -/
def nd (c : Nat) (L : List ByteArray) : Nat → Nat → ByteArray
  | 0, i => dg c (leafT (L.getD i ByteArray.empty))
  | h + 1, i => dg c (nodeT (nd c L h (2 * i)) (nd c L h (2 * i + 1)))
theorem nd_size {c : Nat} (hc : c ≤ 32) (L : List ByteArray) (h i : Nat) : (nd c L h i).size = c := by
  cases h with
  | zero => rw [nd, dg_size hc]
  | succ h => rw [nd, dg_size hc]
theorem nd_alike {c : Nat} {L M : List ByteArray} : ∀ (h i j : Nat), (∀ t, t < 2 ^ h → L.getD (i * 2 ^ h + t) ByteArray.empty = M.getD (j * 2 ^ h + t) ByteArray.empty) → nd c L h i = nd c M h j
  | 0, i, j, e => by
    have := e 0 (by decide)
    simp only [Nat.pow_zero, Nat.mul_one, Nat.add_zero] at this
    rw [nd, nd, this]
  | h + 1, i, j, e => by
    have p : 2 ^ (h + 1) = 2 * 2 ^ h := by rw [Nat.pow_succ]; omega
    rw [nd, nd, nd_alike h (2 * i) (2 * j), nd_alike h (2 * i + 1) (2 * j + 1)]
    · intro t ht
      have := e (2 ^ h + t) (by omega)
      rw [p] at this
      rw [show (2 * i + 1) * 2 ^ h + t = i * (2 * 2 ^ h) + (2 ^ h + t) by rw [Nat.add_mul, Nat.mul_assoc, Nat.mul_left_comm]; omega, show (2 * j + 1) * 2 ^ h + t = j * (2 * 2 ^ h) + (2 ^ h + t) by rw [Nat.add_mul, Nat.mul_assoc, Nat.mul_left_comm]; omega]
      exact this
    · intro t ht
      have := e t (by omega)
      rw [p] at this
      rw [show 2 * i * 2 ^ h + t = i * (2 * 2 ^ h) + t by rw [Nat.mul_assoc, Nat.mul_left_comm], show 2 * j * 2 ^ h + t = j * (2 * 2 ^ h) + t by rw [Nat.mul_assoc, Nat.mul_left_comm]]
      exact this
theorem getD_cut (L : List ByteArray) (a n t : Nat) (h : t < n) : ((L.drop a).take n).getD t ByteArray.empty = L.getD (a + t) ByteArray.empty := by
  rw [List.getD_eq_getElem?_getD, List.getD_eq_getElem?_getD, List.getElem?_take_of_lt h, List.getElem?_drop]
/-- A block's node is that of its items alone. -/
theorem nd_cut (c : Nat) (L : List ByteArray) (h i : Nat) : nd c ((L.drop (i * 2 ^ h)).take (2 ^ h)) h 0 = nd c L h i :=
  nd_alike h 0 i fun t ht => by rw [Nat.zero_mul, Nat.zero_add, getD_cut _ _ _ _ ht]
theorem getD_first (L M : List ByteArray) (n t : Nat) (hn : n ≤ L.length) (h : t < n) : (L.take n).getD t ByteArray.empty = (L ++ M).getD t ByteArray.empty := by
  rw [List.getD_eq_getElem?_getD, List.getD_eq_getElem?_getD, List.getElem?_take_of_lt h, List.getElem?_append_left (by omega)]
/-- The peaks from the height h down. -/
def pks (c : Nat) (L : List ByteArray) : Nat → List ByteArray
  | 0 => []
  | h + 1 => (if L.length / 2 ^ h % 2 = 1 then [nd c L h (L.length / 2 ^ h - 1)] else []) ++ pks c L h
theorem pks_one {c : Nat} {L : List ByteArray} {h : Nat} (e : L.length / 2 ^ h % 2 = 1) : pks c L (h + 1) = nd c L h (L.length / 2 ^ h - 1) :: pks c L h := by rw [pks, if_pos e]; rfl
theorem pks_none {c : Nat} {L : List ByteArray} {h : Nat} (e : L.length / 2 ^ h % 2 ≠ 1) : pks c L (h + 1) = pks c L h := by rw [pks, if_neg e]; rfl
theorem pks_len (c : Nat) (L : List ByteArray) : ∀ h, (pks c L h).length ≤ h
  | 0 => Nat.le_refl _
  | h + 1 => by
    have := pks_len c L h
    by_cases e : L.length / 2 ^ h % 2 = 1
    · rw [pks_one e, List.length_cons]; omega
    · rw [pks_none e]; omega
theorem pks_size {c : Nat} (hc : c ≤ 32) (L : List ByteArray) : ∀ h, ∀ s ∈ pks c L h, s.size = c
  | 0 => by intro s hs; cases hs
  | h + 1 => by
    intro s hs
    have := pks_size hc L h
    by_cases e : L.length / 2 ^ h % 2 = 1
    · rw [pks_one e] at hs
      rcases List.mem_cons.1 hs with rfl | hs
      · exact nd_size hc _ _ _
      · exact this s hs
    · rw [pks_none e] at hs
      exact this s hs
theorem below_two {n h : Nat} (e : n < 2 ^ h) : n / 2 ^ h % 2 ≠ 1 := by rw [Nat.div_eq_of_lt e]; decide
theorem bit_mod {n g s : Nat} (h : s < g) : n % 2 ^ g / 2 ^ s % 2 = n / 2 ^ s % 2 := by
  obtain ⟨d, rfl⟩ : ∃ d, g = s + (d + 1) := ⟨g - s - 1, by omega⟩
  rw [Nat.pow_add, Nat.mod_mul_right_div_self, Nat.pow_succ, Nat.mul_comm, Nat.mod_mul_right_mod]
/-- No mountain stands between the height s + 1 and the height g. -/
theorem pks_skip {c : Nat} {L : List ByteArray} {s : Nat} : ∀ d, L.length % 2 ^ (s + d) < 2 ^ s → pks c L (s + d) = pks c L s
  | 0, _ => rfl
  | d + 1, h => by
    have hs : 2 ^ s ≤ 2 ^ (s + d) := Nat.pow_le_pow_right (by decide) (by omega)
    have h2 : L.length % 2 ^ (s + (d + 1)) / 2 ^ (s + d) % 2 ≠ 1 := below_two (by omega)
    rw [bit_mod (by omega)] at h2
    rw [show s + (d + 1) = s + d + 1 by omega, pks_none h2]
    refine pks_skip d ?_
    have : L.length % 2 ^ (s + d) = L.length % 2 ^ (s + (d + 1)) % 2 ^ (s + d) := by
      rw [show s + (d + 1) = (s + d) + 1 by omega, Nat.pow_succ, Nat.mod_mul_right_mod]
    rw [this, Nat.mod_eq_of_lt (Nat.lt_of_lt_of_le h hs)]
    exact h
/-- The next mountain: what is left of the length has its highest one at s. -/
theorem top_bit {n g s : Nat} (h1 : 2 ^ s ≤ n % 2 ^ g) (h2 : n % 2 ^ g < 2 ^ (s + 1)) : s < g ∧ n / 2 ^ s % 2 = 1 ∧ n % 2 ^ g = n % 2 ^ (s + 1) ∧ n % 2 ^ (s + 1) = 2 ^ s + n % 2 ^ s := by
  have hsg : s < g := by
    apply Nat.lt_of_not_le
    intro hle
    have := Nat.pow_le_pow_right (n := 2) (by decide) hle
    have := Nat.mod_lt n (Nat.two_pow_pos g)
    omega
  have e1 : n % 2 ^ g = n % 2 ^ (s + 1) := by
    have := Nat.mod_mod_of_dvd n (Nat.pow_dvd_pow 2 (show s + 1 ≤ g by omega))
    rw [← this, Nat.mod_eq_of_lt h2]
  rw [e1] at h1 h2
  have e2 : n / 2 ^ s % 2 = 1 := by
    rw [← bit_mod (show s < s + 1 by omega)]
    have : n % 2 ^ (s + 1) / 2 ^ s = 1 := by
      have hp : 2 ^ (s + 1) = 2 ^ s * 2 := Nat.pow_succ ..
      rw [Nat.div_eq_iff (Nat.two_pow_pos s)]
      generalize n % 2 ^ (s + 1) = m at *
      omega
    rw [this]
  refine ⟨hsg, e2, e1, ?_⟩
  rw [Nat.pow_succ, Nat.mod_mul, e2]
  omega
theorem pks_next {c : Nat} {L : List ByteArray} {g s : Nat} (h1 : 2 ^ s ≤ L.length % 2 ^ g) (h2 : L.length % 2 ^ g < 2 ^ (s + 1)) : pks c L g = nd c L s (L.length / 2 ^ s - 1) :: pks c L s := by
  obtain ⟨hsg, e2, e1, _⟩ := top_bit h1 h2
  obtain ⟨d, rfl⟩ : ∃ d, g = s + 1 + d := ⟨g - s - 1, by omega⟩
  rw [pks_skip d (by rw [e1, ← e1]; exact h2), pks_one e2]
theorem pks_zero {c : Nat} {L : List ByteArray} {g : Nat} (h : L.length % 2 ^ g = 0) : pks c L g = [] := by
  have := pks_skip (c := c) (L := L) (s := 0) g (by rw [Nat.zero_add, h]; decide)
  rw [Nat.zero_add] at this
  rw [this, pks]
/-- The mountain at the height s begins behind the elder ones. -/
theorem mount_at {n s : Nat} (e : n / 2 ^ s % 2 = 1) : (n / 2 ^ s - 1) * 2 ^ s = n - n % 2 ^ (s + 1) ∧ 1 ≤ n / 2 ^ s := by
  have h1 : 1 ≤ n / 2 ^ s := by
    generalize n / 2 ^ s = x at *
    omega
  refine ⟨?_, h1⟩
  have := Nat.div_add_mod n (2 ^ s)
  rw [Nat.pow_succ, Nat.mod_mul, e, Nat.sub_mul, Nat.mul_comm (n / 2 ^ s)]
  omega
/-- Peaks of the same items are the same. -/
theorem pks_alike {c : Nat} {L M : List ByteArray} (hl : L.length = M.length) (he : ∀ t, t < L.length → L.getD t ByteArray.empty = M.getD t ByteArray.empty) : ∀ h, pks c L h = pks c M h
  | 0 => rfl
  | h + 1 => by
    rw [pks, pks, pks_alike hl he h, ← hl]
    by_cases e : L.length / 2 ^ h % 2 = 1
    · rw [if_pos e, if_pos e, nd_alike h (L.length / 2 ^ h - 1) (L.length / 2 ^ h - 1)]
      intro t ht
      obtain ⟨e1, e2⟩ := mount_at e
      refine he _ ?_
      have := Nat.div_add_mod L.length (2 ^ h)
      rw [Nat.sub_mul, Nat.mul_comm]
      have : 2 ^ h * 1 ≤ 2 ^ h * (L.length / 2 ^ h) := Nat.mul_le_mul_left _ e2
      omega
    · rw [if_neg e, if_neg e]
/-- A block within the list. -/
theorem within {n h k : Nat} : k < n / 2 ^ h ↔ (k + 1) * 2 ^ h ≤ n := by
  rw [Nat.lt_iff_add_one_le, Nat.le_div_iff_mul_le (Nat.two_pow_pos h)]
/-- A row of nodes of one height. -/
def rowN (c : Nat) (L : List ByteArray) (h m : Nat) : List ByteArray := (List.range m).map (nd c L h)
theorem rowN_len (c : Nat) (L : List ByteArray) (h m : Nat) : (rowN c L h m).length = m := by simp [rowN]
theorem rowN_at (c : Nat) (L : List ByteArray) (h m : Nat) {j : Nat} (hj : j < m) : (rowN c L h m).getD j ByteArray.empty = nd c L h j := by
  simp [rowN, List.getD_eq_getElem?_getD, hj]
theorem rowN_more (c : Nat) (L : List ByteArray) (h m : Nat) : rowN c L h m ++ [nd c L h m] = rowN c L h (m + 1) := by
  simp [rowN, List.range_succ]
theorem rowN_size {c : Nat} (hc : c ≤ 32) (L : List ByteArray) (h m : Nat) : ∀ s ∈ rowN c L h m, s.size = c := by
  intro s hs
  obtain ⟨i, _, rfl⟩ := List.mem_map.1 hs
  exact nd_size hc _ _ _
end Go.Proofs.YtdkcliblbaldhaaDoor
