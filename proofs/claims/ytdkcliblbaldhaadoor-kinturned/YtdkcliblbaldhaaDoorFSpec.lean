/-
  A forest's nodes by block: what one item more brings; its mountains. Own work.
-/
import Derived.Test.YtdkcliblbaldhaaDoorPSpec
import Derived.Test.YtdkcliblbaldhaaDoorKSpec
import Derived.Test.YtdkcliblbaldhaaDoorFMap
import Derived.Test.YtdkcliblbaldhaaDoorC0
namespace Go.Proofs.YtdkcliblbaldhaaDoor
open Go.RowKit
open Pl (ones pw)
/-- What stands at each block behind the items L. -/
def ff (c : Nat) (L : List ByteArray) (h : Int) (k : Nat) : Option ByteArray := if 0 ≤ h ∧ (k + 1) * 2 ^ h.toNat ≤ L.length then some (nd c L h.toNat k) else none
/-- .. with the new blocks up to the height j. -/
def fj (c : Nat) (L : List ByteArray) (x : ByteArray) (j : Nat) (h : Int) (k : Nat) : Option ByteArray := if 0 ≤ h ∧ h ≤ (j : Int) ∧ (k + 1) * 2 ^ h.toNat = L.length + 1 then some (nd c (L ++ [x]) h.toNat k) else ff c L h k
theorem nd_app (c : Nat) (L M : List ByteArray) (h k : Nat) (hk : (k + 1) * 2 ^ h ≤ L.length) : nd c (L ++ M) h k = nd c L h k := by
  refine nd_alike h k k fun t ht => ?_
  rw [List.getD_eq_getElem?_getD, List.getD_eq_getElem?_getD, List.getElem?_append_left]
  rw [Nat.add_mul, Nat.one_mul] at hk
  omega
theorem nd_pre (c : Nat) (L : List ByteArray) (n h k : Nat) (hk : (k + 1) * 2 ^ h ≤ n) (hn : n ≤ L.length) : nd c (L.take n) h k = nd c L h k := by
  have := nd_app c (L.take n) (L.drop n) h k (by rw [List.length_take]; omega)
  rw [List.take_append_drop] at this
  exact this.symm
theorem ff_nat (c : Nat) (L : List ByteArray) (h k : Nat) (hk : (k + 1) * 2 ^ h ≤ L.length) : ff c L (h : Int) k = some (nd c L h k) := by
  rw [ff, if_pos ⟨Int.natCast_nonneg _, by rw [Int.toNat_natCast]; exact hk⟩, Int.toNat_natCast]
theorem ff_no (c : Nat) (L : List ByteArray) (h k : Nat) (hk : ¬ (k + 1) * 2 ^ h ≤ L.length) : ff c L (h : Int) k = none := by
  rw [ff, if_neg]
  rw [Int.toNat_natCast]
  exact fun x => hk x.2
theorem ff_size {c : Nat} (hc : c ≤ 32) {L : List ByteArray} {h : Int} {k : Nat} {s : ByteArray} (e : ff c L h k = some s) : s.size = c := by
  rw [ff] at e
  split at e
  · injection e with e
    rw [← e, nd_size hc]
  · cases e
theorem fj_start (c : Nat) (L : List ByteArray) (x : ByteArray) : put (ff c L) 0 L.length (nd c (L ++ [x]) 0 L.length) = fj c L x 0 := by
  funext h k
  rw [put, fj]
  by_cases e : h = 0 ∧ k = L.length
  · obtain ⟨rfl, rfl⟩ := e
    rw [if_pos ⟨rfl, rfl⟩, if_pos ⟨by decide, by decide, by simp⟩]
    rfl
  · rw [if_neg e, if_neg]
    rintro ⟨h0, h1, h2⟩
    obtain rfl : h = 0 := by simp at h1; omega
    simp at h2
    exact e ⟨rfl, h2⟩
/-- The last block at a height that it fills. -/
theorem last_at {n j q : Nat} (hq : n = 2 ^ j * q) : n / 2 ^ j = q := by
  rw [hq, Nat.mul_div_cancel_left _ (Nat.two_pow_pos j)]
theorem fj_step (c : Nat) (L : List ByteArray) (x : ByteArray) (j q : Nat) (hq : L.length + 1 = 2 ^ (j + 1) * (q + 1)) : put (fj c L x j) ((j + 1 : Nat) : Int) q (nd c (L ++ [x]) (j + 1) q) = fj c L x (j + 1) := by
  funext h k
  rw [put]
  by_cases e : h = ((j + 1 : Nat) : Int) ∧ k = q
  · obtain ⟨rfl, rfl⟩ := e
    rw [if_pos ⟨rfl, rfl⟩, fj, Int.toNat_natCast, if_pos ⟨by omega, Int.le_refl _, by rw [hq, Nat.mul_comm]⟩]
  · rw [if_neg e, fj, fj]
    by_cases g : 0 ≤ h ∧ h ≤ (j : Int) ∧ (k + 1) * 2 ^ h.toNat = L.length + 1
    · rw [if_pos g, if_pos ⟨g.1, by omega, g.2.2⟩]
    · rw [if_neg g, if_neg]
      rintro ⟨h0, h1, h2⟩
      by_cases hj : h ≤ (j : Int)
      · exact g ⟨h0, hj, h2⟩
      · obtain rfl : h = ((j + 1 : Nat) : Int) := by omega
        rw [Int.toNat_natCast, hq, Nat.mul_comm] at h2
        have := Nat.eq_of_mul_eq_mul_left (Nat.two_pow_pos (j + 1)) h2
        exact e ⟨rfl, by omega⟩
theorem fj_end (c : Nat) (L : List ByteArray) (x : ByteArray) (t : Nat) (hn : L.length < 65536) (ht : tr 64 (L.length + 1) = t) : fj c L x t = ff c (L ++ [x]) := by
  funext h k
  rw [fj, show ff c (L ++ [x]) h k = if 0 ≤ h ∧ (k + 1) * 2 ^ h.toNat ≤ L.length + 1 then some (nd c (L ++ [x]) h.toNat k) else none by rw [ff, List.length_append, List.length_singleton]]
  by_cases h0 : 0 ≤ h
  · obtain ⟨i, rfl⟩ : ∃ i : Nat, h = (i : Int) := ⟨h.toNat, by omega⟩
    rw [Int.toNat_natCast]
    by_cases g : (k + 1) * 2 ^ i ≤ L.length
    · rw [if_neg (by rintro ⟨_, _, e⟩; omega), if_pos ⟨h0, by omega⟩, ff_nat c L i k g, nd_app c L _ i k g]
    · by_cases g2 : (k + 1) * 2 ^ i = L.length + 1
      · have hi : i ≤ 64 := by
          apply Nat.le_of_not_lt
          intro hlt
          have h1 : 2 ^ 64 ≤ 2 ^ i := Nat.pow_le_pow_right (by decide) (by omega)
          have h2 : 2 ^ i ≤ (k + 1) * 2 ^ i := Nat.le_mul_of_pos_left _ (by omega)
          omega
        have := (tr_lt 64 i (L.length + 1) hi).1
        rw [ht, ← g2, Nat.mul_mod_left] at this
        have hit : (i : Int) ≤ (t : Int) := Int.ofNat_le.2 (Nat.le_of_not_lt fun hx => this hx rfl)
        rw [if_pos ⟨h0, hit, g2⟩, if_pos ⟨h0, by omega⟩]
      · rw [if_neg (by rintro ⟨_, _, e⟩; exact g2 e), if_neg (by rintro ⟨_, e⟩; omega), ff_no c L i k g]
  · rw [if_neg (by rintro ⟨e, _⟩; exact h0 e), if_neg (by rintro ⟨e, _⟩; exact h0 e), ff, if_neg (by rintro ⟨e, _⟩; exact h0 e)]
/-- The left half of the block that the new item fills. -/
theorem fj_left (c : Nat) (L : List ByteArray) (x : ByteArray) (j q : Nat) (hq : L.length + 1 = 2 ^ (j + 1) * (q + 1)) : fj c L x j (j : Int) (2 * q) = some (nd c (L ++ [x]) j (2 * q)) := by
  have hp := Nat.two_pow_pos j
  rw [Nat.pow_succ, Nat.mul_assoc, Nat.mul_comm] at hq
  have e1 : (2 * q + 1) * 2 ^ j + 2 ^ j = L.length + 1 := by
    rw [hq]
    have : 2 * (q + 1) = 2 * q + 1 + 1 := by omega
    rw [this, Nat.add_mul (2 * q + 1), Nat.one_mul]
  rw [fj, if_neg, ff_nat c L j (2 * q) (by omega), nd_app c L _ j (2 * q) (by omega)]
  rw [Int.toNat_natCast]
  rintro ⟨_, _, e⟩
  omega
/-- The digests of the new nodes, up to a height. -/
def nw (c : Nat) (M : List ByteArray) (t : Nat) : List ByteArray := (List.range (t + 1)).map fun j => nd c M j (M.length / 2 ^ j - 1)
theorem nw_len (c : Nat) (M : List ByteArray) (t : Nat) : (nw c M t).length = t + 1 := by simp [nw]
theorem nw_succ (c : Nat) (M : List ByteArray) (t : Nat) : nw c M (t + 1) = nw c M t ++ [nd c M (t + 1) (M.length / 2 ^ (t + 1) - 1)] := by
  simp [nw, List.range_succ]
theorem nw_zero (c : Nat) (M : List ByteArray) : nw c M 0 = [nd c M 0 (M.length - 1)] := by
  simp [nw, List.range_succ]
theorem nw_size {c : Nat} (hc : c ≤ 32) (M : List ByteArray) (t : Nat) : ∀ s ∈ nw c M t, s.size = c := by
  intro s hs
  obtain ⟨j, _, rfl⟩ := List.mem_map.1 hs
  exact nd_size hc _ _ _
/-- How far the new item reaches. -/
theorem tr_div {n t j : Nat} (ht : tr 64 n = t) (hj : j ≤ t) : ∃ q, n = 2 ^ j * q := by
  have h64 := tr_le 64 n
  have h1 := (tr_lt 64 j n (by omega)).2
  have hm : n % 2 ^ j = 0 := by
    apply Classical.byContradiction
    intro h
    have := h1 h
    omega
  exact ⟨n / 2 ^ j, (Nat.mul_div_cancel' (Nat.dvd_of_mod_eq_zero hm)).symm⟩
theorem tr_small {n : Nat} (h1 : 0 < n) (h2 : n ≤ 65536) : tr 64 n ≤ 16 := by
  apply Nat.le_of_not_lt
  intro h
  obtain ⟨q, hq⟩ := tr_div (n := n) (t := tr 64 n) (j := 17) rfl (by omega)
  have : (2 : Nat) ^ 17 = 131072 := by decide
  rw [this] at hq
  omega
/-- A list's mountains are its peaks' blocks. -/
theorem dn_peaks (c : Nat) (L : List ByteArray) : ∀ (h lo : Nat), lo = L.length / 2 ^ h * 2 ^ h → (Cv.dnL h lo L.length).map (fun b => nd c L b.1 b.2) = pks c L h ∧ ∀ b ∈ Cv.dnL h lo L.length, (b.2 + 1) * 2 ^ b.1 ≤ L.length
  | 0, lo, _ => ⟨rfl, fun b hb => by cases hb⟩
  | h + 1, lo, hlo => by
    have hp := Nat.two_pow_pos h
    have e2 : 2 ^ (h + 1) = 2 * 2 ^ h := by rw [Nat.pow_succ, Nat.mul_comm]
    have d1 := Nat.div_add_mod L.length (2 ^ h)
    have d2 := Nat.div_add_mod (L.length / 2 ^ h) 2
    have d3 : L.length / 2 ^ (h + 1) = L.length / 2 ^ h / 2 := by rw [Nat.pow_succ, Nat.div_div_eq_div_mul]
    have m1 := Nat.mod_lt L.length hp
    rw [d3, e2] at hlo
    generalize hX : L.length / 2 ^ h = X at *
    have hlo2 : lo = (2 * (X / 2)) * 2 ^ h := by rw [hlo, Nat.mul_comm 2 (X / 2), Nat.mul_assoc]
    have e3 : 2 ^ h * X = X * 2 ^ h := Nat.mul_comm _ _
    rw [Cv.dnL, show pw h = 2 ^ h from rfl]
    by_cases hb : X % 2 = 1
    · have hX2 : X = 2 * (X / 2) + 1 := by omega
      have e4 : X * 2 ^ h = lo + 2 ^ h := by rw [hlo2]; conv => lhs; rw [hX2, Nat.add_mul, Nat.one_mul]
      have hlt : 2 ^ h ≤ L.length - lo := by omega
      have e5 : lo / 2 ^ h = 2 * (X / 2) := by rw [hlo2, Nat.mul_div_cancel _ hp]
      obtain ⟨r1, r2⟩ := dn_peaks c L h (lo + 2 ^ h) (by rw [hX, ← e4])
      rw [if_pos hlt, pks_one (by rw [hX]; exact hb), List.map_cons, r1, e5, hX]
      refine ⟨by rw [show X - 1 = 2 * (X / 2) by omega], fun b hbm => ?_⟩
      rcases List.mem_cons.1 hbm with rfl | hbm
      · show (2 * (X / 2) + 1) * 2 ^ h ≤ _
        rw [← hX2]; omega
      · exact r2 b hbm
    · have hX2 : X = 2 * (X / 2) := by omega
      have e4 : X * 2 ^ h = lo := by rw [hlo2]; conv => lhs; rw [hX2]
      have hlt : ¬ 2 ^ h ≤ L.length - lo := by omega
      obtain ⟨r1, r2⟩ := dn_peaks c L h lo (by rw [hX, ← e4])
      rw [if_neg hlt, pks_none (by rw [hX]; exact hb)]
      exact ⟨r1, r2⟩
theorem cov_peaks (c : Nat) (L : List ByteArray) (n : Nat) (hn : n ≤ L.length) (h40 : n ≤ 2 ^ 40) : (Cv.cov 0 n).map (fun b => nd c L b.1 b.2) = pks c (L.take n) 41 ∧ ∀ b ∈ Cv.cov 0 n, (b.2 + 1) * 2 ^ b.1 ≤ n := by
  have hl : (L.take n).length = n := by rw [List.length_take]; omega
  have hz : 0 = (L.take n).length / 2 ^ 41 * 2 ^ 41 := by rw [hl, Nat.div_eq_of_lt (by omega), Nat.zero_mul]
  obtain ⟨r1, r2⟩ := dn_peaks c (L.take n) 41 0 hz
  rw [hl] at r1 r2
  rw [Cv.cov_zero n h40]
  refine ⟨?_, r2⟩
  rw [← r1]
  refine List.map_congr_left fun b hb => ?_
  exact (nd_pre c L n b.1 b.2 (r2 b hb) hn).symm
end Go.Proofs.YtdkcliblbaldhaaDoor
