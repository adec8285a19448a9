/-
  Where an item stands among the mountains; what its leaf becomes; the texts on its way. Own work.
-/
import Derived.Test.YtdkcliblbaldhaaDoorFSpec
namespace Go.Proofs.YtdkcliblbaldhaaDoor
open Go.RowKit
/-- Where the item i stands within n: the mountains at the left, its mountain's height, the mountains at the right. -/
structure Wy (n i : Nat) (A : List (Nat × Nat)) (H : Nat) (B : List (Nat × Nat)) : Prop where
  all : Cv.dnL 41 0 n = A ++ (H, i / 2 ^ H) :: B
  hH : H ≤ 40
  left : ∀ a ∈ A, (a.2 + 1) * 2 ^ a.1 ≤ i
  right : ∀ b ∈ B, i < b.2 * 2 ^ b.1
theorem dn_ge (n : Nat) : ∀ h lo, 2 ^ h ∣ lo → ∀ b ∈ Cv.dnL h lo n, lo ≤ b.2 * 2 ^ b.1
  | 0, lo, _, b, hb => by cases hb
  | h + 1, lo, hd, b, hb => by
    have hp := Nat.two_pow_pos h
    have hd' : 2 ^ h ∣ lo := Nat.dvd_trans (Nat.pow_dvd_pow 2 (by omega)) hd
    rw [Cv.dnL, show Pl.pw h = 2 ^ h from rfl] at hb
    split at hb
    · rcases List.mem_cons.1 hb with rfl | hb
      · show lo ≤ lo / 2 ^ h * 2 ^ h
        rw [Nat.div_mul_cancel hd']
        exact Nat.le_refl _
      · have := dn_ge n h (lo + 2 ^ h) (Nat.dvd_add hd' (Nat.dvd_refl _)) b hb
        omega
    · exact dn_ge n h lo hd' b hb
theorem dn_has (n i : Nat) (hi : i < n) : ∀ h lo, lo ≤ i → n - lo < 2 ^ h → 2 ^ h ∣ lo → ∃ A H B, Cv.dnL h lo n = A ++ (H, i / 2 ^ H) :: B ∧ H < h ∧ (∀ a ∈ A, (a.2 + 1) * 2 ^ a.1 ≤ i) ∧ ∀ b ∈ B, i < b.2 * 2 ^ b.1
  | 0, lo, h1, h2, _ => by rw [Nat.pow_zero] at h2; omega
  | h + 1, lo, h1, h2, hd => by
    have hp := Nat.two_pow_pos h
    have hd' : 2 ^ h ∣ lo := Nat.dvd_trans (Nat.pow_dvd_pow 2 (by omega)) hd
    have hd2 : 2 ^ h ∣ lo + 2 ^ h := Nat.dvd_add hd' (Nat.dvd_refl _)
    rw [Nat.pow_succ] at h2
    rw [Cv.dnL, show Pl.pw h = 2 ^ h from rfl]
    by_cases hf : 2 ^ h ≤ n - lo
    · rw [if_pos hf]
      by_cases hm : i < lo + 2 ^ h
      · refine ⟨[], h, Cv.dnL h (lo + 2 ^ h) n, ?_, by omega, (fun a ha => by cases ha), fun b hb => ?_⟩
        · have : i / 2 ^ h = lo / 2 ^ h := by
            obtain ⟨q, rfl⟩ := hd'
            rw [Nat.mul_div_cancel_left _ hp]
            exact Nat.div_eq_of_lt_le (by rw [Nat.mul_comm]; omega) (by rw [Nat.add_mul, Nat.mul_comm]; omega)
          rw [this]; rfl
        · have := dn_ge n h _ hd2 b hb
          omega
      · obtain ⟨A, H, B, e, hH, hl, hr⟩ := dn_has n i hi h (lo + 2 ^ h) (by omega) (by omega) hd2
        refine ⟨(h, lo / 2 ^ h) :: A, H, B, by rw [e]; rfl, by omega, fun a ha => ?_, hr⟩
        rcases List.mem_cons.1 ha with rfl | ha
        · show (lo / 2 ^ h + 1) * 2 ^ h ≤ i
          rw [Nat.add_mul, Nat.div_mul_cancel hd']
          omega
        · exact hl a ha
    · rw [if_neg hf]
      obtain ⟨A, H, B, e, hH, hl, hr⟩ := dn_has n i hi h lo h1 (by omega) hd'
      exact ⟨A, H, B, e, by omega, hl, hr⟩
theorem wy_ex (n i : Nat) (hn : n ≤ 2 ^ 40) (hi : i < n) : ∃ A H B, Wy n i A H B := by
  obtain ⟨A, H, B, e, hH, hl, hr⟩ := dn_has n i hi 41 0 (Nat.zero_le _) (by omega) (Nat.dvd_zero _)
  exact ⟨A, H, B, e, by omega, hl, hr⟩
section
variable {n i H : Nat} {A B : List (Nat × Nat)}
theorem Wy.len (h : Wy n i A H B) : A.length + B.length ≤ 40 := by
  have := Cv.dn_len 41 0 n
  rw [h.all, List.length_append, List.length_cons] at this
  omega
/-- Where i stands in blocks at the left and at the right. -/
theorem Wy.no_left (h : Wy n i A H B) {a : Nat × Nat} (ha : a ∈ A) : a.2 < i / 2 ^ a.1 := by
  have := h.left a ha
  exact (Nat.le_div_iff_mul_le (Nat.two_pow_pos _)).2 this
theorem Wy.no_right (h : Wy n i A H B) {b : Nat × Nat} (hb : b ∈ B) : i / 2 ^ b.1 < b.2 := by
  have := h.right b hb
  exact (Nat.div_lt_iff_lt_mul (Nat.two_pow_pos _)).2 this
end
/-- Each mountain lies within the first n. -/
theorem dn_in (n : Nat) (hn : n ≤ 2 ^ 40) : ∀ b ∈ Cv.dnL 41 0 n, (b.2 + 1) * 2 ^ b.1 ≤ n := by
  have := (cov_peaks 1 (List.replicate n ByteArray.empty) n (by simp) hn).2
  rwa [Cv.cov_zero n hn] at this
/-- A few items: a short way. -/
theorem Wy.short {n i H : Nat} {A B : List (Nat × Nat)} (h : Wy n i A H B) (hn : n ≤ 80) : H + (A.length + B.length) ≤ 12 := by
  have e : Cv.dnL (7 + 34) 0 n = Cv.dnL 7 0 n := Cv.dn_more (h := 7) (by show n - 0 < 2 ^ 7; omega) 34
  have h1 := Cv.dn_len 7 0 n
  rw [← e, show 7 + 34 = 41 from rfl, h.all, List.length_append, List.length_cons] at h1
  have h2 := dn_in n (by omega) (H, i / 2 ^ H) (by rw [h.all]; simp)
  have h3 : 2 ^ H ≤ (i / 2 ^ H + 1) * 2 ^ H := Nat.le_mul_of_pos_left _ (Nat.succ_pos _)
  have h4 : H < 7 := by
    apply Nat.lt_of_not_le
    intro h7
    have : 2 ^ 7 ≤ 2 ^ H := Nat.pow_le_pow_right (by decide) h7
    have h2' : (i / 2 ^ H + 1) * 2 ^ H ≤ n := h2
    omega
  omega
/-- The block beside. -/
def sb (q : Nat) : Nat := if q % 2 = 1 then q - 1 else q + 1
/-- The blocks beside those that have i, from its leaf up. -/
def bes (i : Nat) (H : Nat) : List (Nat × Nat) := (List.range H).map fun h => (h, sb (i / 2 ^ h))
theorem bes_len (i H : Nat) : (bes i H).length = H := by simp [bes]
theorem bes_succ (i H : Nat) : bes i (H + 1) = bes i H ++ [(H, sb (i / 2 ^ H))] := by simp [bes, List.range_succ]
theorem half_next (i h : Nat) : i / 2 ^ h / 2 = i / 2 ^ (h + 1) := by rw [Nat.div_div_eq_div_mul, ← Nat.pow_succ]
/-- .. they lie in i's mountain. -/
theorem bes_in {i H : Nat} : ∀ b ∈ bes i H, (b.2 + 1) * 2 ^ b.1 ≤ (i / 2 ^ H + 1) * 2 ^ H := by
  intro b hb
  obtain ⟨h, hh, rfl⟩ := List.mem_map.1 hb
  have hh := List.mem_range.1 hh
  obtain ⟨d, rfl⟩ : ∃ d, H = h + 1 + d := ⟨H - h - 1, by omega⟩
  have h1 : (sb (i / 2 ^ h) + 1) ≤ (i / 2 ^ (h + 1) + 1) * 2 := by
    rw [← half_next]
    generalize i / 2 ^ h = q
    unfold sb
    split <;> omega
  have h2 : (sb (i / 2 ^ h) + 1) * 2 ^ h ≤ (i / 2 ^ (h + 1) + 1) * 2 ^ (h + 1) := by
    rw [Nat.pow_succ, ← Nat.mul_assoc, Nat.mul_right_comm]
    exact Nat.mul_le_mul_right _ (by rw [← Nat.pow_succ]; exact h1)
  refine Nat.le_trans h2 ?_
  have h3 : i / 2 ^ (h + 1) + 1 ≤ (i / 2 ^ (h + 1 + d) + 1) * 2 ^ d := by
    have e : i / 2 ^ (h + 1 + d) = i / 2 ^ (h + 1) / 2 ^ d := by rw [Nat.div_div_eq_div_mul, ← Nat.pow_add]
    rw [e]
    exact Nat.lt_mul_of_div_lt (Nat.lt_succ_self _) (Nat.two_pow_pos d)
  calc (i / 2 ^ (h + 1) + 1) * 2 ^ (h + 1) ≤ (i / 2 ^ (h + 1 + d) + 1) * 2 ^ d * 2 ^ (h + 1) := Nat.mul_le_mul_right _ h3
    _ = (i / 2 ^ (h + 1 + d) + 1) * 2 ^ (h + 1 + d) := by rw [Nat.mul_assoc, ← Nat.pow_add, Nat.add_comm d]
/-- All blocks of a way. -/
def wyB (i H : Nat) (A B : List (Nat × Nat)) : List (Nat × Nat) := bes i H ++ (A ++ B)
theorem wyB_len (i H : Nat) (A B : List (Nat × Nat)) : (wyB i H A B).length = H + (A.length + B.length) := by simp [wyB, bes_len]
theorem Wy.inn {n i H : Nat} {A B : List (Nat × Nat)} (h : Wy n i A H B) (hn : n ≤ 2 ^ 40) : ∀ b ∈ wyB i H A B, (b.2 + 1) * 2 ^ b.1 ≤ n := by
  have hall := dn_in n hn
  rw [h.all] at hall
  intro b hb
  rw [wyB, List.mem_append, List.mem_append] at hb
  rcases hb with hb | hb | hb
  · exact Nat.le_trans (bes_in b hb) (hall (H, i / 2 ^ H) (by simp))
  · exact hall b (by simp [hb])
  · exact hall b (by simp [hb])
/-- What a leaf becomes with the digests beside it. -/
def stT (q : Nat) (d x : ByteArray) : ByteArray := if q % 2 = 1 then nodeT x d else nodeT d x
def rs (c : Nat) : Nat → ByteArray → List ByteArray → ByteArray
  | _, d, [] => d
  | q, d, x :: r => rs c (q / 2) (dg c (stT q d x)) r
theorem rs_app (c : Nat) (x : ByteArray) : ∀ (D : List ByteArray) (q : Nat) (d : ByteArray), rs c q d (D ++ [x]) = dg c (stT (q / 2 ^ D.length) (rs c q d D) x)
  | [], q, d => by simp [rs]
  | y :: r, q, d => by
    rw [List.cons_append, rs, rs_app c x r, rs, List.length_cons, Nat.pow_succ, Nat.div_div_eq_div_mul, Nat.mul_comm 2]
theorem rs_size {c : Nat} (hc : c ≤ 32) : ∀ (D : List ByteArray) (q : Nat) (d : ByteArray), d.size = c → (rs c q d D).size = c
  | [], _, _, h => h
  | y :: r, q, d, _ => by
    rw [rs]
    exact rs_size hc r _ _ (dg_size hc _)
/-- With the right digests it is the mountain's peak. -/
theorem rs_nd (c : Nat) (L : List ByteArray) (i : Nat) : ∀ H, rs c i (nd c L 0 i) ((bes i H).map fun b => nd c L b.1 b.2) = nd c L H (i / 2 ^ H)
  | 0 => by simp [bes, rs]
  | H + 1 => by
    have ih := rs_nd c L i H
    rw [bes_succ, List.map_append, List.map_cons, List.map_nil, rs_app, ih, List.length_map, bes_len, ← half_next]
    show dg c (stT (i / 2 ^ H) (nd c L H (i / 2 ^ H)) (nd c L H (sb (i / 2 ^ H)))) = dg c (nodeT (nd c L H (2 * (i / 2 ^ H / 2))) (nd c L H (2 * (i / 2 ^ H / 2) + 1)))
    generalize i / 2 ^ H = q
    unfold stT sb
    by_cases h : q % 2 = 1
    · rw [if_pos h, if_pos h, show 2 * (q / 2) = q - 1 by omega, show q - 1 + 1 = q by omega]
    · rw [if_neg h, if_neg h, show 2 * (q / 2) = q by omega]
/-- Where a path leads: its peaks, and the root. -/
def pkP (c i : Nat) (a H : Nat) (D : List ByteArray) (x : ByteArray) : List ByteArray := (D.drop H).take a ++ rs c i (dg c (leafT x)) (D.take H) :: (D.drop H).drop a
def rtP (c n i a H : Nat) (D : List ByteArray) (x : ByteArray) : ByteArray := dg c (rootT n (bagL c (pkP c i a H D x)))
/-- The digests of a path. -/
def dgP (c : Nat) (L : List ByteArray) (i H : Nat) (A B : List (Nat × Nat)) : List ByteArray := (wyB i H A B).map fun b => nd c L b.1 b.2
theorem dgP_len (c : Nat) (L : List ByteArray) (i H : Nat) (A B : List (Nat × Nat)) : (dgP c L i H A B).length = H + (A.length + B.length) := by rw [dgP, List.length_map, wyB_len]
theorem dgP_size {c : Nat} (hc : c ≤ 32) (L : List ByteArray) (i H : Nat) (A B : List (Nat × Nat)) : ∀ s ∈ dgP c L i H A B, s.size = c := by
  intro s hs
  obtain ⟨b, _, rfl⟩ := List.mem_map.1 hs
  exact nd_size hc _ _ _
/-- Complete: the path leads to the root. -/
theorem pk_complete {c n i H : Nat} {A B : List (Nat × Nat)} {L : List ByteArray} (h : Wy n i A H B) (hn : n ≤ 2 ^ 40) (hL : n ≤ L.length) : pkP c i A.length H (dgP c L i H A B) (L.getD i ByteArray.empty) = pks c (L.take n) 41 := by
  have hp := (cov_peaks c L n hL hn).1
  rw [Cv.cov_zero n hn, h.all, List.map_append, List.map_cons] at hp
  rw [← hp, pkP]
  have e1 : (dgP c L i H A B).take H = (bes i H).map fun b => nd c L b.1 b.2 := by
    rw [dgP, wyB, List.map_append, List.take_left' (by rw [List.length_map, bes_len])]
  have e2 : (dgP c L i H A B).drop H = (A ++ B).map fun b => nd c L b.1 b.2 := by
    rw [dgP, wyB, List.map_append, List.drop_left' (by rw [List.length_map, bes_len])]
  rw [e1, e2, List.map_append, List.take_left' (by rw [List.length_map]), List.drop_left' (by rw [List.length_map])]
  have := rs_nd c L i H
  rw [show nd c L 0 i = dg c (leafT (L.getD i ByteArray.empty)) from rfl] at this
  rw [this]
end Go.Proofs.YtdkcliblbaldhaaDoor
