/-
  Peaks as a counter's ones: what an item or a tree that comes behind does. Own work.
-/
import Derived.Test.YtdkcliblbaldhaaDoorHWalkC
import Derived.Test.YtdkcliblbaldhaaDoorPlSpec
namespace Go.Proofs.YtdkcliblbaldhaaDoor
open Go.RowKit
open Pl (ones)
/-- The zeros below the lowest one, k at most. -/
def tr : Nat → Nat → Nat
  | 0, _ => 0
  | k + 1, n => if n % 2 = 1 then 0 else tr k (n / 2) + 1
theorem tr_le (k n : Nat) : tr k n ≤ k := by
  induction k generalizing n with
  | zero => exact Nat.le_refl _
  | succ k ih => have := ih (n / 2); simp only [tr]; split <;> omega
theorem tr_step (k n : Nat) (hk : k < 64) : tr (64 - k) (n / 2 ^ k) = if n / 2 ^ k % 2 = 1 then 0 else tr (64 - (k + 1)) (n / 2 ^ (k + 1)) + 1 := by
  rw [show 64 - k = (64 - (k + 1)) + 1 by omega, tr, Pl.div_pow_succ]
theorem mod_two (n h : Nat) : n % 2 ^ (h + 1) = n % 2 + 2 * (n / 2 % 2 ^ h) := by
  rw [Nat.pow_succ, Nat.mul_comm, Nat.mod_mul]
theorem div_two (n h : Nat) : n / 2 ^ (h + 1) = n / 2 / 2 ^ h := by
  rw [Nat.pow_succ, Nat.mul_comm, Nat.div_div_eq_div_mul]
theorem tr_eq : ∀ (F h n : Nat), h < F → (tr F n = h ↔ n % 2 ^ h = 0 ∧ n / 2 ^ h % 2 = 1)
  | F + 1, 0, n, _ => by
    simp only [tr, Nat.pow_zero, Nat.mod_one, Nat.div_one, true_and]
    split <;> simp_all
  | F + 1, h + 1, n, hh => by
    have ih := tr_eq F h (n / 2) (by omega)
    rw [mod_two, div_two]
    simp only [tr]
    by_cases e : n % 2 = 1
    · rw [if_pos e, e]
      constructor
      · intro h; omega
      · rintro ⟨h, _⟩; omega
    · rw [if_neg e]
      constructor
      · intro h1
        have := ih.1 (by omega)
        exact ⟨by rw [this.1]; omega, this.2⟩
      · rintro ⟨h1, h2⟩
        have := ih.2 ⟨by omega, h2⟩
        omega
theorem tr_lt : ∀ (F h n : Nat), h ≤ F → (tr F n < h ↔ n % 2 ^ h ≠ 0)
  | F, 0, n, _ => by simp [Nat.mod_one]
  | F + 1, h + 1, n, hh => by
    have ih := tr_lt F h (n / 2) (by omega)
    rw [mod_two]
    simp only [tr]
    by_cases e : n % 2 = 1
    · rw [if_pos e]
      constructor
      · intro _; omega
      · intro _; omega
    · rw [if_neg e]
      constructor
      · intro h1
        have := ih.1 (by omega)
        omega
      · intro h1
        have := ih.2 (by omega)
        omega
/-- What stands for each one of m, from the height F down: by the height, and by m above it. -/
def ol {α : Type} (g : Nat → Nat → α) : Nat → Nat → List α
  | 0, _ => []
  | F + 1, m => (if m / 2 ^ F % 2 = 1 then [g F (m / 2 ^ F)] else []) ++ ol g F m
theorem mod_bit {m F : Nat} (h : m % 2 ^ (F + 1) = 0) : m % 2 ^ F = 0 ∧ m / 2 ^ F % 2 = 0 := by
  rw [Nat.pow_succ, Nat.mod_mul] at h
  have := Nat.two_pow_pos F
  refine ⟨by omega, ?_⟩
  rcases Nat.eq_zero_of_add_eq_zero_left h |> Nat.mul_eq_zero.1 with h | h
  · omega
  · exact h
theorem ol_nil {α : Type} (g : Nat → Nat → α) : ∀ F m, m % 2 ^ F = 0 → ol g F m = []
  | 0, _, _ => rfl
  | F + 1, m, h => by
    obtain ⟨h1, h2⟩ := mod_bit h
    rw [ol, if_neg (by omega), ol_nil g F m h1]; rfl
theorem ol_last {α : Type} (g : Nat → Nat → α) : ∀ F h m, h < F → m % 2 ^ h = 0 → m / 2 ^ h % 2 = 1 → ol g F m = ol g F (m - 2 ^ h) ++ [g h (m / 2 ^ h)]
  | F + 1, h, m, hF, h0, h1 => by
    have hp := Nat.two_pow_pos h
    have hm : 2 ^ h ≤ m := by
      apply Nat.le_of_not_lt
      intro hlt
      rw [Nat.div_eq_of_lt hlt] at h1
      omega
    by_cases e : h = F
    · subst e
      have hz : (m - 2 ^ h) % 2 ^ (h + 1) = 0 := by
        have e1 : m = 2 ^ h * (m / 2 ^ h) := by have := Nat.div_add_mod m (2 ^ h); omega
        obtain ⟨q, hq⟩ : ∃ q, m / 2 ^ h = 2 * q + 1 := ⟨m / 2 ^ h / 2, by omega⟩
        rw [hq, Nat.mul_add, Nat.mul_one, ← Nat.mul_assoc] at e1
        rw [e1, Nat.add_sub_cancel, Nat.pow_succ, Nat.mul_mod_right]
      rw [ol, if_pos h1, ol_nil g h m h0, ol_nil g (h + 1) _ hz]; rfl
    · have hlt : h < F := by omega
      have hd : (m - 2 ^ h) / 2 ^ F = m / 2 ^ F := by
        obtain ⟨d, rfl⟩ : ∃ d, F = h + (d + 1) := ⟨F - h - 1, by omega⟩
        rw [Nat.pow_add, ← Nat.div_div_eq_div_mul, ← Nat.div_div_eq_div_mul, Nat.pow_succ, Nat.mul_comm (2 ^ d), ← Nat.div_div_eq_div_mul, ← Nat.div_div_eq_div_mul]
        have : (m - 2 ^ h) / 2 ^ h = m / 2 ^ h - 1 := by
          have := Nat.sub_mul_div m (2 ^ h) 1
          rw [Nat.mul_one] at this
          exact this
        rw [this]
        congr 1
        generalize m / 2 ^ h = x at h1
        omega
      rw [ol, ol, hd, ol_last g F h m hlt h0 h1, List.append_assoc]
theorem ol_len_le {α : Type} (g : Nat → Nat → α) : ∀ F m, (ol g F m).length ≤ F
  | 0, _ => Nat.le_refl _
  | F + 1, m => by
    have := ol_len_le g F m
    rw [ol, List.length_append]
    split <;> simp <;> omega
theorem ol_len {α β : Type} (g : Nat → Nat → α) (g' : Nat → Nat → β) : ∀ F m, (ol g F m).length = (ol g' F m).length
  | 0, _ => rfl
  | F + 1, m => by
    rw [ol, ol, List.length_append, List.length_append, ol_len g g' F m]
    split <;> rfl
theorem ones_top : ∀ F m, ones (F + 1) m = m / 2 ^ F % 2 + ones F m
  | 0, m => by simp [ones]
  | F + 1, m => by
    rw [ones, ones_top F (m / 2), ones, div_two]
    omega
theorem ol_ones {α : Type} (g : Nat → Nat → α) : ∀ F m, (ol g F m).length = ones F m
  | 0, _ => rfl
  | F + 1, m => by
    rw [ol, List.length_append, ones_top, ol_ones g F m]
    have := Nat.mod_two_eq_zero_or_one (m / 2 ^ F)
    rcases this with e | e <;> rw [e] <;> simp
theorem ones_pad (j m : Nat) (h : m < 2 ^ j) : ∀ d, ones (j + d) m = ones j m
  | 0 => rfl
  | d + 1 => by
    rw [← Nat.add_assoc, Pl.ones_more (j + d) m (Nat.lt_of_lt_of_le h (Nat.pow_le_pow_right (by decide) (by omega))), ones_pad j m h d]
/-- The heights of a size's mountains, from the left. -/
def hts (n : Nat) : List Nat := ol (fun h _ => h) 41 n
theorem hts_ones {n : Nat} (hn : n ≤ 1099511627776) : (hts n).length = ones 64 n := by
  rw [hts, ol_ones, show 64 = 41 + 23 from rfl, ones_pad 41 n (by omega) 23]
theorem hts_le (n : Nat) : (hts n).length ≤ 41 := ol_len_le _ _ _
/-- What a digest that comes behind all does: the digests of the new nodes; the peaks. t: the size by 2^h. -/
def carry (c : Nat) : Nat → Nat → List ByteArray → ByteArray → List ByteArray × List ByteArray
  | 0, _, P, d => ([d], P ++ [d])
  | f + 1, t, P, d =>
    if t % 2 = 1 then
      (d :: (carry c f (t / 2) (P.take (P.length - 1)) (dg c (nodeT (P.getD (P.length - 1) ByteArray.empty) d))).1, (carry c f (t / 2) (P.take (P.length - 1)) (dg c (nodeT (P.getD (P.length - 1) ByteArray.empty) d))).2)
    else ([d], P ++ [d])
theorem carry_odd {c f t : Nat} {P : List ByteArray} {d : ByteArray} (h : t % 2 = 1) {d' : ByteArray} (hd : dg c (nodeT (P.getD (P.length - 1) ByteArray.empty) d) = d') :
    carry c (f + 1) t P d = (d :: (carry c f (t / 2) (P.take (P.length - 1)) d').1, (carry c f (t / 2) (P.take (P.length - 1)) d').2) := by
  rw [carry, if_pos h, hd]
theorem carry_even {c f t : Nat} {P : List ByteArray} {d : ByteArray} (h : t % 2 ≠ 1) : carry c f t P d = ([d], P ++ [d]) := by
  cases f with
  | zero => rfl
  | succ f => rw [carry, if_neg h]
theorem size_last {c : Nat} {P : List ByteArray} (hP : ∀ s ∈ P, s.size = c) (h : 0 < P.length) : (P.getD (P.length - 1) ByteArray.empty).size = c := hP _ (getD_mem (by omega))
theorem carry_size {c : Nat} (hc : c ≤ 32) : ∀ (f t : Nat) (P : List ByteArray) (d : ByteArray), (∀ s ∈ P, s.size = c) → d.size = c → (∀ s ∈ (carry c f t P d).1, s.size = c) ∧ (∀ s ∈ (carry c f t P d).2, s.size = c) := by
  intro f
  induction f with
  | zero =>
    intro t P d hP hd
    simp only [carry]
    refine ⟨fun s hs => by simp at hs; rw [hs]; exact hd, fun s hs => ?_⟩
    rcases List.mem_append.1 hs with h | h
    · exact hP s h
    · simp at h; rw [h]; exact hd
  | succ f ih =>
    intro t P d hP hd
    by_cases h : t % 2 = 1
    · rw [carry_odd h rfl]
      obtain ⟨i1, i2⟩ := ih (t / 2) (P.take (P.length - 1)) (dg c (nodeT (P.getD (P.length - 1) ByteArray.empty) d)) (fun s hs => hP s (List.mem_of_mem_take hs)) (dg_size hc _)
      refine ⟨fun s hs => ?_, i2⟩
      rcases List.mem_cons.1 hs with h | h
      · rw [h]; exact hd
      · exact i1 s h
    · rw [carry_even h]
      refine ⟨fun s hs => by simp at hs; rw [hs]; exact hd, fun s hs => ?_⟩
      rcases List.mem_append.1 hs with h | h
      · exact hP s h
      · simp at h; rw [h]; exact hd
theorem carry_made (c : Nat) : ∀ (f t : Nat) (P : List ByteArray) (d : ByteArray), (carry c f t P d).1.length ≤ f + 1 ∧ 1 ≤ (carry c f t P d).1.length := by
  intro f
  induction f with
  | zero => intro t P d; simp [carry]
  | succ f ih =>
    intro t P d
    by_cases h : t % 2 = 1
    · rw [carry_odd h rfl]
      have := ih (t / 2) (P.take (P.length - 1)) (dg c (nodeT (P.getD (P.length - 1) ByteArray.empty) d))
      simp only [List.length_cons]
      omega
    · rw [carry_even h]; simp
theorem step_num {h t : Nat} (ho : t % 2 = 1) : 2 ^ h * t - 2 ^ h = 2 ^ (h + 1) * (t / 2) ∧ 2 ^ (h + 1) * (t / 2) + 2 ^ (h + 1) = 2 ^ h * t + 2 ^ h := by
  obtain ⟨q, rfl⟩ : ∃ q, t = 2 * q + 1 := ⟨t / 2, by omega⟩
  rw [show (2 * q + 1) / 2 = q by omega, Nat.pow_succ, Nat.mul_add, Nat.mul_one, Nat.mul_assoc]
  omega
theorem pow_num (h t : Nat) : 2 ^ h * t % 2 ^ h = 0 ∧ 2 ^ h * t / 2 ^ h = t := ⟨Nat.mul_mod_right _ _, Nat.mul_div_cancel_left _ (Nat.two_pow_pos h)⟩
theorem ol_even {α : Type} (g : Nat → Nat → α) {F h t : Nat} (hF : h < F) (he : t % 2 ≠ 1) : ol g F (2 ^ h * t + 2 ^ h) = ol g F (2 ^ h * t) ++ [g h (t + 1)] := by
  have e : 2 ^ h * t + 2 ^ h = 2 ^ h * (t + 1) := by rw [Nat.mul_add, Nat.mul_one]
  obtain ⟨a, b⟩ := pow_num h (t + 1)
  rw [e, ol_last g F h _ hF a (by rw [b]; omega), b, ← e, Nat.add_sub_cancel]
theorem ol_odd {α : Type} (g : Nat → Nat → α) {F h t : Nat} (hF : h < F) (ho : t % 2 = 1) : ol g F (2 ^ h * t) = ol g F (2 ^ (h + 1) * (t / 2)) ++ [g h t] := by
  obtain ⟨a, b⟩ := pow_num h t
  rw [ol_last g F h _ hF a (by rw [b]; exact ho), b, (step_num ho).1]
/-- How many peaks there are behind. -/
theorem carry_len (c F : Nat) : ∀ (f h t : Nat) (P : List ByteArray) (d : ByteArray), h + f < F → t < 2 ^ f → P.length = (ol (fun h _ => h) F (2 ^ h * t)).length → (carry c f t P d).2.length = (ol (fun h _ => h) F (2 ^ h * t + 2 ^ h)).length := by
  intro f
  induction f with
  | zero =>
    intro h t P d hF ht hl
    obtain rfl : t = 0 := by simpa using ht
    rw [ol_even _ (by omega) (by decide), carry, List.length_append, List.length_append, hl]; rfl
  | succ f ih =>
    intro h t P d hF ht hl
    by_cases ho : t % 2 = 1
    · rw [carry_odd ho rfl]
      rw [ol_odd _ (by omega) ho, List.length_append, List.length_singleton] at hl
      show (carry c f (t / 2) (P.take (P.length - 1)) (dg c (nodeT (P.getD (P.length - 1) ByteArray.empty) d))).2.length = _
      rw [ih (h + 1) (t / 2) _ _ (by omega) (by rw [Nat.pow_succ] at ht; omega) (by rw [List.length_take]; omega), (step_num ho).2]
    · rw [carry_even ho, ol_even _ (by omega) ho, List.length_append, List.length_append, hl]; rfl
/-- Peaks that stand for nodes stay so: g h x is the node of the x-th block of the height h, from one on. -/
theorem carry_ol (c F : Nat) (g : Nat → Nat → ByteArray) (m : Nat) (hg : ∀ h t, 2 ^ h * (t + 1) ≤ m → t % 2 = 1 → dg c (nodeT (g h t) (g h (t + 1))) = g (h + 1) (t / 2 + 1)) : ∀ (f h t : Nat), h + f < F → t < 2 ^ f → 2 ^ h * t + 2 ^ h ≤ m →
    (carry c f t (ol g F (2 ^ h * t)) (g h (t + 1))).2 = ol g F (2 ^ h * t + 2 ^ h) := by
  intro f
  induction f with
  | zero =>
    intro h t hF ht hm
    obtain rfl : t = 0 := by simpa using ht
    rw [ol_even _ (by omega) (by decide), carry]
  | succ f ih =>
    intro h t hF ht hm
    by_cases ho : t % 2 = 1
    · have e1 := ol_odd g (F := F) (h := h) (t := t) (by omega) ho
      have e2 : (ol g F (2 ^ h * t)).length - 1 = (ol g F (2 ^ (h + 1) * (t / 2))).length := by rw [e1]; simp
      have hd : dg c (nodeT ((ol g F (2 ^ h * t)).getD ((ol g F (2 ^ h * t)).length - 1) ByteArray.empty) (g h (t + 1))) = g (h + 1) (t / 2 + 1) := by
        rw [e2, e1, ← hg h t (by rw [Nat.mul_add, Nat.mul_one]; exact hm) ho]
        simp [List.getD_eq_getElem?_getD]
      rw [carry_odd ho hd, e2]
      show (carry c f (t / 2) ((ol g F (2 ^ h * t)).take (ol g F (2 ^ (h + 1) * (t / 2))).length) (g (h + 1) (t / 2 + 1))).2 = _
      rw [e1, List.take_left' rfl, ih (h + 1) (t / 2) (by omega) (by rw [Nat.pow_succ] at ht; omega) (by rw [(step_num ho).2]; exact hm), (step_num ho).2]
    · rw [carry_even ho, ol_even _ (by omega) ho]
/-- The digests of the new nodes. -/
theorem carry_new (c F : Nat) (g : Nat → Nat → ByteArray) (m : Nat) (hg : ∀ h t, 2 ^ h * (t + 1) ≤ m → t % 2 = 1 → dg c (nodeT (g h t) (g h (t + 1))) = g (h + 1) (t / 2 + 1)) : ∀ (f h t : Nat), h + f < F → t < 2 ^ f → 2 ^ h * t + 2 ^ h ≤ m →
    (carry c f t (ol g F (2 ^ h * t)) (g h (t + 1))).1 = (List.range (Pl.trl f t + 1)).map fun j => g (h + j) (t / 2 ^ j + 1) := by
  intro f
  induction f with
  | zero =>
    intro h t hF ht hm
    obtain rfl : t = 0 := by simpa using ht
    simp [carry, Pl.trl]
  | succ f ih =>
    intro h t hF ht hm
    by_cases ho : t % 2 = 1
    · have e1 := ol_odd g (F := F) (h := h) (t := t) (by omega) ho
      have e2 : (ol g F (2 ^ h * t)).length - 1 = (ol g F (2 ^ (h + 1) * (t / 2))).length := by rw [e1]; simp
      have hd : dg c (nodeT ((ol g F (2 ^ h * t)).getD ((ol g F (2 ^ h * t)).length - 1) ByteArray.empty) (g h (t + 1))) = g (h + 1) (t / 2 + 1) := by
        rw [e2, e1, ← hg h t (by rw [Nat.mul_add, Nat.mul_one]; exact hm) ho]
        simp [List.getD_eq_getElem?_getD]
      rw [carry_odd ho hd, e2]
      show g h (t + 1) :: (carry c f (t / 2) ((ol g F (2 ^ h * t)).take (ol g F (2 ^ (h + 1) * (t / 2))).length) (g (h + 1) (t / 2 + 1))).1 = _
      rw [e1, List.take_left' rfl, ih (h + 1) (t / 2) (by omega) (by rw [Nat.pow_succ] at ht; omega) (by rw [(step_num ho).2]; exact hm), Pl.trl_step f t ho, List.range_succ_eq_map (n := Pl.trl f (t / 2) + 1), List.map_cons, List.map_map]
      simp only [Nat.pow_zero, Nat.div_one, Nat.add_zero]
      congr 1
      refine List.map_congr_left fun j _ => ?_
      simp only [Function.comp]
      rw [Nat.succ_eq_add_one, div_two, show h + 1 + j = h + (j + 1) by omega]
    · rw [carry_even ho, Pl.trl_none f t ho]
      simp
/-- Why a digest that comes is refused; 0: it isn't. -/
def er (k : Int) (n : Nat) (h : Int) (s : ByteArray) : Nat :=
  if (s.size : Int) ≠ k then 90 else if h < 0 ∨ 40 < h ∨ n % 2 ^ h.toNat ≠ 0 then 41 else if 1099511627776 < n + 2 ^ h.toNat then 30 else 0
/-- The peaks behind it, and the new nodes. -/
def mk (c n : Nat) (P : List ByteArray) (h : Nat) (s : ByteArray) : List ByteArray × List ByteArray := carry c (40 - h) (n / 2 ^ h) P s
def nxN (k : Int) (n : Nat) (h : Int) (s : ByteArray) : Nat := if er k n h s = 0 then n + 2 ^ h.toNat else n
def nxP (k : Int) (n : Nat) (P : List ByteArray) (h : Int) (s : ByteArray) : List ByteArray := if er k n h s = 0 then (mk (clk k) n P h.toNat s).2 else P
def an (k : Int) (n : Nat) (P : List ByteArray) (h : Int) (s : ByteArray) : List ByteArray := if er k n h s = 0 then (mk (clk k) n P h.toNat s).1 else []
theorem er_ok {k : Int} {n : Nat} {h : Int} {s : ByteArray} (e : er k n h s = 0) : (s.size : Int) = k ∧ 0 ≤ h ∧ h ≤ 40 ∧ n % 2 ^ h.toNat = 0 ∧ n + 2 ^ h.toNat ≤ 1099511627776 := by
  unfold er at e
  split at e
  · omega
  · rename_i h1
    split at e
    · omega
    · rename_i h2
      split at e
      · omega
      · rename_i h3
        have h4 : n % 2 ^ h.toNat = 0 := Decidable.byContradiction fun hx => h2 (.inr (.inr hx))
        refine ⟨by omega, ?_, ?_, h4, by omega⟩
        · exact Int.not_lt.1 fun hx => h2 (.inl hx)
        · exact Int.not_lt.1 fun hx => h2 (.inr (.inl hx))
theorem clk_of {k : Int} (h1 : 1 ≤ k) (h2 : k ≤ 32) : (clk k : Int) = k := by
  unfold clk
  rw [if_neg (by omega), if_neg (by omega)]
  omega
end Go.Proofs.YtdkcliblbaldhaaDoor
