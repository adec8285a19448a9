/-
  Walks of package cover: sets. Own work.
-/
import Derived.Test.YtelglfmppmdmoaaCvWalkC
namespace Go.Proofs.Ytelglfmppmdmoaa.Cv
open Pl
open Go.RowKit
attribute [local go_sem ↓] Go.wp_at_zero Go.wp_at_succ
/-- A list of numbers that can be read. -/
structure Rd (w : World) (ao : Option Addr) (b off n : Nat) (l : List Nat) : Prop where
  len : l.length = n
  addr : 0 < n → ao = some ⟨b, off, none⟩
  cell : ∀ j, j < n → w.cell? ⟨b, off + j, none⟩ = some (.int .u64 (l.getD j 0 : Nat))
theorem Rd.below {w w' : World} {ao : Option Addr} {b off n : Nat} {l : List Nat} (r : Rd w ao b off n l) (h : Below w.heap.size w w') : Rd w' ao b off n l :=
  ⟨r.len, r.addr, fun j hj => (h.cell (p := ⟨b, off + j, none⟩) (World.block_lt_of_cell? w _ (r.cell j hj))).trans (r.cell j hj)⟩
theorem Rd.lt {w : World} {ao : Option Addr} {b off n : Nat} {l : List Nat} (r : Rd w ao b off n l) (h : 0 < n) : b < w.heap.size := World.block_lt_of_cell? w ⟨b, off + 0, none⟩ (r.cell 0 h)
theorem Rd.at {w w' : World} {ao : Option Addr} {b off n B : Nat} {l : List Nat} (r : Rd w ao b off n l) (h : Below B w w') (hb : 0 < n → b < B) : Rd w' ao b off n l :=
  ⟨r.len, r.addr, fun j hj => (World.cell?_of_block (h.block b (hb (by omega)))).trans (r.cell j hj)⟩
/-- Each number above the one ahead of it; not empty. -/
def Inc (l : List Nat) : Prop := 0 < l.length ∧ ∀ i, i + 1 < l.length → l.getD i 0 < l.getD (i + 1) 0
def incB (l : List Nat) : Bool := decide (0 < l.length) && (List.range (l.length - 1)).all (fun i => decide (l.getD i 0 < l.getD (i + 1) 0))
theorem incB_iff (l : List Nat) : incB l = true ↔ Inc l := by
  unfold incB Inc
  rw [Bool.and_eq_true, decide_eq_true_iff, List.all_eq_true]
  constructor
  · rintro ⟨h1, h2⟩
    exact ⟨h1, fun i hi => by simpa using h2 i (List.mem_range.2 (by omega))⟩
  · rintro ⟨h1, h2⟩
    exact ⟨h1, fun i hi => by have := List.mem_range.1 hi; simpa using h2 i (by omega)⟩
/-- From x on, below n. -/
def Chain : Nat → List Nat → Nat → Prop
  | x, [], n => x ≤ n
  | x, i :: S, n => x ≤ i ∧ Chain (i + 1) S n
theorem chain_le : ∀ {S : List Nat} {x n : Nat}, Chain x S n → x ≤ n := by
  intro S
  induction S with
  | nil => intro x n h; exact h
  | cons i S ih => intro x n h; have := ih h.2; have := h.1; omega
theorem chain_of : ∀ (l : List Nat) (x n : Nat), (∀ i, i + 1 < l.length → l.getD i 0 < l.getD (i + 1) 0) → (0 < l.length → x ≤ l.getD 0 0) → (0 < l.length → l.getD (l.length - 1) 0 < n) → x ≤ n → Chain x l n := by
  intro l
  induction l with
  | nil => intro x n _ _ _ h; exact h
  | cons a l ih =>
    intro x n h1 h2 h3 h4
    refine ⟨by simpa using h2 (by simp), ih (a + 1) n (fun i hi => ?_) (fun h => ?_) (fun h => ?_) ?_⟩
    · have := h1 (i + 1) (by simp; omega)
      simpa using this
    · have := h1 0 (by simp; omega)
      simp at this ⊢
      omega
    · have := h3 (by simp)
      rw [show (a :: l).length - 1 = (l.length - 1) + 1 by simp; omega] at this
      simpa using this
    · cases l with
      | nil => have := h3 (by simp); simp at this; omega
      | cons b l =>
        have h5 : ∀ j, j < (b :: l).length → a < (a :: b :: l).getD (j + 1) 0 := fun j => by
          induction j with
          | zero => intro _; have := h1 0 (by simp); simpa using this
          | succ j ihj => intro hj; have g1 := ihj (by omega); have g2 := h1 (j + 1) (by simp at *; omega); omega
        have h6 := h5 l.length (by simp)
        have h7 := h3 (by simp)
        simp only [List.length_cons, Nat.add_sub_cancel] at h7
        omega
/-- What is wrong with a set. -/
def errS (n : Nat) (l : List Nat) : Nat := if 2 ^ 40 < n then 30 else if incB l = false then 40 else if n ≤ l.getD (l.length - 1) 0 then 31 else 0
def rstS (n : Nat) (l : List Nat) : List (Nat × Nat) := if errS n l = 0 then rst 0 n l else []
theorem errS_ok {n : Nat} {l : List Nat} (h : errS n l = 0) : n ≤ 2 ^ 40 ∧ Inc l ∧ l.getD (l.length - 1) 0 < n ∧ Chain 0 l n := by
  unfold errS at h
  split at h
  · cases h
  · rename_i h1
    split at h
    · cases h
    · rename_i h2
      split at h
      · cases h
      · rename_i h3
        have hi : Inc l := (incB_iff l).1 (by cases hb : incB l with
          | true => rfl
          | false => exact absurd hb h2)
        exact ⟨by omega, hi, by omega, chain_of l 0 n hi.2 (fun _ => Nat.zero_le _) (fun _ => by omega) (Nat.zero_le _)⟩
theorem rises_any (w : World) (ao : Option Addr) (b off n cap : Nat) (l : List Nat) (r : Rd w ao b off n l) (hn : n ≤ maxLen) :
    Calls Try.prog 62 #[.slice ao n cap] w fun e w' => e = .returned (.bool (incB l)) ∧ Below w.heap.size w w' := by
  have hn' : (n : Int) ≤ 9223372036854775807 := by unfold maxLen at hn; omega
  have HR : Hid (Rd w ao b off n l) := r
  clear hn r
  go_enter Try.func62, Try.ntmps62
  go_wp2
  go_loopg [3] n (fun g i wr => ∃ k : Nat, (k ≤ n ∨ k = 1) ∧ 1 ≤ k ∧ g = n + 1 - k ∧ i = .int .i64 (k : Int) ∧ (∀ j, j + 1 < k → l.getD j 0 < l.getD (j + 1) 0) ∧ Below w.heap.size w wr)
  case atStart =>
    go_light
    exact ⟨1, .inr rfl, Nat.le_refl _, by omega, rfl, fun j hj => absurd hj (by omega), Below.refl _ _⟩
  case round =>
    obtain ⟨k, hk, hk1, rfl, rfl, he, hb⟩ := hrel
    have hk0 : (0 : Int) ≤ (k : Int) := Int.natCast_nonneg _
    by_cases hlt : k < n
    · obtain ⟨i, rfl⟩ : ∃ i, k = i + 1 := ⟨k - 1, by omega⟩
      have r1 := HR.out.below hb
      obtain rfl := r1.addr (by omega)
      have c1 := r1.cell (i + 1) hlt
      have c2 := r1.cell i (by omega)
      have hz : ((i + 1 : Nat) : Int) < (n : Int) := by omega
      have ei : (((i + 1 : Nat) : Int) - 1) = (i : Int) := by omega
      have ec : ((i + 1 : Nat) : Int) = (i : Int) + 1 := by omega
      have hz2 : (i : Int) + 1 < (n : Int) := by omega
      have hz3 : (i : Int) < (n : Int) := by omega
      have hi0 : (0 : Int) ≤ (i : Int) := Int.natCast_nonneg _
      have hi1 : (0 : Int) ≤ (i : Int) + 1 := by omega
      have HB : Hid (Below w.heap.size w wr) := hb
      have HE : Hid (∀ j, j + 1 < i + 1 → l.getD j 0 < l.getD (j + 1) 0) := he
      have HI : Hid (¬ l.getD i 0 < l.getD (i + 1) 0 → incB l = false) := fun hno => by
        cases hB : incB l with
        | false => rfl
        | true => exact absurd (((incB_iff l).1 hB).2 i (by have := HR.out.len; omega)) hno
      obtain ⟨x, hx⟩ : ∃ x, l.getD (i + 1) 0 = x := ⟨_, rfl⟩
      obtain ⟨y, hy⟩ : ∃ y, l.getD i 0 = y := ⟨_, rfl⟩
      rw [hx] at c1
      rw [hy] at c2
      rw [hx, hy] at HI
      have HX : Hid (l.getD (i + 1) 0 = x ∧ l.getD i 0 = y) := ⟨hx, hy⟩
      have hlt2 : i + 1 < n := hlt
      clear hx hy r1 hb he hk hlt
      by_cases hxy : x ≤ y
      · have HN : Hid (incB l = false) := HI.out (by omega)
        go_wp2
        go_quiet (fail)
        go_wp2
        go_ret
        exact ⟨by rw [HN.out]; rfl, below_drewN HB.out _⟩
      · go_wp2
        go_quiet (fail)
        go_wp2
        go_roundg (n + 1 - (i + 1 + 1))
        case rel =>
          go_light
          refine ⟨i + 1 + 1, by omega, by omega, rfl, by go_num, fun j hj => ?_, below_drewN HB.out _⟩
          by_cases hjk : j = i
          · subst hjk; rw [HX.out.1, HX.out.2]; omega
          · exact HE.out j (by omega)
        case measure => go_light; omega
    · have hz : ¬ (k : Int) < (n : Int) := by omega
      have hz' : ¬ k < n := by omega
      have HN : Hid (decide ((0 : Int) < (n : Int)) = incB l) := by
        have hl := HR.out.len
        cases hB : incB l with
        | true => have := ((incB_iff l).1 hB).1; exact decide_eq_true (by omega)
        | false =>
          refine decide_eq_false (fun hp => ?_)
          have : incB l = true := (incB_iff l).2 ⟨by omega, fun i hi => he i (by omega)⟩
          rw [this] at hB; cases hB
      have HB : Hid (Below w.heap.size w wr) := hb
      clear he hb hk
      go_wp2
      go_ret
      refine ⟨?_, HB.out⟩
      have := HN.out
      simp at this ⊢
      exact this
theorem check_any (m : Nat) (w : World) (ao : Option Addr) (b off n cap : Nat) (l : List Nat) (r : Rd w ao b off n l) (hn : n ≤ maxLen) :
    Calls Try.prog 42 #[.int .u64 (m : Int), .slice ao n cap] w fun e w' => e = .returned (.int .i64 (errS m l : Nat)) ∧ Below w.heap.size w w' := by
  have HR := rises_any w ao b off n cap l r hn
  have hn' : (n : Int) ≤ 9223372036854775807 := by unfold maxLen at hn; omega
  by_cases h1 : 2 ^ 40 < m
  · have ht : decide ((1099511627776 : Int) < (m : Int)) = true := decide_eq_true (by omega)
    have he : errS m l = 30 := by rw [errS, if_pos h1]
    rw [he]
    clear h1 he
    go_enter Try.func42, Try.ntmps42
    go_wp2
    go_ret
    exact ⟨rfl, Below.refl _ _⟩
  · have ht : decide ((1099511627776 : Int) < (m : Int)) = false := decide_eq_false (by omega)
    cases h2 : incB l with
    | false =>
      have he : errS m l = 40 := by rw [errS, if_neg h1, if_pos h2]
      rw [he]
      rw [h2] at HR
      clear h1 he
      go_enter Try.func42, Try.ntmps42
      go_wp2_with (go_at_call 62; with_reducible refine HR.mono ?_; rintro e w1 ⟨rfl, hb⟩)
      go_ret
      exact ⟨rfl, hb⟩
    | true =>
      have h3 := (incB_iff l).1 h2
      have hl := r.len
      rw [h2] at HR
      obtain ⟨j, rfl⟩ : ∃ j, n = j + 1 := ⟨n - 1, by have := h3.1; omega⟩
      obtain rfl := r.addr (by omega)
      have hc := r.cell j (by omega)
      have e1 : (((j + 1 : Nat) : Int) - 1) = (j : Int) := by omega
      have e2 : ((j + 1 : Nat) : Int) = (j : Int) + 1 := by omega
      have hz1 : (j : Int) < (j : Int) + 1 := by omega
      have hj0 : (0 : Int) ≤ (j : Int) := Int.natCast_nonneg _
      have hlast : l.getD (l.length - 1) 0 = l.getD j 0 := by rw [hl]; rfl
      obtain ⟨x, hx⟩ : ∃ x, l.getD j 0 = x := ⟨_, rfl⟩
      rw [hx] at hc hlast
      have hcell : ∀ w', Below w.heap.size w w' → w'.cell? ⟨b, off + j, none⟩ = some (.int .u64 (x : Int)) := fun w' hb => (hb.cell (p := ⟨b, off + j, none⟩) (World.block_lt_of_cell? w _ hc)).trans hc
      by_cases h4 : m ≤ x
      · have he : errS m l = 31 := by rw [errS, if_neg h1, if_neg (by rw [h2]; decide), if_pos (by rw [hlast]; exact h4)]
        rw [he]
        have h4' : (m : Int) ≤ (x : Int) := by omega
        clear h1 he h2 h3 hl hx hlast r hn
        go_enter Try.func42, Try.ntmps42
        go_wp2_with (go_at_call 62; with_reducible refine HR.mono ?_; rintro e w1 ⟨rfl, hb⟩; have c1 := hcell w1 hb)
        go_ret
        exact ⟨rfl, hb⟩
      · have he : errS m l = 0 := by rw [errS, if_neg h1, if_neg (by rw [h2]; decide), if_neg (by rw [hlast]; exact h4)]
        rw [he]
        have h4' : ¬ (m : Int) ≤ (x : Int) := by omega
        clear h1 he h2 h3 hl hx hlast r hn
        go_enter Try.func42, Try.ntmps42
        go_wp2_with (go_at_call 62; with_reducible refine HR.mono ?_; rintro e w1 ⟨rfl, hb⟩; have c1 := hcell w1 hb)
        go_ret
        exact ⟨rfl, hb⟩
end Go.Proofs.Ytelglfmppmdmoaa.Cv
