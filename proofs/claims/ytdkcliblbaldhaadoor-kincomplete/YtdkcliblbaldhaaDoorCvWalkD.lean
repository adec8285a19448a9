/-
  Walks of package cover: sets. Own work.
-/
import Derived.Test.YtdkcliblbaldhaaDoorC0
namespace Go.Proofs.YtdkcliblbaldhaaDoor.Cv
open Pl
open Go.RowKit
attribute [local go_sem ↓] Go.wp_at_zero Go.wp_at_succ
/-- A list of numbers that can be read. -/
structure Rd (w : World) (ao : Option Addr) (b off n : Nat) (l : List Nat) : Prop where
  len : l.length = n
  addr : 0 < n → ao = some ⟨b, off, none⟩
  cell : ∀ j, j < n → w.cell? ⟨b, off + j, none⟩ = some (.int .u64 (l.getD j 0 : Nat))
theorem Rd.below {w w' : World} {ao : Option Addr} {b off n : Nat} {l : List Nat} (r : Rd w ao b off n l) (h : Below w.heap.size w w') : Rd w' ao b off n l :=
  ⟨r.len, r.addr, fun j hj => (h.cell (p := ⟨b, off + j, none⟩) (World.block_lt_of_cell? w _ (r.cell j hj))).trans (r.cell j hj)⟩
theorem Rd.lt {w : World} {ao : Option Addr} {b off n : Nat} {l : List Nat} (r : Rd w ao b off n l) (h : 0 < n) : b < w.heap.size := World.block_lt_of_cell? w ⟨b, off + 0, none⟩ (r.cell 0 h)
theorem Rd.at {w w' : World} {ao : Option Addr} {b off n B : Nat} {l : List Nat} (r : Rd w ao b off n l) (h : Below B w w') (hb : 0 < n → b < B) : Rd w' ao b off n l :=
  ⟨r.len, r.addr, fun j hj => (World.cell?_of_block (h.block b (hb (by omega)))).trans (r.cell j hj)⟩
/-- Each number above the one ahead of it; not empty. -/
def Inc (l : List Nat) : Prop := 0 < l.length ∧ ∀ i, i + 1 < l.length → l.getD i 0 < l.getD (i + 1) 0
def incB (l : List Nat) : Bool := decide (0 < l.length) && (List.range (l.length - 1)).all (fun i => decide (l.getD i 0 < l.getD (i + 1) 0))
theorem incB_iff (l : List Nat) : incB l = true ↔ Inc l := by
  unfold incB Inc
  rw [Bool.and_eq_true, decide_eq_true_iff, List.all_eq_true]
  constructor
  · rintro ⟨h1, h2⟩
    exact ⟨h1, fun i hi => by simpa using h2 i (List.mem_range.2 (by omega))⟩
  · rintro ⟨h1, h2⟩
    exact ⟨h1, fun i hi => by have := List.mem_range.1 hi; simpa using h2 i (by omega)⟩
/-- From x on, below n. -/
def Chain : Nat → List Nat → Nat → Prop
  | x, [], n => x ≤ n
  | x, i :: S, n => x ≤ i ∧ Chain (i + 1) S n
theorem chain_le : ∀ {S : List Nat} {x n : Nat}, Chain x S n → x ≤ n := by
  intro S
  induction S with
  | nil => intro x n h; exact h
  | cons i S ih => intro x n h; have := ih h.2; have := h.1; omega
theorem chain_of : ∀ (l : List Nat) (x n : Nat), (∀ i, i + 1 < l.length → l.getD i 0 < l.getD (i + 1) 0) → (0 < l.length → x ≤ l.getD 0 0) → (0 < l.length → l.getD (l.length - 1) 0 < n) → x ≤ n → Chain x l n := by
  intro l
  induction l with
  | nil => intro x n _ _ _ h; exact h
  | cons a l ih =>
    intro x n h1 h2 h3 h4
    refine ⟨by simpa using h2 (by simp), ih (a + 1) n (fun i hi => ?_) (fun h => ?_) (fun h => ?_) ?_⟩
    · have := h1 (i + 1) (by simp; omega)
      simpa using this
    · have := h1 0 (by simp; omega)
      simp at this ⊢
      omega
    · have := h3 (by simp)
      rw [show (a :: l).length - 1 = (l.length - 1) + 1 by simp; omega] at this
      simpa using this
    · cases l with
      | nil => have := h3 (by simp); simp at this; omega
      | cons b l =>
        have h5 : ∀ j, j < (b :: l).length → a < (a :: b :: l).getD (j + 1) 0 := fun j => by
          induction j with
          | zero => intro _; have := h1 0 (by simp); simpa using this
          | succ j ihj => intro hj; have g1 := ihj (by omega); have g2 := h1 (j + 1) (by simp at *; omega); omega
        have h6 := h5 l.length (by simp)
        have h7 := h3 (by simp)
        simp only [List.length_cons, Nat.add_sub_cancel] at h7
        omega
/-- What is wrong with a set. -/
def errS (n : Nat) (l : List Nat) : Nat := if 2 ^ 40 < n then 30 else if incB l = false then 40 else if n ≤ l.getD (l.length - 1) 0 then 31 else 0
def rstS (n : Nat) (l : List Nat) : List (Nat × Nat) := if errS n l = 0 then rst 0 n l else []
theorem errS_ok {n : Nat} {l : List Nat} (h : errS n l = 0) : n ≤ 2 ^ 40 ∧ Inc l ∧ l.getD (l.length - 1) 0 < n ∧ Chain 0 l n := by
  unfold errS at h
  split at h
  · cases h
  · rename_i h1
    split at h
    · cases h
    · rename_i h2
      split at h
      · cases h
      · rename_i h3
        have hi : Inc l := (incB_iff l).1 (by cases hb : incB l with
          | true => rfl
          | false => exact absurd hb h2)
        exact ⟨by omega, hi, by omega, chain_of l 0 n hi.2 (fun _ => Nat.zero_le _) (fun _ => by omega) (Nat.zero_le _)⟩
end Go.Proofs.YtdkcliblbaldhaaDoor.Cv
