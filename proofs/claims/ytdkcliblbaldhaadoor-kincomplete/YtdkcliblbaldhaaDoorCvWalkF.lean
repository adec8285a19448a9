/-
  Walks of the laws' own helpers: same. Own work.
-/
import Derived.Test.YtdkcliblbaldhaaDoorCvWalkE
namespace Go.Proofs.YtdkcliblbaldhaaDoor.Cv
open Pl
open Go.RowKit
attribute [local go_sem ↓] Go.wp_at_zero Go.wp_at_succ
/-- A list of blocks that can be read. -/
structure RdB (w : World) (ao : Option Addr) (g n : Nat) (l : List (Int × Nat)) : Prop where
  len : l.length = n
  addr : 0 < n → ao = some ⟨g, 0, none⟩
  cell : ∀ j, j < n → w.cell? ⟨g, j * 2, none⟩ = some (.int .i64 (l.getD j (0, 0)).1) ∧ w.cell? ⟨g, j * 2 + 1, none⟩ = some (.int .u64 ((l.getD j (0, 0)).2 : Nat))
theorem RdB.below {w w' : World} {ao : Option Addr} {g n : Nat} {l : List (Int × Nat)} (r : RdB w ao g n l) (h : Below w.heap.size w w') : RdB w' ao g n l :=
  ⟨r.len, r.addr, fun j hj => ⟨(h.cell (p := ⟨g, j * 2, none⟩) (World.block_lt_of_cell? w _ (r.cell j hj).1)).trans (r.cell j hj).1, (h.cell (p := ⟨g, j * 2 + 1, none⟩) (World.block_lt_of_cell? w _ (r.cell j hj).2)).trans (r.cell j hj).2⟩⟩
theorem own_rdB {w : World} {base : Nat} {v : Value} {l : List (Int × Nat)} (h : OwnB w base v l) : ∃ ao g n cap, v = .slice ao n cap ∧ RdB w ao g n l ∧ n ≤ maxLen := by
  have h0 := h
  obtain ⟨h1, h2⟩ := h
  rcases h2 with ⟨rfl, h2⟩ | ⟨g, cap, cur, rfl, hg, hh, hc1, hc2, hc3, hc4⟩
  · exact ⟨none, 0, 0, 0, rfl, ⟨h2, fun h => absurd h (by omega), fun j hj => absurd hj (by omega)⟩, Nat.zero_le _⟩
  · refine ⟨some ⟨g, 0, none⟩, g, l.length, cap, rfl, ⟨rfl, fun _ => rfl, fun j hj => ?_⟩, by omega⟩
    have hcl := h0.cells (g := g) rfl
    obtain ⟨⟨a, b⟩, hq⟩ : ∃ q, l[j] = q := ⟨_, rfl⟩
    have hget : l[j]? = some (a, b) := by rw [List.getElem?_eq_getElem hj, hq]
    obtain ⟨e1, e2⟩ := cB_get l j a b hget
    have f1 := hcl _ _ e1
    have f2 := hcl _ _ e2
    rw [Addr.add_mid, Nat.zero_add, Nat.mul_comm] at f1 f2
    rw [List.getD_eq_getElem?_getD, hget]
    exact ⟨f1, f2⟩
theorem ext_getD {α : Type} {d : α} {l m : List α} {n : Nat} (hl : l.length = n) (hm : m.length = n) (h : ∀ j, j < n → l.getD j d = m.getD j d) : l = m := by
  apply List.ext_getElem?
  intro j
  by_cases hj : j < n
  · have := h j hj
    rw [List.getD_eq_getElem?_getD, List.getD_eq_getElem?_getD, List.getElem?_eq_getElem (by omega), List.getElem?_eq_getElem (by omega)] at this
    rw [List.getElem?_eq_getElem (by omega), List.getElem?_eq_getElem (by omega)]
    simpa using this
  · rw [List.getElem?_eq_none (by omega), List.getElem?_eq_none (by omega)]
end Go.Proofs.YtdkcliblbaldhaaDoor.Cv
