/-
  ForestRow: what is held as items come. Own work.
-/
import Derived.Test.YtabdobdopcfllaaDoorFRowS
namespace Go.Proofs.YtabdobdopcfllaaDoor
open Go.RowKit
/-- The forest, the row, the roots, the last root. -/
structure RJ (w wr : World) (m gc : Nat) (K : Int) (M R : List ByteArray) (P : List (Nat × ByteArray)) (v7 v8 : Value) : Prop where
  frs : Frs wr m K M
  row : OwnS wr (gc + 1) v7 R
  rts : OwnR wr (gc + 1) v8 P
  cc : ∃ (a : Int) (d : ByteArray), wr.heap[gc]? = some (.cells #[.int .u64 a, .string d] 41 (0, 0))
  mg : m + 1 < gc
  bel : Below m w wr
section
variable {w wr wa : World} {m gc : Nat} {K : Int} {M M' R R' : List ByteArray} {P P' : List (Nat × ByteArray)} {v7 v8 v' : Value}
theorem RJ.lt (h : RJ w wr m gc K M R P v7 v8) : gc < wr.heap.size := by
  obtain ⟨a, d, e⟩ := h.cc
  exact (Array.getElem?_eq_some_iff.1 e).1
theorem RJ.chf (h : RJ w wr m gc K M R P v7 v8) (hc : Chf m wr wa) (hF : Frs wa m K M') : RJ w wa m gc K M' R P v7 v8 := by
  refine ⟨hF, row_chf h.row h.frs hc (by decide), row_chf h.rts h.frs hc (by decide), ?_, h.mg, h.bel.trans hc.below⟩
  obtain ⟨a, d, e⟩ := h.cc
  have := h.mg
  exact ⟨a, d, (hc.block gc h.lt (by omega) (by omega)).trans e⟩
theorem RJ.next (h : RJ w wr m gc K M R P v7 v8) (hb : Below wr.heap.size wr wa) : RJ w wa m gc K M R P v7 v8 := by
  refine ⟨h.frs.next hb (Nat.le_refl _), own_next h.row hb (Nat.le_refl _), Cv.ownB_next h.rts hb, ?_, h.mg, h.bel.trans (hb.mono (by have := h.frs.lt; omega))⟩
  obtain ⟨a, d, e⟩ := h.cc
  exact ⟨a, d, (hb.block gc h.lt).trans e⟩
theorem RJ.bgrown (h : RJ w wr m gc K M R P v7 v8) {y : Value} (hy : ∀ g, y.ownBlock = some g → gc + 1 ≤ g) (hg : wr.grownBy wa y.ownBlock) : Below (gc + 1) wr wa :=
  ⟨hg.os, hg.tape, hg.output, hg.size, fun q hq => hg.block q (by have := h.lt; omega) fun e => by have := hy q e.symm; omega⟩
theorem RJ.growS (h : RJ w wr m gc K M R P v7 v8) (ho : OwnS wa (gc + 1) v' R') (hg : wr.grownBy wa v7.ownBlock) : RJ w wa m gc K M R' P v' v8 := by
  have hb := h.bgrown (fun g e => (own_block h.row e).1) hg
  have := h.mg
  refine ⟨h.frs.grown h.row (by decide) hg, ho, row_grown h.rts h.row (by decide) hg, ?_, h.mg, h.bel.trans (hb.mono (by omega))⟩
  obtain ⟨a, d, e⟩ := h.cc
  exact ⟨a, d, (hb.block gc (by omega)).trans e⟩
theorem RJ.growR (h : RJ w wr m gc K M R P v7 v8) (ho : OwnR wa (gc + 1) v' P') (hg : wr.grownBy wa v8.ownBlock) : RJ w wa m gc K M R P' v7 v' := by
  have hb := h.bgrown (fun g e => (own_block h.rts e).1) hg
  have := h.mg
  refine ⟨h.frs.grown h.rts (by decide) hg, row_grown h.row h.rts (by decide) hg, ho, ?_, h.mg, h.bel.trans (hb.mono (by omega))⟩
  obtain ⟨a, d, e⟩ := h.cc
  exact ⟨a, d, (hb.block gc (by omega)).trans e⟩
theorem RJ.fr (h : RJ w wr m gc K M R P v7 v8) (j : Nat) : wr.frozen? ⟨gc, j, none⟩ = false := by
  obtain ⟨a, d, e⟩ := h.cc
  exact frozen_of_row wr gc j _ _ e
theorem RJ.set (h : RJ w wr m gc K M R P v7 v8) (a : Int) (d : ByteArray) : RJ w ((wr.setCell ⟨gc, 0, none⟩ (.int .u64 a)).setCell ⟨gc, 1, none⟩ (.string d)) m gc K M R P v7 v8 ∧
    ((wr.setCell ⟨gc, 0, none⟩ (.int .u64 a)).setCell ⟨gc, 1, none⟩ (.string d)).heap[gc]? = some (.cells #[.int .u64 a, .string d] 41 (0, 0)) := by
  obtain ⟨a0, d0, e⟩ := h.cc
  have es1 := heap_setCell_same wr gc 0 _ 41 (.int .u64 a) e
  have es2 := heap_setCell_same _ gc 1 _ 41 (.string d) es1
  have hnb : ∀ b, b ≠ gc → ((wr.setCell ⟨gc, 0, none⟩ (.int .u64 a)).setCell ⟨gc, 1, none⟩ (.string d)).heap[b]? = wr.heap[b]? := fun b hb =>
    (Below.heap_setCell _ ⟨gc, 1, none⟩ _ b hb).trans (Below.heap_setCell _ ⟨gc, 0, none⟩ _ b hb)
  have hmg := h.mg
  refine ⟨⟨h.frs.same (hnb m (by omega)) (hnb (m + 1) (by omega)), row_keep h.row fun g hg => hnb g (by have := (own_block h.row hg).1; omega), row_keep h.rts fun g hg => hnb g (by have := (own_block h.rts hg).1; omega), ⟨a, d, es2⟩, hmg, ?_⟩, es2⟩
  exact (h.bel.setCell (p := ⟨gc, 0, none⟩) (by show m ≤ gc; omega) _).setCell (p := ⟨gc, 1, none⟩) (by show m ≤ gc; omega) _
theorem RJ.cells (h : RJ w wr m gc K M R P v7 v8) : ∃ (a : Int) (d : ByteArray), wr.cell? ⟨gc, 0, none⟩ = some (.int .u64 a) ∧ wr.cell? ⟨gc, 1, none⟩ = some (.string d) := by
  obtain ⟨a, d, e⟩ := h.cc
  exact ⟨a, d, by rw [cell_of_row wr gc 0 _ _ (0, 0) e]; rfl, by rw [cell_of_row wr gc 1 _ _ (0, 0) e]; rfl⟩
end
theorem two_cells {w : World} {g : Nat} {a : Int} {d : ByteArray} (e : w.heap[g]? = some (.cells #[.int .u64 a, .string d] 41 (0, 0))) : w.cell? ⟨g, 0, none⟩ = some (.int .u64 a) ∧ w.cell? ⟨g, 1, none⟩ = some (.string d) :=
  ⟨by rw [cell_of_row w g 0 _ _ (0, 0) e]; rfl, by rw [cell_of_row w g 1 _ _ (0, 0) e]; rfl⟩
/-- A root in a list of them. -/
theorem ownR_at {w : World} {B : Nat} {v : Value} {l : List (Nat × ByteArray)} (h : OwnR w B v l) {j n : Nat} {d : ByteArray} (hj : l[j]? = some (n, d)) :
    ∃ g cap, v = .slice (some ⟨g, 0, none⟩) l.length cap ∧ w.cell? ⟨g, j * 2, none⟩ = some (.int .u64 (n : Int)) ∧ w.cell? ⟨g, j * 2 + 1, none⟩ = some (.string d) := by
  have h0 := h
  obtain ⟨h1, h2⟩ := h
  rcases h2 with ⟨_, h2⟩ | ⟨g, cap, cur, rfl, hg, hh, hc1, hc2, hc3, hc4⟩
  · have : l = [] := List.length_eq_zero_iff.1 h2
    subst this
    cases hj
  · have hcl := h0.cells (g := g) rfl
    obtain ⟨e1, e2⟩ := cR_get l j n d hj
    have f1 := hcl _ _ e1
    have f2 := hcl _ _ e2
    rw [Addr.add_mid, Nat.zero_add, Nat.mul_comm] at f1 f2
    exact ⟨g, cap, rfl, f1, f2⟩
end Go.Proofs.YtabdobdopcfllaaDoor
