/-
  ForestFresh: what is held as items come. Own work.
-/
import Derived.Test.YtabdobdopcfllaaDoorFMem
namespace Go.Proofs.YtabdobdopcfllaaDoor
open Go.RowKit
open Mm (Fam OwnV dv Apart)
/-- The forest, the lists that it answered (fs), the list of lists, the list of blocks. -/
structure FQ (w3 wr : World) (m : Nat) (K : Int) (L : List ByteArray) (fs : List Value) (Ls : List (List ByteArray)) (vs : List Value) (vA vB : Value) (bl : List (Int × Nat)) : Prop where
  frs : Frs wr m K L
  fam : Fam wr w3.heap.size fs Ls
  all : OwnV wr w3.heap.size vA vs
  blk : Cv.OwnB wr w3.heap.size vB bl
  ch : Chf m w3 wr
  mlt : m + 1 < w3.heap.size
section
variable {w3 wr wa : World} {m : Nat} {K : Int} {L L' D : List ByteArray} {fs vs vs' : List Value} {Ls : List (List ByteArray)} {vA vB v' v : Value} {bl bl' : List (Int × Nat)}
theorem FQ.big (h : FQ w3 wr m K L fs Ls vs vA vB bl) : w3.heap.size ≤ wr.heap.size := h.ch.size
theorem FQ.next (h : FQ w3 wr m K L fs Ls vs vA vB bl) (hb : Below wr.heap.size wr wa) : FQ w3 wa m K L fs Ls vs vA vB bl :=
  ⟨h.frs.next hb (Nat.le_refl _), Mm.fam_next h.fam hb, Mm.ownB_next h.all hb, Cv.ownB_next h.blk hb, h.ch.next hb (by have := h.mlt; omega), h.mlt⟩
theorem fam_chf {B : Nat} (h : Fam wr B fs Ls) (hF : Frs wr m K L) (hc : Chf m wr wa) : Fam wa B fs Ls := ⟨h.len, fun i hi => row_chf (h.own i hi) hF hc (by decide), h.dj⟩
theorem fam_add {B n0 : Nat} (h : Fam wa B fs Ls) (hlt : ∀ i, i < fs.length → ∀ g, (fs.getD i dv).ownBlock = some g → g < n0) (hB : B ≤ n0) (ho : OwnS wa n0 v D) : Fam wa B (fs ++ [v]) (Ls ++ [D]) := by
  refine ⟨by simp [h.len], fun i hi => ?_, fun i j hi hj hne => ?_⟩
  · rw [Mm.getD_snoc, Mm.getD_snoc, ← h.len]
    by_cases h1 : i < fs.length
    · rw [if_pos h1, if_pos h1]; exact h.own i h1
    · have h2 : i = fs.length := by simp at hi; omega
      rw [if_neg h1, if_neg h1, if_pos h2, if_pos h2]; exact World.ownsRow.mono ho hB
  · simp at hi hj
    rw [Mm.getD_snoc, Mm.getD_snoc]
    by_cases h1 : i < fs.length
    · rw [if_pos h1]
      by_cases h2 : j < fs.length
      · rw [if_pos h2]; exact h.dj i j h1 h2 hne
      · rw [if_neg h2, if_pos (by omega)]
        intro k k1 k2
        have a1 := hlt i h1 k k1
        have a2 := (Mm.owns_lt ho k k2).1
        omega
    · rw [if_neg h1, if_pos (show i = fs.length by omega), if_pos (show j < fs.length by omega)]
      intro k k1 k2
      have a1 := hlt j (by omega) k k2
      have a2 := (Mm.owns_lt ho k k1).1
      omega
/-- An item is laid. -/
theorem FQ.chf (h : FQ w3 wr m K L fs Ls vs vA vB bl) (hc : Chf m wr wa) (hF : Frs wa m K L') (ho : OwnS wa wr.heap.size v D) : FQ w3 wa m K L' (fs ++ [v]) (Ls ++ [D]) vs vA vB bl :=
  ⟨hF, fam_add (fam_chf h.fam h.frs hc) (fun i hi g hg => (Mm.owns_lt (h.fam.own i hi) g hg).2) h.big ho, row_chf h.all h.frs hc (by decide), row_chf h.blk h.frs hc (by decide), h.ch.trans hc, h.mlt⟩
/-- A list more. -/
theorem FQ.new (h : FQ w3 wr m K L fs Ls vs vA vB bl) (hb : Below wr.heap.size wr wa) (ho : OwnS wa wr.heap.size v D) : FQ w3 wa m K L (fs ++ [v]) (Ls ++ [D]) vs vA vB bl :=
  ⟨h.frs.next hb (Nat.le_refl _), Mm.fam_new h.fam h.big hb ho, Mm.ownB_next h.all hb, Cv.ownB_next h.blk hb, h.ch.next hb (by have := h.mlt; omega), h.mlt⟩
theorem Chf.grown {y : Value} (h : Chf m w3 wr) (hm : m < w3.heap.size) (hy : ∀ g, y.ownBlock = some g → w3.heap.size ≤ g) (hg : wr.grownBy wa y.ownBlock) : Chf m w3 wa := by
  have hsz := h.size
  refine ⟨h.below.trans ⟨hg.os, hg.tape, hg.output, hg.size, fun q hq => hg.block q (by omega) fun e => ?_⟩, fun q hq x z => (hg.block q (by omega) fun e => ?_).trans (h.block q hq x z)⟩
  · have := hy q e.symm; omega
  · have := hy q e.symm; omega
theorem FQ.growB (h : FQ w3 wr m K L fs Ls vs vA vB bl) (ho : Cv.OwnB wa w3.heap.size v' bl') (hg : wr.grownBy wa vB.ownBlock) : FQ w3 wa m K L fs Ls vs vA v' bl' :=
  ⟨h.frs.grown h.blk (by decide) hg, Mm.fam_ty h.fam h.blk (by decide) hg, row_grown h.all h.blk (by decide) hg, ho, h.ch.grown (by have := h.mlt; omega) (fun g e => (own_block h.blk e).1) hg, h.mlt⟩
theorem FQ.growV (h : FQ w3 wr m K L fs Ls vs vA vB bl) (ho : OwnV wa w3.heap.size v' vs') (hg : wr.grownBy wa vA.ownBlock) : FQ w3 wa m K L fs Ls vs' v' vB bl :=
  ⟨h.frs.grown h.all (by decide) hg, Mm.fam_ty h.fam h.all (by decide) hg, ho, row_grown h.blk h.all (by decide) hg, h.ch.grown (by have := h.mlt; omega) (fun g e => (own_block h.all e).1) hg, h.mlt⟩
end
/-- A world's beginning. -/
def cutW (w : World) (B : Nat) : World := { w with heap := w.heap.extract 0 B }
theorem cutW_size {w : World} {B : Nat} (h : B ≤ w.heap.size) : (cutW w B).heap.size = B := by simp [cutW, h]
theorem cutW_block {w : World} {B q : Nat} (h : B ≤ w.heap.size) (hq : q < B) : (cutW w B).heap[q]? = w.heap[q]? := by
  simp [cutW, Array.getElem?_extract]
  omega
theorem below_cut {w : World} {B : Nat} (h : B ≤ w.heap.size) : Below B (cutW w B) w := ⟨rfl, rfl, rfl, by rw [cutW_size h]; exact h, fun q hq => (cutW_block h hq).symm⟩
/-- The leaves' blocks, their digests. -/
def lvB (i : Nat) : List (Int × Nat) := (List.range i).map fun j => ((0 : Int), j)
theorem lvB_succ (i : Nat) : lvB (i + 1) = lvB i ++ [((0 : Int), i)] := by simp [lvB, List.range_succ]
theorem lvB_len (i : Nat) : (lvB i).length = i := by simp [lvB]
def lvs (c : Nat) (L : List ByteArray) : List ByteArray := (List.range L.length).map fun j => nd c L 0 j
theorem lvs_len (c : Nat) (L : List ByteArray) : (lvs c L).length = L.length := by simp [lvs]
theorem lvB_fit {i : Nat} (hi : i ≤ 65536) : ∀ b ∈ lvB i, Fitb b.1 b.2 := by
  intro b hb
  obtain ⟨j, hj, rfl⟩ := List.mem_map.1 hb
  have := List.mem_range.1 hj
  exact ⟨⟨by show -9223372036854775808 ≤ (0 : Int); omega, by show (0 : Int) ≤ 9223372036854775807; omega⟩, by show j < _; omega⟩
theorem dgs_lv (c : Nat) (L : List ByteArray) : ∀ i, i ≤ L.length → dgs c L (lvB i) = some ((List.range i).map fun j => nd c L 0 j)
  | 0, _ => rfl
  | i + 1, h => by
    rw [lvB_succ, dgs_app (h := (0 : Int)) (x := nd c L 0 i) (show ff c L ((0 : Nat) : Int) i = _ from ff_nat c L 0 i (by simp; omega)) (dgs_lv c L i (by omega)), List.range_succ, List.map_append]
    rfl
/-- What is answered, item by item. -/
def ansL (c : Nat) (T : List ByteArray) : Nat → List (List ByteArray)
  | 0 => []
  | i + 1 => ansL c T i ++ [nw c (T.take (i + 1)) (tr 64 (i + 1)), lvs c (T.take (i + 1)), lvs c (T.take (i + 1))]
theorem ansL_len (c : Nat) (T : List ByteArray) : ∀ i, (ansL c T i).length = 3 * i
  | 0 => rfl
  | i + 1 => by rw [ansL, List.length_append, ansL_len c T i]; simp; omega
theorem ansL_short (c : Nat) (T : List ByteArray) (hT : T.length ≤ 70) : ∀ i k, ((ansL c T i).getD k []).length ≤ 70
  | 0, k => by simp [ansL]
  | i + 1, k => by
    rw [ansL, List.getD_eq_getElem?_getD]
    by_cases h : k < (ansL c T i).length
    · rw [List.getElem?_append_left h, ← List.getD_eq_getElem?_getD]
      exact ansL_short c T hT i k
    · rw [List.getElem?_append_right (by omega)]
      have h64 := tr_le 64 (i + 1)
      match k - (ansL c T i).length with
      | 0 => simp only [List.getElem?_cons_zero, Option.getD_some]; rw [nw_len]; omega
      | 1 => simp only [List.getElem?_cons_succ, List.getElem?_cons_zero, Option.getD_some]; rw [lvs_len, List.length_take]; omega
      | 2 => simp only [List.getElem?_cons_succ, List.getElem?_cons_zero, Option.getD_some]; rw [lvs_len, List.length_take]; omega
      | n + 3 => simp
end Go.Proofs.YtabdobdopcfllaaDoor
