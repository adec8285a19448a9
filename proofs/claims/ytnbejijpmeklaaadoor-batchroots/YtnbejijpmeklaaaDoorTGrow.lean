/-
  Walks of slices.Grow (of nothing) and slices.Concat, of texts and of blocks. Own work.
-/
import Derived.Test.YtnbejijpmeklaaaDoorFWalkB
import Derived.Lib.AppendZeros
namespace Go.Proofs.YtnbejijpmeklaaaDoor
open Go.RowKit
open Cv (RdC Ap)
attribute [local go_sem ↓] Go.wp_at_zero Go.wp_at_succ
abbrev dn : Value := .slice none 0 0
/-- Texts as cells. -/
abbrev cS (l : List ByteArray) : List Value := l.map Value.string
theorem cS_len (l : List ByteArray) : (cS l).length = l.length * 1 := by simp [cS]
theorem cS_app (l m : List ByteArray) : cS (l ++ m) = cS l ++ cS m := List.map_append
theorem cS_one (l : List ByteArray) : ∀ u ∈ cS l, u.oneCell' = true := by
  intro u hu; obtain ⟨y, _, rfl⟩ := List.mem_map.1 hu; rfl
theorem rds_rdc {w : World} {ao : Option Addr} {b off len cap : Nat} {ss : List ByteArray} (h : RdS w ao b off len ss) (hn : ao = none → cap = 0) : RdC w (.slice ao len cap) len (cS ss) := by
  refine ⟨ao, cap, rfl, fun e => ⟨?_, hn e⟩, fun ad ha j c hj => ?_⟩
  · apply Classical.byContradiction
    intro h0
    have := h.ptr (by omega)
    rw [e] at this
    cases this
  · have hj' : j < len := by have := (List.getElem?_eq_some_iff.1 hj).1; rw [List.length_map, h.hl] at this; exact this
    have := h.ptr (by omega)
    rw [ha] at this
    cases this
    rw [Addr.add_mid]
    exact h.rng j c hj
theorem below_drew_alloc (w : World) (o : Obj) : Below w.heap.size w (w.drew.alloc o) := (Below.refl w.heap.size w).drew.alloc (by simp) o
theorem take_succ_getD {α : Type} (d : α) (l : List α) (j : Nat) (h : j < l.length) : l.take (j + 1) = l.take j ++ [l.getD j d] := by
  rw [List.take_add_one, List.getD_eq_getElem?_getD, List.getElem?_eq_getElem h]; rfl
theorem catl_le {α : Type} (Ls : List (List α)) (j : Nat) : (Ls.take j).flatten.length ≤ Ls.flatten.length := by
  have := congrArg (fun x : List (List α) => x.flatten.length) (List.take_append_drop j Ls)
  simp only [List.flatten_append, List.length_append] at this
  omega

/-- Lists to be put together. -/
structure CatS (w : World) (g0 : Nat) (us : List Value) (Ls : List (List (ByteArray))) : Prop where
  len : us.length = Ls.length
  cell : ∀ j, j < us.length → w.cell? ⟨g0, j, none⟩ = some (us.getD j dn)
  rd : ∀ j, j < us.length → RdC w (us.getD j dn) (Ls.getD j []).length (cS (Ls.getD j []))
theorem CatS.next {w W : World} {g0 : Nat} {us : List Value} {Ls : List (List (ByteArray))} (h : CatS w g0 us Ls) (hb : Below w.heap.size w W) : CatS W g0 us Ls :=
  ⟨h.len, fun j hj => (hb.cell (World.block_lt_of_cell? w _ (h.cell j hj))).trans (h.cell j hj), fun j hj => Cv.rdc_keep (h.rd j hj) hb⟩
/-- Lists to be put together. -/
structure CatB (w : World) (g0 : Nat) (us : List Value) (Ls : List (List (Int × Nat))) : Prop where
  len : us.length = Ls.length
  cell : ∀ j, j < us.length → w.cell? ⟨g0, j, none⟩ = some (us.getD j dn)
  rd : ∀ j, j < us.length → RdC w (us.getD j dn) (Ls.getD j []).length (Cv.cB (Ls.getD j []))
theorem CatB.next {w W : World} {g0 : Nat} {us : List Value} {Ls : List (List (Int × Nat))} (h : CatB w g0 us Ls) (hb : Below w.heap.size w W) : CatB W g0 us Ls :=
  ⟨h.len, fun j hj => (hb.cell (World.block_lt_of_cell? w _ (h.cell j hj))).trans (h.cell j hj), fun j hj => Cv.rdc_keep (h.rd j hj) hb⟩
end Go.Proofs.YtnbejijpmeklaaaDoor
