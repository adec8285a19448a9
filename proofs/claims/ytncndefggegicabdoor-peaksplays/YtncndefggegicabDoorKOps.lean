/-
  Calls out of a script: a script in memory, does. Own work.
-/
import Derived.Test.YtncndefggegicabDoorKAlive
namespace Go.Proofs.YtncndefggegicabDoor
open Go.RowKit
attribute [local go_sem ↓] Go.wp_at_zero Go.wp_at_succ
/-- One call of a script. -/
structure OpV where
  kind : Int
  which : Int
  h : Int
  s : ByteArray
  r : Bool
instance : Inhabited OpV := ⟨⟨0, 0, 0, ByteArray.empty, false⟩⟩
/-- A script that can be read. -/
structure RdO (w : World) (ao : Option Addr) (b off len : Nat) (l : Nat → OpV) : Prop where
  ptr : 0 < len → ao = some ⟨b, off, none⟩
  cell : ∀ j, j < len → w.cell? ⟨b, off + (j * 5 + 0), none⟩ = some (.int .i64 (l j).kind) ∧ w.cell? ⟨b, off + (j * 5 + 1), none⟩ = some (.int .i64 (l j).which) ∧ w.cell? ⟨b, off + (j * 5 + 2), none⟩ = some (.int .i64 (l j).h) ∧ w.cell? ⟨b, off + (j * 5 + 3), none⟩ = some (.string (l j).s) ∧ w.cell? ⟨b, off + (j * 5 + 4), none⟩ = some (.bool (l j).r) ∧ (l j).s.size ≤ 140737488351232
theorem RdO.next {w W : World} {ao : Option Addr} {b off len : Nat} {l : Nat → OpV} (h : RdO w ao b off len l) (hb : Below w.heap.size w W) : RdO W ao b off len l := by
  refine ⟨h.ptr, fun j hj => ?_⟩
  obtain ⟨h0, h1, h2, h3, h4, h5⟩ := h.cell j hj
  have hlt : b < w.heap.size := World.block_lt_of_cell? _ _ h0
  exact ⟨(hb.cell (p := ⟨b, _, none⟩) hlt).trans h0, (hb.cell (p := ⟨b, _, none⟩) hlt).trans h1, (hb.cell (p := ⟨b, _, none⟩) hlt).trans h2, (hb.cell (p := ⟨b, _, none⟩) hlt).trans h3, (hb.cell (p := ⟨b, _, none⟩) hlt).trans h4, h5⟩
/-- A call's five cells, its place as a letter. -/
theorem RdO.five {w : World} {ao : Option Addr} {b off len : Nat} {l : Nat → OpV} (h : RdO w ao b off len l) {j : Nat} (hj : j < len) {a : Nat} (ha : off + j * 5 = a) :
    w.cell? ⟨b, a, none⟩ = some (.int .i64 (l j).kind) ∧ w.cell? ⟨b, a + 1, none⟩ = some (.int .i64 (l j).which) ∧ w.cell? ⟨b, a + 2, none⟩ = some (.int .i64 (l j).h) ∧ w.cell? ⟨b, a + 3, none⟩ = some (.string (l j).s) ∧ w.cell? ⟨b, a + 4, none⟩ = some (.bool (l j).r) := by
  obtain ⟨h0, h1, h2, h3, h4, _⟩ := h.cell j hj
  subst ha
  exact ⟨h0, h1, h2, h3, h4⟩
/-- The height and the text that a call brings. -/
def opH (o : OpV) : Int := if Int.tmod o.kind 2 = 0 then o.h else 0
def opS (o : OpV) (K : Int) : ByteArray := if o.r = true then padS o.s K.toNat else o.s
def opA (K : Int) (n : Nat) (P : List ByteArray) (o : OpV) : List ByteArray := if Int.tmod o.kind 2 = 0 then [] else an K n P (opH o) (opS o K)
theorem opS_size (o : OpV) {K : Int} (k2 : K ≤ 32) (h : o.s.size ≤ 140737488351232) : (opS o K).size ≤ 140737488351232 := by
  unfold opS
  split
  · rw [padS_size]; omega
  · exact h
theorem an_size {K : Int} {n : Nat} {P : List ByteArray} (h : Int) (s : ByteArray) (k1 : 1 ≤ K) (k2 : K ≤ 32) (hP : ∀ x ∈ P, x.size = clk K) : (∀ x ∈ an K n P h s, x.size ≤ 140737488351232) ∧ (an K n P h s).length ≤ 1000 := by
  unfold an
  split
  · rename_i e
    have hc := clk_of k1 k2
    have hs : s.size = clk K := by have := (er_ok e).1; omega
    refine ⟨fun x hx => ?_, ?_⟩
    · rw [(carry_size (clk_le K) _ _ _ _ hP hs).1 x hx]; have := clk_le K; omega
    · have := (carry_made (clk K) (40 - h.toNat) (n / 2 ^ h.toNat) P s).1
      rw [mk]; omega
  · exact ⟨(fun x hx => by cases hx), by simp⟩
theorem opA_size {K : Int} {n : Nat} {P : List ByteArray} (o : OpV) (k1 : 1 ≤ K) (k2 : K ≤ 32) (hP : ∀ x ∈ P, x.size = clk K) : (∀ x ∈ opA K n P o, x.size ≤ 140737488351232) ∧ (opA K n P o).length ≤ 1000 := by
  unfold opA
  split
  · exact ⟨(fun x hx => by cases hx), by simp⟩
  · exact an_size _ _ k1 k2 hP
end Go.Proofs.YtncndefggegicabDoor
