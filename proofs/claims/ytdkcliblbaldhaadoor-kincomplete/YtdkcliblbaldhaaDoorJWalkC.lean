/-
  Walks of package kin: join (the function literal). Own work.
-/
import Derived.Test.YtdkcliblbaldhaaDoorJWalkB
import Derived.Test.YtdkcliblbaldhaaDoorPlan2
import Derived.Deep.RegionHeld3
import Derived.Laws.StructEq
namespace Go.Proofs.YtdkcliblbaldhaaDoor
open Go.RowKit
open Cv (RdC zl cU cov)
open Pl (pw)
attribute [local go_sem ↓] Go.wp_at_zero Go.wp_at_succ
/-- Blocks and their digests. -/
abbrev dgF (F : Nat → Nat → ByteArray) (T : List (Nat × Nat)) : List ByteArray := T.map fun b => F b.1 b.2
/-- Join on its way: the block at q, all before it side by side. -/
structure JL (w wr : World) (s0 q : Nat) (F : Nat → Nat → ByteArray) (h k h' k' : Nat) (v u : Value) : Prop where
  js : JS wr s0 v u (cov 0 (k' * pw h')) (dgF F (cov 0 (k' * pw h')))
  tw : Tw wr q (h' : Int) k'
  hv : ∀ g, v.ownBlock = some g → g < q
  en : (k' + 1) * pw h' = (k + 1) * pw h
  hh : h ≤ h'
  be : Below (s0 + 1) w wr
  hq : s0 + 2 < q
section
variable {w wr W : World} {s0 q : Nat} {F : Nat → Nat → ByteArray} {h k h' k' : Nat} {v u : Value}
theorem JL.hu (j : JL w wr s0 q F h k h' k' v u) : ∀ g, u.ownBlock = some g → g ≠ q := own_ty j.js.op j.tw (by decide)
theorem JL.next (j : JL w wr s0 q F h k h' k' v u) (hb : Below wr.heap.size wr W) : JL w W s0 q F h k h' k' v u :=
  ⟨j.js.next hb, j.tw.next hb, j.hv, j.en, j.hh, j.be.trans (hb.mono (by have := j.js.lt; omega)), j.hq⟩
end
theorem getD_last {α : Type} (l : List α) (x d : α) : (l ++ [x]).getD l.length d = x := by rw [List.getD_eq_getElem?_getD, List.getElem?_append_right (Nat.le_refl _), Nat.sub_self]; rfl
/-- What stands at the end of both lists. -/
theorem js_last {w : World} {s0 : Nat} {v u : Value} {C : List (Nat × Nat)} {h k : Nat} {P : List ByteArray} {d : ByteArray} (j : JS w s0 v u (C ++ [(h, k)]) (P ++ [d])) : ∃ g cap gu cu, v = .slice (some ⟨g, 0, none⟩) (C.length + 1) cap ∧ u = .slice (some ⟨gu, 0, none⟩) (P.length + 1) cu ∧ C.length + 1 ≤ cap ∧ P.length + 1 ≤ cu ∧ w.cell? ⟨g, C.length * 2, none⟩ = some (.int .i64 (h : Int)) ∧ w.cell? ⟨g, C.length * 2 + 1, none⟩ = some (.int .u64 (k : Int)) ∧ w.cell? ⟨gu, P.length, none⟩ = some (.string d) := by
  have o1 := j.ot
  have o2 := j.op
  obtain ⟨ao, n, c, rfl⟩ := Cv.own_slice o1
  obtain ⟨au, nu, cu, rfl⟩ := Cv.own_slice o2
  have l1 := own_len o1
  have l2 := own_len o2
  obtain ⟨g, rfl, _, _⟩ := own_some o1 (by rw [Cv.zl_len, List.length_append]; simp)
  obtain ⟨gu, rfl, _, _⟩ := own_some o2 (by rw [List.length_append]; simp)
  rw [Cv.zl_len, List.length_append, List.length_singleton] at l1
  rw [List.length_append, List.length_singleton] at l2
  subst l1 l2
  have e1 := o1.cells (g := g) rfl
  have e2 := o2.cells (g := gu) rfl
  obtain ⟨f1, f2⟩ := Cv.cB_get (zl (C ++ [(h, k)])) C.length (h : Int) k (by rw [Cv.zl_app, List.getElem?_append_right (by rw [Cv.zl_len]; exact Nat.le_refl _), Cv.zl_len, Nat.sub_self]; rfl)
  have f1 := e1 _ _ f1
  have f2 := e1 _ _ f2
  have f3 := e2 P.length (.string d) (by rw [List.map_append, List.getElem?_append_right (by rw [List.length_map]; exact Nat.le_refl _), List.length_map, Nat.sub_self]; rfl)
  rw [Addr.add_mid, Nat.zero_add, Nat.mul_comm] at f1 f2
  rw [Addr.add_mid, Nat.zero_add] at f3
  have c1 : C.length + 1 ≤ c := by
    rcases o1.2 with ⟨h1, _⟩ | ⟨_, _, _, h1, _, _, h2, _⟩
    · cases h1
    · obtain ⟨_, _, e3⟩ := Value.slice.inj h1; rw [Cv.zl_len, List.length_append, List.length_singleton, ← e3] at h2; exact h2
  have c2 : P.length + 1 ≤ cu := by
    rcases o2.2 with ⟨h1, _⟩ | ⟨_, _, _, h1, _, _, h2, _⟩
    · cases h1
    · obtain ⟨_, _, e3⟩ := Value.slice.inj h1; rw [List.length_append, List.length_singleton, ← e3] at h2; exact h2
  exact ⟨g, c, gu, cu, rfl, rfl, c1, c2, f1, f2, f3⟩
/-- A join: both lists are cut, the block is put in its place. -/
theorem JL.up {w wr : World} {s0 q : Nat} {F : Nat → Nat → ByteArray} {h k h' a g cap gu cu : Nat} (C : List (Nat × Nat)) (hC : cov 0 (2 * a * pw h') = C) (hl : (k + 1) * pw h ≤ 2 ^ 40) (j : JL w wr s0 q F h k h' (2 * a + 1) (.slice (some ⟨g, 0, none⟩) (C.length + 1) cap) (.slice (some ⟨gu, 0, none⟩) (C.length + 1) cu)) (W : World) (hW : (((putB wr q ((h' + 1 : Nat) : Int) a).setCell ⟨s0 + 1, 0, none⟩ (.slice (some ⟨g, 0, none⟩) C.length cap)).setCell ⟨s0 + 2, 0, none⟩ (.slice (some ⟨gu, 0, none⟩) C.length cu)) = W) :
    JL w W s0 q F h k (h' + 1) a (.slice (some ⟨g, 0, none⟩) C.length cap) (.slice (some ⟨gu, 0, none⟩) C.length cu) := by
  have hen := j.en
  have ht : cov 0 ((2 * a + 1) * pw h') = C ++ [(h', 2 * a)] := by
    rw [← hC]
    refine cov_odd h' a (Nat.le_trans ?_ hl)
    rw [← hen]
    exact Nat.mul_le_mul_right _ (by omega)
  have ht2 : cov 0 (a * pw (h' + 1)) = C := by rw [Cv.mul_half, hC]
  have hjs := j.js
  rw [ht] at hjs
  have hne1 := (World.ownsRow.lt hjs.ot g rfl).1
  have hne2 := (World.ownsRow.lt hjs.op gu rfl).1
  have hgq : g < q := j.hv g rfl
  have huq : gu ≠ q := j.hu gu rfl
  have hq := j.hq
  have ch1 := putB_ch wr q ((h' + 1 : Nat) : Int) a
  obtain ⟨W1, hW1⟩ : ∃ W1, putB wr q ((h' + 1 : Nat) : Int) a = W1 := ⟨_, rfl⟩
  have tw1 := j.tw.put ((h' + 1 : Nat) : Int) a
  rw [hW1] at ch1 hW tw1
  have b1 : ∀ b, b ≠ q → W1.heap[b]? = wr.heap[b]? := fun b hb => ch1.block b hb
  have c1 := (b1 (s0 + 1) (by omega)).trans hjs.ct
  have c2 := (b1 (s0 + 2) (by omega)).trans hjs.cp
  have x1 := heap_setCell_same W1 (s0 + 1) 0 _ _ (.slice (some ⟨g, 0, none⟩) C.length cap) c1
  obtain ⟨W2, hW2⟩ : ∃ W2, W1.setCell ⟨s0 + 1, 0, none⟩ (.slice (some ⟨g, 0, none⟩) C.length cap) = W2 := ⟨_, rfl⟩
  have k2 : ChT (fun b => b = s0 + 1) W1 W2 := by rw [← hW2]; exact (ChT.refl _ _).set (s0 + 1) 0 _ rfl
  rw [hW2] at x1 hW
  have c2' := (k2.block (s0 + 2) (by omega)).trans c2
  have x2 := heap_setCell_same W2 (s0 + 2) 0 _ _ (.slice (some ⟨gu, 0, none⟩) C.length cu) c2'
  have k3 : ChT (fun b => b = s0 + 2) W2 W := by rw [← hW]; exact (ChT.refl _ _).set (s0 + 2) 0 _ rfl
  rw [hW] at x2
  have bb : ∀ b, b ≠ q → b ≠ s0 + 1 → b ≠ s0 + 2 → W.heap[b]? = wr.heap[b]? := fun b h1 h2 h3 => ((k3.block b h3).trans (k2.block b h2)).trans (b1 b h1)
  have ot : Cv.OwnB W (s0 + 3) (.slice (some ⟨g, 0, none⟩) C.length cap) (zl C) := by
    have o := hjs.ot
    rw [Cv.zl_app, Cv.OwnB, Cv.cB_app, List.length_append] at o
    have o' := own_cut (n := (zl C).length + 1) (m := (zl C).length) (by rw [Cv.zl_len] at o ⊢; exact o) (Cv.cB_len (zl C)) (by omega)
    rw [Cv.zl_len] at o'
    have o2 : Cv.OwnB wr (s0 + 3) (.slice (some ⟨g, 0, none⟩) C.length cap) (zl C) := by
      show wr.ownsRow (s0 + 3) 82 2 _ (zl C).length (Cv.cB (zl C))
      rw [Cv.zl_len]; exact o'
    refine keep_row o2 fun b hb _ => ?_
    cases hb
    exact bb g (by omega) (by omega) (by omega)
  have op : OwnS W (s0 + 3) (.slice (some ⟨gu, 0, none⟩) C.length cu) (dgF F C) := by
    have o := hjs.op
    rw [dgF, List.map_append, OwnS, List.map_append, List.length_append] at o
    have o' := own_cut (n := (dgF F C).length + 1) (m := (dgF F C).length) (by rw [List.length_map] at o ⊢; exact o) (by rw [List.length_map, Nat.mul_one]) (by omega)
    rw [List.length_map] at o'
    have o2 : OwnS wr (s0 + 3) (.slice (some ⟨gu, 0, none⟩) C.length cu) (dgF F C) := by
      show wr.ownsRow (s0 + 3) 9 1 _ (dgF F C).length ((dgF F C).map Value.string)
      rw [List.length_map]; exact o'
    refine keep_row o2 fun b hb _ => ?_
    cases hb
    exact bb gu huq (by omega) (by omega)
  refine ⟨?_, ?_, j.hv, ?_, by have := j.hh; omega, ?_, hq⟩
  · rw [ht2]
    exact ⟨(k3.block (s0 + 1) (by omega)).trans x1, x2, ot, op⟩
  · exact (tw1.same (k2.block q (by omega))).same (k3.block q (by omega))
  · rw [← hen, Cv.mul_half, show 2 * (a + 1) = 2 * a + 1 + 1 by omega]
  · have hz1 : Below (s0 + 1) wr W1 := ch1.below (by rintro b rfl; omega)
    have hz2 : Below (s0 + 1) W1 W2 := k2.below (by rintro b rfl; omega)
    have hz3 : Below (s0 + 1) W2 W := k3.below (by rintro b rfl; omega)
    exact ((j.be.trans hz1).trans hz2).trans hz3
end Go.Proofs.YtdkcliblbaldhaaDoor
