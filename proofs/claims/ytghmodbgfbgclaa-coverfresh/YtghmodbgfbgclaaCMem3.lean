/-
  What CoverFresh holds, as lists are lengthened. Own work.
-/
import Derived.Test.YtghmodbgfbgclaaCMem2
namespace Go.Proofs.Ytghmodbgfbgclaa
open Go.RowKit
attribute [local go_sem ↓] Go.wp_at_zero Go.wp_at_succ
/-- The marks of list k, e more of them. -/
def mk6 (Ls : List (List (Int × Nat))) (k e : Nat) : List (Int × Nat) := List.replicate ((Ls.getD k []).length + e) (-1 - (k : Int), 0)
theorem mk6_len (Ls : List (List (Int × Nat))) (k e : Nat) : (mk6 Ls k e).length = (Ls.getD k []).length + e := List.length_replicate
theorem mk6_get (Ls : List (List (Int × Nat))) (k e j : Nat) (h : j < (Ls.getD k []).length + e) : (mk6 Ls k e).getD j (0, 0) = (-1 - (k : Int), 0) := by
  rw [mk6, List.getD_eq_getElem?_getD, List.getElem?_replicate, if_pos h]; rfl
theorem mk6_succ (Ls : List (List (Int × Nat))) (k e : Nat) : mk6 Ls k (e + 1) = mk6 Ls k e ++ [(-1 - (k : Int), 0)] := by rw [mk6, ← Nat.add_assoc, List.replicate_succ']; rfl
theorem mk6_head (Ls : List (List (Int × Nat))) (k e : Nat) : ∃ r, mk6 Ls k e = mk6 Ls k 0 ++ r := ⟨List.replicate e _, by rw [mk6, mk6, Nat.add_zero, List.replicate_append_replicate]⟩
structure P4 (w wr : World) (vs us ms : List Value) (Ls : List (List (Int × Nat))) (vA vW vM vS : Value) (S : List Nat) (i : Nat) : Prop where
  A : ∀ k, k < 6 → OwnB wr w.heap.size (vs.getD k dv) (mk6 Ls k 0)
  U : ∀ k, k < 6 → OwnB wr w.heap.size (us.getD k dv) (Ls.getD k [])
  Mm : ∀ k, k < i → OwnB wr w.heap.size (ms.getD k dv) (mk6 Ls k 60)
  dMV : ∀ k, k < i → ∀ j, j < 6 → j ≠ k → Apart (ms.getD k dv) (vs.getD j dv)
  all : OwnV wr w.heap.size vA vs
  was : OwnV wr w.heap.size vW us
  more : OwnV wr w.heap.size vM ms
  nA : vA.ownBlock = none ∨ vA.ownBlock ≠ vM.ownBlock
  nW : vW.ownBlock = none ∨ vW.ownBlock ≠ vM.ownBlock
  fr : Fr w wr vS S
  ml : ms.length = i
structure P5 (w wr : World) (vs us ms : List Value) (Ls : List (List (Int × Nat))) (vA vW vM vS : Value) (S : List Nat) (i t : Nat) (x : Value) : Prop where
  p : P4 w wr vs us ms Ls vA vW vM vS S i
  X : OwnB wr w.heap.size x (mk6 Ls i t)
  dX : ∀ k, k < 6 → k ≠ i → Apart (vs.getD k dv) x
  dU : ∀ k, k < 6 → Apart (us.getD k dv) x
  dM : ∀ k, k < i → Apart (ms.getD k dv) x
variable {w wr : World} {vs us ms : List Value} {Ls : List (List (Int × Nat))} {vA vW vM vS : Value} {S : List Nat} {i t : Nat} {x : Value}
theorem P4.next (h : P4 w wr vs us ms Ls vA vW vM vS S i) {w' : World} (hb : Below wr.heap.size wr w') : P4 w w' vs us ms Ls vA vW vM vS S i :=
  ⟨fun k hk => ownB_next (h.A k hk) hb, fun k hk => ownB_next (h.U k hk) hb, fun k hk => ownB_next (h.Mm k hk) hb, h.dMV, ownB_next h.all hb, ownB_next h.was hb, ownB_next h.more hb, h.nA, h.nW, h.fr.next hb, h.ml⟩
theorem P5.next (h : P5 w wr vs us ms Ls vA vW vM vS S i t x) {w' : World} (hb : Below wr.heap.size wr w') : P5 w w' vs us ms Ls vA vW vM vS S i t x := ⟨h.p.next hb, ownB_next h.X hb, h.dX, h.dU, h.dM⟩
theorem P4.start (h : P4 w wr vs us ms Ls vA vW vM vS S i) (hi : i < 6) (dVV : ∀ k j, k < 6 → j < 6 → k ≠ j → Apart (vs.getD k dv) (vs.getD j dv)) (dUV : ∀ k j, k < 6 → j < 6 → Apart (us.getD k dv) (vs.getD j dv)) : P5 w wr vs us ms Ls vA vW vM vS S i 0 (vs.getD i dv) :=
  ⟨h, h.A i hi, fun k hk hne => dVV k i hk hi hne, fun k hk => dUV k i hk hi, fun k hk => h.dMV k hk i hi (by omega)⟩
theorem kept_apart {w' : World} {B g : Nat} {u y : Value} {L : List (Int × Nat)} (h : OwnB wr B u L) (ha : Apart u y) (hy : y.ownBlock = some g) (hg : wr.grownBy w' (some g)) : OwnB w' B u L := h.kept hg (.inr (fun e => ha g e hy))
theorem ownV_cells {w : World} {B g n cap : Nat} {vs : List Value} (h : OwnV w B (.slice (some ⟨g, 0, none⟩) n cap) vs) (i : Nat) (hi : i < vs.length) : w.cell? ⟨g, i, none⟩ = some (vs.getD i dv) := by
  obtain ⟨g', c', e', h'⟩ := ownV_cell h hi
  obtain ⟨e1, _, _⟩ := Value.slice.inj e'
  cases e1; exact h'
theorem P5.app (h : P5 w wr vs us ms Ls vA vW vM vS S i t x) (hi : i < 6) {w1 : World} {x' : Value} (r1 : OwnB w1 w.heap.size x' (mk6 Ls i t ++ [(-1 - (i : Int), 0)]))
    (r2 : (∃ g n cap, x = .slice (some ⟨g, 0, none⟩) n cap ∧ x' = .slice (some ⟨g, 0, none⟩) (n + 1) cap ∧ wr.grownBy w1 (some g)) ∨ (wr.grownBy w1 none ∧ ∀ g, x'.ownBlock = some g → wr.heap.size ≤ g)) : P5 w w1 vs us ms Ls vA vW vM vS S i (t + 1) x' := by
  rw [← mk6_succ] at r1
  rcases r2 with ⟨g, n, cap, rfl, rfl, hg⟩ | ⟨hg, hf⟩
  · have hX := h.X
    refine ⟨⟨fun k hk => ?_, fun k hk => kept_apart (h.p.U k hk) (h.dU k hk) rfl hg, fun k hk => kept_apart (h.p.Mm k hk) (h.dM k hk) rfl hg, h.p.dMV, kept_ty h.p.all hX (by decide) hg, kept_ty h.p.was hX (by decide) hg, kept_ty h.p.more hX (by decide) hg, h.p.nA, h.p.nW, h.p.fr.grow hX (by decide) hg, h.p.ml⟩, r1, fun k hk hne => h.dX k hk hne, h.dU, h.dM⟩
    by_cases e : k = i
    · subst e
      have hA := h.p.A k hk
      by_cases e2 : (vs.getD k dv).ownBlock = some g
      · obtain ⟨ao, n0, c0, hv⟩ := own_slice hA
        rw [hv] at hA e2 ⊢
        obtain ⟨g0, hg0⟩ : ∃ g0, ao = some g0 := by
          cases ao with
          | none => cases e2
          | some g0 => exact ⟨g0, rfl⟩
        subst hg0
        rcases hA.2 with ⟨h4, _⟩ | ⟨g3, c3, cur3, hv3, _⟩
        · cases h4
        obtain ⟨i1, i2, i3⟩ := Value.slice.inj hv3
        cases i1
        have : g3 = g := by simpa [Value.ownBlock] using e2
        subst this
        obtain ⟨r, hr⟩ := mk6_head Ls k (t + 1)
        rw [hr] at r1
        exact ownB_head hA hX r1
      · exact hA.kept hg (.inr e2)
    · exact kept_apart (h.p.A k hk) (h.dX k hk e) rfl hg
  · have hb : Below wr.heap.size wr w1 := (Below.refl _ _).grown hg (Nat.le_refl _) (fun j hj => by cases hj)
    have far : ∀ {u : Value} {L : List (Int × Nat)}, OwnB wr w.heap.size u L → Apart u x' := fun ho k k1 k2 => by
      have a1 := (ho.lt k k1).2
      have a2 := hf k k2
      omega
    exact ⟨h.p.next hb, r1, fun k hk _ => far (h.p.A k hk), fun k hk => far (h.p.U k hk), fun k hk => far (h.p.Mm k hk)⟩
theorem P5.push (h : P5 w wr vs us ms Ls vA vW vM vS S i 60 x) {w1 : World} {vM' : Value} (r1 : OwnV w1 w.heap.size vM' (ms ++ [x])) (r2 : wr.grownBy w1 vM.ownBlock) (r3 : vM'.ownBlock = vM.ownBlock ∨ ∀ g, vM'.ownBlock = some g → wr.heap.size ≤ g) : P4 w w1 vs us (ms ++ [x]) Ls vA vW vM' vS S (i + 1) := by
  have hm := h.p.more
  have hml := h.p.ml
  have key : ∀ {u : Value} {B n : Nat} {xs : List Value}, wr.ownsRow B 29 1 u n xs → (u.ownBlock = none ∨ u.ownBlock ≠ vM.ownBlock) → (u.ownBlock = none ∨ u.ownBlock ≠ vM'.ownBlock) := fun {u B n xs} ho hn => by
    rcases r3 with e | e
    · rw [e]; exact hn
    · cases hu : u.ownBlock with
      | none => exact .inl rfl
      | some g =>
        refine .inr (fun h2 => ?_)
        have a1 := (ho.lt g hu).2
        have a2 := e g h2.symm
        omega
  refine ⟨fun k hk => kept_ty (h.p.A k hk) hm (by decide) r2, fun k hk => kept_ty (h.p.U k hk) hm (by decide) r2, fun k hk => ?_, fun k hk j hj hne => ?_, h.p.all.kept r2 h.p.nA, h.p.was.kept r2 h.p.nW, r1, key h.p.all h.p.nA, key h.p.was h.p.nW, h.p.fr.grow hm (by decide) r2, by simp [hml]⟩
  · rw [getD_snoc, hml]
    by_cases e : k < i
    · rw [if_pos e]; exact kept_ty (h.p.Mm k e) hm (by decide) r2
    · have e2 : k = i := by omega
      rw [if_neg e, if_pos e2, e2]; exact kept_ty h.X hm (by decide) r2
  · rw [getD_snoc, hml]
    by_cases e : k < i
    · rw [if_pos e]; exact h.p.dMV k e j hj hne
    · have e2 : k = i := by omega
      rw [if_neg e, if_pos e2]; exact (h.dX j hj (by omega)).symm
end Go.Proofs.Ytghmodbgfbgclaa
