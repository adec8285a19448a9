/-
  What PlainFresh holds, as it goes on. Own work.
-/
import Derived.Test.YtihcdmnodpknlaaDoorPMem
namespace Go.Proofs.YtihcdmnodpknlaaDoor
open Go.RowKit
attribute [local go_sem ↓] Go.wp_at_zero Go.wp_at_succ
/-- The mark of list k. -/
def mkT (k : Nat) : ByteArray := strB [(k : Int), 109]
theorem mkT_size (k : Nat) : (mkT k).size = 2 := by rw [mkT, strB_size]; rfl
theorem conv_mark (w : World) (k : Nat) : (convert 44 9 (.slice (some ⟨w.heap.size, 0, none⟩) 2 2)).run Tryd.prog (w.alloc (.cells #[.int .u8 (k : Int), .int .u8 109] 5)) = .ok (.string (mkT k)) (w.alloc (.cells #[.int .u8 (k : Int), .int .u8 109] 5)) :=
  conv_str _ _ [(k : Int), 109] 2 rfl (range_new w (cB [(k : Int), 109]) 5)
theorem set_getD_self {α : Type} (d : α) (l : List α) (i : Nat) : l.set i (l.getD i d) = l := by
  apply List.ext_getElem?
  intro j
  rw [List.getElem?_set]
  by_cases h : i = j
  · subst h
    by_cases hl : i < l.length
    · simp [hl]
    · simp [hl]
  · simp [h]
theorem mark_set (R : List ByteArray) (j : Nat) (x : ByteArray) (h : j < R.length) : (List.replicate j x ++ R.drop j).set j x = List.replicate (j + 1) x ++ R.drop (j + 1) := by
  rw [List.set_append_right _ _ (by simp), List.length_replicate, Nat.sub_self, List.drop_eq_getElem_cons h, List.set_cons_zero, List.replicate_succ', List.append_assoc]; rfl
/-- All lists, in a list. -/
structure P3 (w wr : World) (vs : List Value) (Qs : List (List ByteArray)) (vA : Value) : Prop where
  fam : Fam wr w.heap.size vs Qs
  all : OwnV wr w.heap.size vA vs
  below : Below w.heap.size w wr
theorem P3.next {w wr w' : World} {vs : List Value} {Qs : List (List ByteArray)} {vA : Value} (h : P3 w wr vs Qs vA) (hb : Below wr.heap.size wr w') : P3 w w' vs Qs vA := ⟨fam_next h.fam hb, ownB_next h.all hb, bnext h.below hb⟩
theorem store_keep {w : World} {B e s n B' g m cap x : Nat} {u p : Value} {xs : List Value} {L : List ByteArray} (h : w.ownsRow B e s u n xs) (hv : OwnS w B' (.slice (some ⟨g, 0, none⟩) m cap) L) (hne : e ≠ 9) : (w.setCell ⟨g, x, none⟩ p).ownsRow B e s u n xs := by
  refine own_of_block h (fun b hb => ?_)
  have hbg : b ≠ g := fun e2 => by
    rcases ty_ne h hv hne with h1 | h1
    · rw [h1] at hb; cases hb
    · exact h1 (by rw [hb, e2]; rfl)
  rw [Below.heap_setCell _ _ _ _ hbg]
theorem P3.store {w wr : World} {vs : List Value} {Qs : List (List ByteArray)} {vA : Value} (h : P3 w wr vs Qs vA) (i : Nat) (hi : i < vs.length) (g m cap : Nat) (hu : vs.getD i dv = .slice (some ⟨g, 0, none⟩) m cap) (j : Nat) (x : ByteArray) :
    P3 w (wr.setCell ⟨g, j, none⟩ (.string x)) vs (Qs.set i ((Qs.getD i []).set j x)) vA := by
  have hol := h.fam.own i hi
  rw [hu] at hol
  have ho := ownS_set (j := j) hol x
  have hgB := (owns_lt hol g rfl).1
  have hf := fam_set (i := i) (L := (Qs.getD i []).set j x) h.fam hi (by rw [hu]; exact ho) (fun b hb => by
    rw [hu] at hb
    have hbg : b ≠ g := fun e => hb (by rw [e]; rfl)
    rw [Below.heap_setCell _ _ _ _ hbg])
  exact ⟨hf, store_keep h.all hol (by decide), h.below.setCell hgB _⟩
/-- The first i lists are marks. -/
def Mk (N i : Nat) (Qs Ls : List (List ByteArray)) : Prop := Qs.length = N ∧ ∀ k, k < N → Qs.getD k [] = if k < i then List.replicate (Ls.getD k []).length (mkT k) else Ls.getD k []
theorem mk_next {N i : Nat} {Qs Ls : List (List ByteArray)} {m : Nat} (h : Mk N i Qs Ls) (hi : i + 1 ≤ N) (hm : (Ls.getD i []).length = m) : Mk N (i + 1) (Qs.set i (List.replicate m (mkT i))) Ls := by
  refine ⟨by rw [List.length_set]; exact h.1, fun k hk => ?_⟩
  rw [getD_set _ _ _ _ _ (by rw [h.1]; omega)]
  by_cases e : k = i
  · subst e; rw [if_pos rfl, if_pos (by omega), hm]
  · rw [if_neg e, h.2 k hk]
    by_cases e2 : k < i
    · rw [if_pos e2, if_pos (by omega)]
    · rw [if_neg e2, if_neg (by omega)]
/-- The marks of list k, e more of them. -/
def mkE (Ls : List (List ByteArray)) (k e : Nat) : List ByteArray := List.replicate ((Ls.getD k []).length + e) (mkT k)
theorem mkE_len (Ls : List (List ByteArray)) (k e : Nat) : (mkE Ls k e).length = (Ls.getD k []).length + e := List.length_replicate
theorem mkE_get (Ls : List (List ByteArray)) (k e j : Nat) (h : j < (Ls.getD k []).length + e) : (mkE Ls k e).getD j ByteArray.empty = mkT k := by
  rw [mkE, List.getD_eq_getElem?_getD, List.getElem?_replicate, if_pos h]; rfl
theorem mkE_succ (Ls : List (List ByteArray)) (k e : Nat) : mkE Ls k (e + 1) = mkE Ls k e ++ [mkT k] := by rw [mkE, ← Nat.add_assoc, List.replicate_succ']; rfl
theorem mkE_head (Ls : List (List ByteArray)) (k e : Nat) : ∃ r, mkE Ls k e = mkE Ls k 0 ++ r := ⟨List.replicate e _, by rw [mkE, mkE, Nat.add_zero, List.replicate_append_replicate]⟩
structure P4 (w wr : World) (N : Nat) (vs ms : List Value) (Ls : List (List ByteArray)) (vA vM : Value) (i : Nat) : Prop where
  A : ∀ k, k < N → OwnS wr w.heap.size (vs.getD k dv) (mkE Ls k 0)
  Mm : ∀ k, k < i → OwnS wr w.heap.size (ms.getD k dv) (mkE Ls k 20)
  dMV : ∀ k, k < i → ∀ j, j < N → j ≠ k → Apart (ms.getD k dv) (vs.getD j dv)
  all : OwnV wr w.heap.size vA vs
  more : OwnV wr w.heap.size vM ms
  nA : vA.ownBlock = none ∨ vA.ownBlock ≠ vM.ownBlock
  below : Below w.heap.size w wr
  ml : ms.length = i
structure P5 (w wr : World) (N : Nat) (vs ms : List Value) (Ls : List (List ByteArray)) (vA vM : Value) (i t : Nat) (x : Value) : Prop where
  p : P4 w wr N vs ms Ls vA vM i
  X : OwnS wr w.heap.size x (mkE Ls i t)
  dX : ∀ k, k < N → k ≠ i → Apart (vs.getD k dv) x
  dM : ∀ k, k < i → Apart (ms.getD k dv) x
variable {w wr : World} {N : Nat} {vs ms : List Value} {Ls : List (List ByteArray)} {vA vM : Value} {i t : Nat} {x : Value}
theorem P4.next (h : P4 w wr N vs ms Ls vA vM i) {w' : World} (hb : Below wr.heap.size wr w') : P4 w w' N vs ms Ls vA vM i :=
  ⟨fun k hk => owns_step (h.A k hk) hb, fun k hk => owns_step (h.Mm k hk) hb, h.dMV, ownB_next h.all hb, ownB_next h.more hb, h.nA, bnext h.below hb, h.ml⟩
theorem P5.next (h : P5 w wr N vs ms Ls vA vM i t x) {w' : World} (hb : Below wr.heap.size wr w') : P5 w w' N vs ms Ls vA vM i t x := ⟨h.p.next hb, owns_step h.X hb, h.dX, h.dM⟩
theorem P4.start (h : P4 w wr N vs ms Ls vA vM i) (hi : i < N) (dVV : ∀ k j, k < N → j < N → k ≠ j → Apart (vs.getD k dv) (vs.getD j dv)) : P5 w wr N vs ms Ls vA vM i 0 (vs.getD i dv) :=
  ⟨h, h.A i hi, fun k hk hne => dVV k i hk hi hne, fun k hk => h.dMV k hk i hi (by omega)⟩
theorem kept_apart {w' : World} {B g : Nat} {u y : Value} {L : List ByteArray} (h : OwnS wr B u L) (ha : Apart u y) (hy : y.ownBlock = some g) (hg : wr.grownBy w' (some g)) : OwnS w' B u L := World.ownsRow.kept h hg (.inr (fun e => ha g e hy))
theorem P5.app (h : P5 w wr N vs ms Ls vA vM i t x) {w1 : World} {x' : Value} (r1 : OwnS w1 w.heap.size x' (mkE Ls i t ++ [mkT i]))
    (r2 : (∃ g n cap, x = .slice (some ⟨g, 0, none⟩) n cap ∧ x' = .slice (some ⟨g, 0, none⟩) (n + 1) cap ∧ wr.grownBy w1 (some g)) ∨ (wr.grownBy w1 none ∧ ∀ g, x'.ownBlock = some g → wr.heap.size ≤ g)) : P5 w w1 N vs ms Ls vA vM i (t + 1) x' := by
  rw [← mkE_succ] at r1
  rcases r2 with ⟨g, n, cap, rfl, rfl, hg⟩ | ⟨hg, hf⟩
  · have hX := h.X
    refine ⟨⟨fun k hk => ?_, fun k hk => kept_apart (h.p.Mm k hk) (h.dM k hk) rfl hg, h.p.dMV, kept_ty h.p.all hX (by decide) hg, kept_ty h.p.more hX (by decide) hg, h.p.nA, ownB_step0 h.p.below h.p.below.size hX hg, h.p.ml⟩, r1, fun k hk hne => h.dX k hk hne, h.dM⟩
    by_cases e : k = i
    · subst e
      have hA := h.p.A k hk
      by_cases e2 : (vs.getD k dv).ownBlock = some g
      · obtain ⟨ao, n0, c0, hv⟩ := own_slice hA
        rw [hv] at hA e2 ⊢
        obtain ⟨g0, hg0⟩ : ∃ g0, ao = some g0 := by
          cases ao with
          | none => cases e2
          | some g0 => exact ⟨g0, rfl⟩
        subst hg0
        rcases hA.2 with ⟨h4, _⟩ | ⟨g3, c3, cur3, hv3, _⟩
        · cases h4
        obtain ⟨i1, i2, i3⟩ := Value.slice.inj hv3
        cases i1
        have : g3 = g := by simpa [Value.ownBlock] using e2
        subst this
        obtain ⟨r, hr⟩ := mkE_head Ls k (t + 1)
        rw [hr] at r1
        exact ownS_head hA hX r1
      · exact World.ownsRow.kept hA hg (.inr e2)
    · exact kept_apart (h.p.A k hk) (h.dX k hk e) rfl hg
  · have hb : Below wr.heap.size wr w1 := (Below.refl _ _).grown hg (Nat.le_refl _) (fun j hj => by cases hj)
    have far : ∀ {u : Value} {L : List ByteArray}, OwnS wr w.heap.size u L → Apart u x' := fun ho k k1 k2 => by
      have a1 := (owns_lt ho k k1).2
      have a2 := hf k k2
      omega
    exact ⟨h.p.next hb, r1, fun k hk _ => far (h.p.A k hk), fun k hk => far (h.p.Mm k hk)⟩
theorem P5.push (h : P5 w wr N vs ms Ls vA vM i 20 x) {w1 : World} {vM' : Value} (r1 : OwnV w1 w.heap.size vM' (ms ++ [x])) (r2 : wr.grownBy w1 vM.ownBlock) (r3 : vM'.ownBlock = vM.ownBlock ∨ ∀ g, vM'.ownBlock = some g → wr.heap.size ≤ g) : P4 w w1 N vs (ms ++ [x]) Ls vA vM' (i + 1) := by
  have hm := h.p.more
  have hml := h.p.ml
  have key : ∀ {u : Value} {B n : Nat} {xs : List Value}, wr.ownsRow B 22 1 u n xs → (u.ownBlock = none ∨ u.ownBlock ≠ vM.ownBlock) → (u.ownBlock = none ∨ u.ownBlock ≠ vM'.ownBlock) := fun {u B n xs} ho hn => by
    rcases r3 with e | e
    · rw [e]; exact hn
    · cases hu : u.ownBlock with
      | none => exact .inl rfl
      | some g =>
        refine .inr (fun h2 => ?_)
        have a1 := (ho.lt g hu).2
        have a2 := e g h2.symm
        omega
  refine ⟨fun k hk => kept_ty (h.p.A k hk) hm (by decide) r2, fun k hk => ?_, fun k hk j hj hne => ?_, h.p.all.kept r2 h.p.nA, r1, key h.p.all h.p.nA, ownB_step0 h.p.below h.p.below.size hm r2, by simp [hml]⟩
  · rw [getD_snoc, hml]
    by_cases e : k < i
    · rw [if_pos e]; exact kept_ty (h.p.Mm k e) hm (by decide) r2
    · have e2 : k = i := by omega
      rw [if_neg e, if_pos e2, e2]; exact kept_ty h.X hm (by decide) r2
  · rw [getD_snoc, hml]
    by_cases e : k < i
    · rw [if_pos e]; exact h.p.dMV k e j hj hne
    · have e2 : k = i := by omega
      rw [if_neg e, if_pos e2]; exact (h.dX j hj (by omega)).symm
end Go.Proofs.YtihcdmnodpknlaaDoor
