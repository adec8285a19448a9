/-
  Four lists that grow in turn. Own work.
-/
import Derived.Test.YtncndefggegicaaDoorKMemL
namespace Go.Proofs.YtncndefggegicaaDoor
open Go.RowKit
attribute [local go_sem ↓] Go.wp_at_zero Go.wp_at_succ
/-- The marks of list k, e more of them. -/
def mkE (Ls : List (List ByteArray)) (k e : Nat) : List ByteArray := List.replicate ((Ls.getD k []).length + e) (mkT k)
theorem mkE_len (Ls : List (List ByteArray)) (k e : Nat) : (mkE Ls k e).length = (Ls.getD k []).length + e := List.length_replicate
theorem mkE_get (Ls : List (List ByteArray)) (k e j : Nat) (h : j < (Ls.getD k []).length + e) : (mkE Ls k e).getD j ByteArray.empty = mkT k := by
  rw [mkE, List.getD_eq_getElem?_getD, List.getElem?_replicate, if_pos h]; rfl
theorem mkE_succ (Ls : List (List ByteArray)) (k e : Nat) : mkE Ls k (e + 1) = mkE Ls k e ++ [mkT k] := by rw [mkE, ← Nat.add_assoc, List.replicate_succ']; rfl
theorem mkE_head (Ls : List (List ByteArray)) (k e : Nat) : ∃ r, mkE Ls k e = mkE Ls k 0 ++ r := ⟨List.replicate e _, by rw [mkE, mkE, Nat.add_zero, List.replicate_append_replicate]⟩
structure M4 (w W : World) (vs ms : List Value) (Ls : List (List ByteArray)) (e : Nat → Nat) (vA vM : Value) (p1 : Nat) (v1 : Value) (p2 : Nat) (v2 : Value) (K : Int) (n : Nat) (P : List ByteArray) : Prop where
  A : ∀ k, k < 4 → OwnS W w.heap.size (vs.getD k dv) (mkE Ls k 0)
  Mm : ∀ k, k < 4 → OwnS W w.heap.size (ms.getD k dv) (mkE Ls k (e k))
  dMM : ∀ k j, k < 4 → j < 4 → k ≠ j → Apart (ms.getD k dv) (ms.getD j dv)
  dMV : ∀ k j, k < 4 → j < 4 → k ≠ j → Apart (ms.getD k dv) (vs.getD j dv)
  all : OwnV W w.heap.size vA vs
  more : OwnV W w.heap.size vM ms
  nA : vA.ownBlock = none ∨ vA.ownBlock ≠ vM.ownBlock
  r1 : Rg W p1 v1 K n P
  r2 : Rg W p2 v2 K n P
  d1 : ∀ k, k < 4 → Apart (ms.getD k dv) v1
  d2 : ∀ k, k < 4 → Apart (ms.getD k dv) v2
  below : Below w.heap.size w W
  vl : vs.length = 4
  ml : ms.length = 4
section
variable {w W W' W1 : World} {vs ms : List Value} {Ls : List (List ByteArray)} {e : Nat → Nat} {vA vM v1 v2 : Value} {p1 p2 n : Nat} {K : Int} {P : List ByteArray}
theorem M4.next (h : M4 w W vs ms Ls e vA vM p1 v1 p2 v2 K n P) (hb : Below W.heap.size W W') : M4 w W' vs ms Ls e vA vM p1 v1 p2 v2 K n P :=
  ⟨fun k hk => owns_step (h.A k hk) hb, fun k hk => owns_step (h.Mm k hk) hb, h.dMM, h.dMV, ownB_next h.all hb, ownB_next h.more hb, h.nA, h.r1.next hb (Nat.le_refl _), h.r2.next hb (Nat.le_refl _), h.d1, h.d2, bnext h.below hb, h.vl, h.ml⟩
/-- The lists are marks: they grow from here on. -/
theorem MA.start {Qs : List (List ByteArray)} (h : MA w W vs Qs vA p1 v1 p2 v2 K n P) (hm : Mk 4 4 Qs Ls) (hvl : vs.length = 4) (hM : OwnV W w.heap.size vM vs) (hn : vA.ownBlock = none ∨ vA.ownBlock ≠ vM.ownBlock) : M4 w W vs vs Ls (fun _ => 0) vA vM p1 v1 p2 v2 K n P := by
  have ho : ∀ k, k < 4 → OwnS W w.heap.size (vs.getD k dv) (mkE Ls k 0) := fun k hk => by
    have h1 := h.z.fam.own k (by omega)
    rw [hm.2 k hk, if_pos hk] at h1
    rw [mkE, Nat.add_zero]; exact h1
  exact ⟨ho, ho, fun k j hk hj hne => h.z.fam.dj k j (by omega) (by omega) hne, fun k j hk hj hne => h.z.fam.dj k j (by omega) (by omega) hne, h.all, hM, hn, h.z.r1, h.z.r2, fun k hk => h.z.d1 k (by omega), fun k hk => h.z.d2 k (by omega), h.z.below, hvl, hvl⟩
theorem Apart.blk {x x' u : Value} (h : Apart x u) (hx : x'.ownBlock = x.ownBlock) : Apart x' u := fun k h1 h2 => h k (by rw [← hx]; exact h1) h2
/-- A list in a list is put in its place. -/
theorem ownV_set {B g m cap i : Nat} {l : List Value} (h : OwnV W B (.slice (some ⟨g, 0, none⟩) m cap) l) (x : Value) : OwnV (W.setCell ⟨g, i, none⟩ x) B (.slice (some ⟨g, 0, none⟩) m cap) (l.set i x) := by
  obtain ⟨h1, h2⟩ := h
  refine ⟨by simp, .inr ?_⟩
  rcases h2 with ⟨h2, h3⟩ | ⟨g', cap', cur, hv, hg, hh, h3, h4, h5, h6⟩
  · cases h2
  · obtain ⟨e1, e2, e3⟩ := Value.slice.inj hv
    cases e1
    have s1 : (W.setCell ⟨g, i, none⟩ x).heap[g]? = _ := heap_setCell_same W g i cur _ _ hh
    refine ⟨g, cap, _, by rw [e2]; simp, hg, s1, by simpa [e3] using h3, by omega, by simpa [e3] using h5, ?_⟩
    rw [List.length_set, Array.toList_setIfInBounds, List.take_set, h6]
theorem M4.app (h : M4 w W vs ms Ls e vA vM p1 v1 p2 v2 K n P) {i : Nat} (hi : i < 4) {x' : Value} {gM cM : Nat} (hM : vM = .slice (some ⟨gM, 0, none⟩) 4 cM) (r1 : OwnS W1 w.heap.size x' (mkE Ls i (e i) ++ [mkT i]))
    (r2 : (∃ g n cap, ms.getD i dv = .slice (some ⟨g, 0, none⟩) n cap ∧ x' = .slice (some ⟨g, 0, none⟩) (n + 1) cap ∧ W.grownBy W1 (some g)) ∨ (W.grownBy W1 none ∧ ∀ g, x'.ownBlock = some g → W.heap.size ≤ g)) :
    M4 w (W1.setCell ⟨gM, i, none⟩ x') vs (ms.set i x') Ls (fun k => if k = i then e i + 1 else e k) vA vM p1 v1 p2 v2 K n P := by
  subst hM
  rw [← mkE_succ] at r1
  have hX := h.Mm i hi
  have hB := h.below.size
  -- what stays when x grows
  have keep : ∀ {u : Value} {L : List ByteArray}, OwnS W w.heap.size u L → Apart (ms.getD i dv) u → OwnS W1 w.heap.size u L ∧ Apart x' u := fun hu ha => by
    have := keepK hu hX ha hB r2
    exact ⟨this.1, this.2.1⟩
  have hbl : Below w.heap.size W W1 := by
    rcases r2 with ⟨g, m, cap, e1, _, hg⟩ | ⟨hg, _⟩
    · exact (Below.refl _ _).grown hg hB (fun k hk => by cases hk; rw [e1] at hX; exact (owns_lt hX g rfl).1)
    · exact (Below.refl _ _).grown hg hB (fun j hj => by cases hj)
  have hblk : ∀ b, b < W.heap.size → (ms.getD i dv).ownBlock ≠ some b → W1.heap[b]? = W.heap[b]? := fun b hb hne => by
    rcases r2 with ⟨g, m, cap, e1, _, hg⟩ | ⟨hg, _⟩
    · exact hg.block b hb (fun e => hne (by rw [e1]; exact e.symm))
    · exact hg.block b hb (fun e => by cases e)
  have hVi : OwnS W1 w.heap.size (vs.getD i dv) (mkE Ls i 0) := by
    have hA := h.A i hi
    rcases r2 with ⟨g, m, cap, e1, e2, hg⟩ | ⟨hg, _⟩
    · by_cases e3 : (vs.getD i dv).ownBlock = some g
      · obtain ⟨ao, n0, c0, hv⟩ := row_slice hA
        rw [hv] at hA e3 ⊢
        obtain ⟨g0, hg0⟩ : ∃ g0, ao = some g0 := by
          cases ao with
          | none => cases e3
          | some g0 => exact ⟨g0, rfl⟩
        subst hg0
        rcases hA.2 with ⟨h4, _⟩ | ⟨g3, c3, cur3, hv3, _⟩
        · cases h4
        obtain ⟨i1, i2, i3⟩ := Value.slice.inj hv3
        cases i1
        have : g3 = g := by simpa [Value.ownBlock] using e3
        subst this
        obtain ⟨r, hr⟩ := mkE_head Ls i (e i + 1)
        rw [hr, e2] at r1
        rw [e1] at hX
        exact ownS_head hA hX r1
      · exact World.ownsRow.kept hA hg (.inr e3)
    · exact owns_step hA ((Below.refl _ _).grown hg (Nat.le_refl _) (fun j hj => by cases hj))
  have tyb : ∀ {B' e' s' n' : Nat} {u : Value} {xs : List Value}, W.ownsRow B' e' s' u n' xs → e' ≠ 9 → W1.ownsRow B' e' s' u n' xs := fun hu hne => own_of_block hu (fun b hb => hblk b (World.ownsRow.lt hu b hb).2 (fun e2 => (ty_ne hu hX hne).elim (fun z => by rw [z] at hb; cases hb) (fun z => z (by rw [hb, e2]))))
  have all1 := tyb h.all (by decide)
  have more1 := tyb h.more (by decide)
  have R1 : Rg W1 p1 v1 K n P := h.r1.of_block (hblk p1 h.r1.lt (fun e2 => h.r1.ne_own hX p1 e2 rfl)) (fun b hb => hblk b (owns_lt h.r1.own b hb).2 (fun e2 => h.d1 i hi b e2 hb))
  have R2 : Rg W1 p2 v2 K n P := h.r2.of_block (hblk p2 h.r2.lt (fun e2 => h.r2.ne_own hX p2 e2 rfl)) (fun b hb => hblk b (owns_lt h.r2.own b hb).2 (fun e2 => h.d2 i hi b e2 hb))
  have hlt : i < ms.length := by rw [h.ml]; exact hi
  have st : ∀ {B' : Nat} {u : Value} {L : List ByteArray}, OwnS W1 B' u L → OwnS (W1.setCell ⟨gM, i, none⟩ x') B' u L := fun hu => own_of_block hu (fun b hb => Below.heap_setCell _ _ _ _ (fun e2 => (ty_ne hu more1 (by decide)).elim (fun z => by rw [z] at hb; cases hb) (fun z => z (by rw [hb]; exact congrArg some e2))))
  have rne : ∀ {p : Nat} {v : Value}, Rg W1 p v K n P → p ≠ gM := fun hr e2 => by
    rcases more1.2 with ⟨h4, _⟩ | ⟨g', cap', cur', hv', _, hh', _⟩
    · cases h4
    · obtain ⟨i1, _, _⟩ := Value.slice.inj hv'
      cases i1
      have hx := hr.blk
      rw [e2, hh'] at hx
      have := Option.some.inj hx
      injection this with _ h3 _
      exact absurd h3 (by decide)
  have rst : ∀ {p : Nat} {v : Value}, Rg W1 p v K n P → Rg (W1.setCell ⟨gM, i, none⟩ x') p v K n P := fun hr => ⟨by rw [Below.heap_setCell _ _ _ _ (rne hr)]; exact hr.blk, st hr.own, hr.k1, hr.k2, hr.hn, hr.hl, hr.hs⟩
  have ax : ∀ {u : Value}, Apart (ms.getD i dv) u → (∀ b, u.ownBlock = some b → b < W.heap.size) → Apart x' u := fun ha hu k k1 k2 => by
    rcases r2 with ⟨g, m, cap, e1, e2, _⟩ | ⟨_, hf⟩
    · exact ha k (by rw [e1]; rw [e2] at k1; exact k1) k2
    · have := hf k k1; have := hu k k2; omega
  refine ⟨fun k hk => st ?_, fun k hk => ?_, fun k j hk hj hne => ?_, fun k j hk hj hne => ?_, ?_, ownV_set more1 x', h.nA, rst R1, rst R2, fun k hk => ?_, fun k hk => ?_, h.below.trans (hbl.setCell (World.ownsRow.lt more1 gM rfl).1 _), h.vl, by rw [List.length_set]; exact h.ml⟩
  · by_cases e2 : k = i
    · rw [e2]; exact hVi
    · exact (keep (h.A k hk) (h.dMV i k hi hk (fun z => e2 z.symm))).1
  · rw [getD_set _ _ _ _ _ hlt]
    by_cases e2 : k = i
    · rw [if_pos e2, if_pos e2, e2]; exact st r1
    · rw [if_neg e2, if_neg e2]; exact st (keep (h.Mm k hk) (h.dMM i k hi hk (fun z => e2 z.symm))).1
  · rw [getD_set _ _ _ _ _ hlt, getD_set _ _ _ _ _ hlt]
    by_cases e2 : k = i
    · rw [if_pos e2, if_neg (fun z => hne (e2.trans z.symm))]
      exact ax (h.dMM i j hi hj (fun z => hne (e2.trans z))) (fun b hb => (owns_lt (h.Mm j hj) b hb).2)
    · rw [if_neg e2]
      by_cases e3 : j = i
      · rw [if_pos e3]; exact (ax (h.dMM i k hi hk (fun z => e2 z.symm)) (fun b hb => (owns_lt (h.Mm k hk) b hb).2)).symm
      · rw [if_neg e3]; exact h.dMM k j hk hj hne
  · rw [getD_set _ _ _ _ _ hlt]
    by_cases e2 : k = i
    · rw [if_pos e2]; exact ax (h.dMV i j hi hj (fun z => hne (e2.trans z))) (fun b hb => (owns_lt (h.A j hj) b hb).2)
    · rw [if_neg e2]; exact h.dMV k j hk hj hne
  · exact own_of_block all1 (fun b hb => Below.heap_setCell _ _ _ _ (fun e2 => h.nA.elim (fun z => by rw [z] at hb; cases hb) (fun z => z (by rw [hb]; exact congrArg some e2))))
  · rw [getD_set _ _ _ _ _ hlt]
    by_cases e2 : k = i
    · rw [if_pos e2]; exact ax (h.d1 i hi) (fun b hb => (owns_lt h.r1.own b hb).2)
    · rw [if_neg e2]; exact h.d1 k hk
  · rw [getD_set _ _ _ _ _ hlt]
    by_cases e2 : k = i
    · rw [if_pos e2]; exact ax (h.d2 i hi) (fun b hb => (owns_lt h.r2.own b hb).2)
    · rw [if_neg e2]; exact h.d2 k hk
end
/-- One text appended to a list of one's own, at the operation: where it went. -/
theorem step_append_T (w : World) {ops : Array Oper} {o : Oper} {a : Act} {K : Act → World → Prop} {Q : Exit → Act → World → Prop} {E : Prop} (hgd : o.guard = none)
    (s x : Operand) (hop : o.op = Op.call { callee := Callee.builtin Builtin.append, args := #[s, x], argTypes := #[25, 25] })
    (B : Nat) (v : Value) (L : List ByteArray) (hs : a.eval s = v) (hown : OwnS w B v L) (ad : Addr) (mc : Nat) (c : ByteArray) (hx : a.eval x = .slice (some ad) 1 mc) (hr : RdC w (.slice (some ad) 1 mc) 1 [.string c])
    (hlen : L.length + 1 ≤ 1048576) (hB : B ≤ w.heap.size)
    (hK : ∀ v' w', OwnS w' B v' (L ++ [c]) → ((∃ g n cap, v = .slice (some ⟨g, 0, none⟩) n cap ∧ v' = .slice (some ⟨g, 0, none⟩) (n + 1) cap ∧ w.grownBy w' (some g)) ∨ (w.grownBy w' none ∧ ∀ g, v'.ownBlock = some g → w.heap.size ≤ g)) → K (a.put o.dst v') w') : if Region.wanted o (yielded ops a.tmps) = true then Oper.wp Tryd.prog o a w K Q else E := by
  have hw : Region.wanted o (yielded ops a.tmps) = true := by simp [Region.wanted, hgd]
  rw [if_pos hw]
  obtain ⟨i0, hi, hz0, hz1, hz2⟩ := info_parts Tryd.infoS
  obtain ⟨ao, cap, he, _, hcells⟩ := hr
  obtain ⟨rfl, _, rfl⟩ := Value.slice.inj he
  have hap : ∀ {w' : World} {v' : Value} {n : Nat}, n = L.length + 1 → w'.ownsRow B 9 1 v' n (L.map Value.string ++ [.string c]) → OwnS w' B v' (L ++ [c]) := fun hn h => by
    rw [OwnS, List.map_append, List.length_append, List.length_cons, List.length_nil, Nat.zero_add, ← hn]; exact h
  have h1c : ∀ u ∈ ([.string c] : List Value), u.oneCell' = true := by intro u hu; simp at hu; subst hu; rfl
  have hown0 := hown
  rcases hown.2 with ⟨rfl, h0⟩ | ⟨g, cp, cur, rfl, hgb, hh, hc⟩
  · have hL : L = [] := List.length_eq_zero_iff.1 h0
    subst hL
    obtain ⟨v', w', hrun, r1, r2, _⟩ := run_append_own (P := Tryd.prog) w w.heap.size 25 o.type 9 i0 (.string ByteArray.empty) 1 16 Tryd.underlying25 hi hz0 hz1 hz2 rfl (by decide) _ 0 [] (World.ownsRow_nil _ _ _ _) ad 1 mc [.string c] rfl (hcells ad rfl) h1c (by decide) (by decide) (Nat.le_refl _)
    unfold Oper.wp
    simp [execOp, hop, resolve, invoke, builtin, hs, hx, hrun, Result.andThen]
    exact hK v' w' (hap rfl (by simpa using World.ownsRow.mono r1 hB)) (.inr ⟨r2, fun k hk => (World.ownsRow.lt r1 k hk).1⟩)
  · by_cases hfit : L.length + 1 ≤ cp
    · obtain ⟨w', hrun, r1, r2⟩ := run_append_fits (P := Tryd.prog) w B 25 o.type 9 i0 1 Tryd.underlying25 hi hz1 g L.length cp (L.map Value.string) hown0 ad 1 mc [.string c] rfl (hcells ad rfl) h1c hfit
      unfold Oper.wp
      simp [execOp, hop, resolve, invoke, builtin, hs, hx, hrun, Result.andThen]
      exact hK _ w' (hap rfl r1) (.inl ⟨g, L.length, cp, rfl, rfl, r2⟩)
    · obtain ⟨v', w', hrun, r1, r2⟩ := run_append_arg_grows (P := Tryd.prog) w 25 o.type 9 i0 (.string ByteArray.empty) 1 16 Tryd.underlying25 hi hz0 hz1 hz2 rfl (by decide) ⟨g, 0, none⟩ L.length cp (L.map Value.string) hown0.1 (World.ownsRow.cells hown0 rfl) ad 1 mc [.string c] rfl (hcells ad rfl) (by omega) (by unfold maxLen; omega) (by omega)
      unfold Oper.wp
      simp [execOp, hop, resolve, invoke, builtin, hs, hx, hrun, Result.andThen]
      exact hK v' w' (hap rfl (World.ownsRow.mono r1 hB)) (.inr ⟨r2, fun k hk => (World.ownsRow.lt r1 k hk).1⟩)
end Go.Proofs.YtncndefggegicaaDoor
