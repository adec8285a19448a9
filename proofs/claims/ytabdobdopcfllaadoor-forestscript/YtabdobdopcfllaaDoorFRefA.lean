/-
  The reference's forest in memory: levels of texts, each of one's own. Own work.
-/
import Derived.Test.YtabdobdopcfllaaDoorFMem
import Derived.Test.YtabdobdopcfllaaDoorFLaw
namespace Go.Proofs.YtabdobdopcfllaaDoor
open Go.RowKit
open Mm (Fam OwnV dv Apart)
/-- A forest's levels: where it lies (q), where the list of levels lies (gA), the levels' lists (vs). -/
structure Lv (w : World) (B q : Nat) (K : Int) (gA cA : Nat) (vs : List Value) (Ls : List (List ByteArray)) : Prop where
  blk : w.heap[q]? = some (.cells #[.int .i64 K, .slice (some ⟨gA, 0, none⟩) vs.length cA] 100 (0, 0))
  all : OwnV w B (.slice (some ⟨gA, 0, none⟩) vs.length cA) vs
  fam : Fam w B vs Ls
  bq : B ≤ q
/-- The blocks that it holds. -/
def Foot (q gA : Nat) (vs : List Value) (b : Nat) : Prop := b = q ∨ b = gA ∨ ∃ i, i < vs.length ∧ (vs.getD i dv).ownBlock = some b
/-- Nothing but these blocks has changed. -/
structure ChS (S : Nat → Prop) (w w' : World) : Prop where
  os : w'.os = w.os
  tape : w'.tape = w.tape
  output : w'.output = w.output
  size : w.heap.size ≤ w'.heap.size
  block : ∀ b, b < w.heap.size → ¬ S b → w'.heap[b]? = w.heap[b]?
theorem ChS.refl (S : Nat → Prop) (w : World) : ChS S w w := ⟨rfl, rfl, rfl, Nat.le_refl _, fun _ _ _ => rfl⟩
theorem ChS.of {S : Nat → Prop} {w w' : World} (h : Below w.heap.size w w') : ChS S w w' := ⟨h.os, h.tape, h.output, h.size, fun b hb _ => h.block b hb⟩
theorem ChS.trans {S T : Nat → Prop} {w w1 w2 : World} (h : ChS S w w1) (h2 : ChS T w1 w2) (hT : ∀ b, b < w.heap.size → T b → S b) : ChS S w w2 :=
  ⟨h2.os.trans h.os, h2.tape.trans h.tape, h2.output.trans h.output, Nat.le_trans h.size h2.size, fun b hb hs => (h2.block b (Nat.lt_of_lt_of_le hb h.size) fun ht => hs (hT b hb ht)).trans (h.block b hb hs)⟩
theorem ChS.below {S : Nat → Prop} {w w' : World} (h : ChS S w w') {B : Nat} (hB : B ≤ w.heap.size) (hS : ∀ b, S b → B ≤ b) : Below B w w' :=
  ⟨h.os, h.tape, h.output, h.size, fun b hb => h.block b (by omega) fun hs => by have := hS b hs; omega⟩
theorem ChS.grown {S : Nat → Prop} {w w' : World} {o : Option Nat} (h : w.grownBy w' o) (hS : ∀ b, o = some b → S b) : ChS S w w' :=
  ⟨h.os, h.tape, h.output, h.size, fun b hb hs => h.block b hb fun e => hs (hS b e.symm)⟩
theorem ChS.set {S : Nat → Prop} {w w' : World} (h : ChS S w w') (b i : Nat) (v : Value) (hb : S b ∨ w.heap.size ≤ b) : ChS S w (w'.setCell ⟨b, i, none⟩ v) := by
  refine ⟨h.os, h.tape, h.output, by simpa using h.size, fun c hc hs => ?_⟩
  rw [← h.block c hc hs]
  exact Below.heap_setCell _ _ _ _ (by show c ≠ b; rintro rfl; rcases hb with hb | hb; exact hs hb; omega)
section
variable {w w' w1 : World} {B q gA cA : Nat} {K : Int} {vs : List Value} {Ls : List (List ByteArray)}
theorem Lv.next (h : Lv w B q K gA cA vs Ls) (hb : Below w.heap.size w w') : Lv w' B q K gA cA vs Ls :=
  ⟨(hb.block q (Array.getElem?_eq_some_iff.1 h.blk).1).trans h.blk, Mm.ownB_next h.all hb, Mm.fam_next h.fam hb, h.bq⟩
theorem Lv.ga (h : Lv w B q K gA cA vs Ls) : B ≤ gA ∧ ∃ cur, w.heap[gA]? = some (.cells cur 31 (0, 0)) := own_block h.all rfl
/-- Its blocks are its own. -/
theorem Lv.foot (h : Lv w B q K gA cA vs Ls) {b : Nat} (hb : Foot q gA vs b) : B ≤ b ∧ b < w.heap.size := by
  rcases hb with rfl | rfl | ⟨i, hi, e⟩
  · exact ⟨h.bq, (Array.getElem?_eq_some_iff.1 h.blk).1⟩
  · obtain ⟨h1, cur, h2⟩ := h.ga
    exact ⟨h1, (Array.getElem?_eq_some_iff.1 h2).1⟩
  · exact Mm.owns_lt (h.fam.own i hi) b e
/-- Where its blocks stay as they are, it stays. -/
theorem Lv.same (h : Lv w B q K gA cA vs Ls) (hs : ∀ b, Foot q gA vs b → w'.heap[b]? = w.heap[b]?) : Lv w' B q K gA cA vs Ls :=
  ⟨(hs q (.inl rfl)).trans h.blk, row_keep h.all fun g hg => hs g (.inr (.inl (by cases hg; rfl))), ⟨h.fam.len, fun i hi => row_keep (h.fam.own i hi) fun g hg => hs g (.inr (.inr ⟨i, hi, hg⟩)), h.fam.dj⟩, h.bq⟩
theorem Lv.cells (h : Lv w B q K gA cA vs Ls) : w.cell? ⟨q, 0, none⟩ = some (.int .i64 K) ∧ w.cell? ⟨q, 1, none⟩ = some (.slice (some ⟨gA, 0, none⟩) vs.length cA) ∧ w.frozen? ⟨q, 1, none⟩ = false :=
  ⟨by rw [cell_of_row w q 0 _ _ (0, 0) h.blk]; rfl, by rw [cell_of_row w q 1 _ _ (0, 0) h.blk]; rfl, frozen_of_row w q 1 _ _ h.blk⟩
theorem Lv.at (h : Lv w B q K gA cA vs Ls) {i : Nat} (hi : i < vs.length) : w.cell? ⟨gA, i, none⟩ = some (vs.getD i dv) ∧ w.frozen? ⟨gA, i, none⟩ = false := by
  obtain ⟨_, cur, hh⟩ := h.ga
  exact ⟨Mm.ownV_cells h.all i hi, frozen_of_row w gA i cur _ hh⟩
/-- A list in a list is put in its place. -/
theorem ownV_set {g m cap i : Nat} {l : List Value} (h : OwnV w B (.slice (some ⟨g, 0, none⟩) m cap) l) (x : Value) : OwnV (w.setCell ⟨g, i, none⟩ x) B (.slice (some ⟨g, 0, none⟩) m cap) (l.set i x) := by
  obtain ⟨h1, h2⟩ := h
  refine ⟨by simp, .inr ?_⟩
  rcases h2 with ⟨h2, h3⟩ | ⟨g', cap', cur, hv, hg, hh, h3, h4, h5, h6⟩
  · cases h2
  · obtain ⟨e1, e2, e3⟩ := Value.slice.inj hv
    cases e1
    have s1 : (w.setCell ⟨g, i, none⟩ x).heap[g]? = _ := heap_setCell_same w g i cur _ _ hh
    refine ⟨g, cap, _, by rw [e2]; simp, hg, s1, by simpa [e3] using h3, by omega, by simpa [e3] using h5, ?_⟩
    rw [List.length_set, Array.toList_setIfInBounds, List.take_set, h6]
/-- One text more on a level. -/
theorem Lv.app (h : Lv w B q K gA cA vs Ls) {i : Nat} (hi : i < vs.length) {x x' : Value} {d : ByteArray} (hx : vs.getD i dv = x) (r1 : OwnS w1 B x' (Ls.getD i [] ++ [d]))
    (r2 : (∃ g n cap, x = .slice (some ⟨g, 0, none⟩) n cap ∧ x' = .slice (some ⟨g, 0, none⟩) (n + 1) cap ∧ w.grownBy w1 (some g)) ∨ (w.grownBy w1 none ∧ ∀ g, x'.ownBlock = some g → w.heap.size ≤ g)) :
    Lv (w1.setCell ⟨gA, i, none⟩ x') B q K gA cA (vs.set i x') (Ls.set i (Ls.getD i [] ++ [d])) ∧ ChS (Foot q gA vs) w (w1.setCell ⟨gA, i, none⟩ x') ∧ (∀ b, Foot q gA (vs.set i x') b → Foot q gA vs b ∨ w.heap.size ≤ b) ∧
      w1.cell? ⟨gA, i, none⟩ = some x ∧ w1.frozen? ⟨gA, i, none⟩ = false ∧ w1.cell? ⟨q, 1, none⟩ = some (.slice (some ⟨gA, 0, none⟩) vs.length cA) := by
  subst hx
  obtain ⟨hgB, cur, hgA⟩ := h.ga
  have hgl := (Array.getElem?_eq_some_iff.1 hgA).1
  have hql := (Array.getElem?_eq_some_iff.1 h.blk).1
  have hqg : q ≠ gA := by
    rintro rfl
    have e := h.blk
    rw [hgA] at e
    injection e with e
    injection e with _ e2 _
    exact absurd e2 (by decide)
  /- what of w stays in w1 -/
  have keep : ∀ b, b < w.heap.size → (vs.getD i dv).ownBlock ≠ some b → w1.heap[b]? = w.heap[b]? := fun b hb hne => by
    rcases r2 with ⟨g, n, cap, e1, _, hg⟩ | ⟨hg, _⟩
    · exact hg.block b hb fun e => hne (by rw [e1, e]; rfl)
    · exact hg.block b hb fun e => by cases e
  have hng : (vs.getD i dv).ownBlock ≠ some gA := fun e => by
    obtain ⟨_, c2, hh⟩ := own_block (h.fam.own i hi) e
    rw [hgA] at hh
    injection hh with hh
    injection hh with _ e2 _
    exact absurd e2 (by decide)
  have hnq : (vs.getD i dv).ownBlock ≠ some q := fun e => by
    obtain ⟨_, c2, hh⟩ := own_block (h.fam.own i hi) e
    rw [h.blk] at hh
    injection hh with hh
    injection hh with _ e2 _
    exact absurd e2 (by decide)
  have e1A := keep gA hgl hng
  have e1q := keep q hql hnq
  have hall1 : OwnV w1 B (.slice (some ⟨gA, 0, none⟩) vs.length cA) vs := row_keep h.all fun g hg => by cases hg; exact e1A
  have hblk1 := e1q.trans h.blk
  have hx'b : ∀ g, x'.ownBlock = some g → (vs.getD i dv).ownBlock = some g ∨ w.heap.size ≤ g := fun g hg => by
    rcases r2 with ⟨g0, n, cap, e1, e2, _⟩ | ⟨_, hf⟩
    · left; rw [e1]; rw [e2] at hg; exact hg
    · exact .inr (hf g hg)
  have hx'A : x'.ownBlock ≠ some gA := fun e => by
    rcases hx'b gA e with e | e
    · exact hng e
    · omega
  have hx'q : x'.ownBlock ≠ some q := fun e => by
    rcases hx'b q e with e | e
    · exact hnq e
    · omega
  have hother : ∀ b, b ≠ gA → (w1.setCell ⟨gA, i, none⟩ x').heap[b]? = w1.heap[b]? := fun b hb => Below.heap_setCell _ ⟨gA, i, none⟩ _ b hb
  refine ⟨⟨?_, ?_, ⟨?_, fun j hj => ?_, fun j l hj hl hne => ?_⟩, h.bq⟩, ?_, fun b hb => ?_, ?_, ?_, ?_⟩
  · rw [List.length_set, hother q hqg]; exact hblk1
  · rw [List.length_set]; exact ownV_set hall1 x'
  · simp [h.fam.len]
  · rw [List.length_set] at hj
    rw [Mm.getD_set _ _ _ _ _ hi, Mm.getD_set _ _ _ _ _ (by rw [← h.fam.len]; exact hi)]
    by_cases e : j = i
    · rw [if_pos e, if_pos e]
      exact row_keep r1 fun g hg => hother g fun e2 => hx'A (by rw [hg, e2])
    · rw [if_neg e, if_neg e]
      refine row_keep (h.fam.own j hj) fun g hg => ?_
      have hgl2 := (Mm.owns_lt (h.fam.own j hj) g hg).2
      rw [hother g fun e2 => ?_]
      · exact keep g hgl2 fun e3 => h.fam.dj j i hj hi e g hg e3
      · subst e2
        obtain ⟨_, c2, hh⟩ := own_block (h.fam.own j hj) hg
        rw [hgA] at hh
        injection hh with hh
        injection hh with _ e2 _
        exact absurd e2 (by decide)
  · rw [List.length_set] at hj hl
    rw [Mm.getD_set _ _ _ _ _ hi, Mm.getD_set _ _ _ _ _ hi]
    have apx : ∀ z, z < vs.length → z ≠ i → Apart x' (vs.getD z dv) := fun z hz hzi g g1 g2 => by
      rcases hx'b g g1 with e | e
      · exact h.fam.dj i z hi hz (fun e2 => hzi e2.symm) g e g2
      · have := (Mm.owns_lt (h.fam.own z hz) g g2).2; omega
    by_cases e : j = i
    · rw [if_pos e, if_neg (fun e2 => hne (e.trans e2.symm))]
      exact apx l hl fun e2 => hne (e.trans e2.symm)
    · rw [if_neg e]
      by_cases e2 : l = i
      · rw [if_pos e2]; exact (apx j hj e).symm
      · rw [if_neg e2]; exact h.fam.dj j l hj hl hne
  · refine ChS.set ?_ gA i x' (.inl (.inr (.inl rfl)))
    rcases r2 with ⟨g, n, cap, e1, _, hg⟩ | ⟨hg, _⟩
    · exact ChS.grown hg fun b e => by cases e; exact .inr (.inr ⟨i, hi, by rw [e1]; rfl⟩)
    · exact ChS.grown hg fun b e => by cases e
  · rcases hb with rfl | rfl | ⟨j, hj, e⟩
    · exact .inl (.inl rfl)
    · exact .inl (.inr (.inl rfl))
    · rw [List.length_set] at hj
      rw [Mm.getD_set _ _ _ _ _ hi] at e
      by_cases e2 : j = i
      · rw [if_pos e2] at e
        rcases hx'b b e with e | e
        · exact .inl (.inr (.inr ⟨i, hi, e⟩))
        · exact .inr e
      · rw [if_neg e2] at e
        exact .inl (.inr (.inr ⟨j, hj, e⟩))
  · exact Mm.ownV_cells hall1 i hi
  · rw [← e1A] at hgA
    exact frozen_of_row w1 gA i cur _ hgA
  · rw [cell_of_row w1 q 1 _ _ (0, 0) hblk1]; rfl
/-- A level more, without nodes. -/
theorem Lv.level (h : Lv w B q K gA cA vs Ls) {gA' cA' : Nat} (ho : OwnV w1 B (.slice (some ⟨gA', 0, none⟩) (vs.length + 1) cA') (vs ++ [dv])) (hg : w.grownBy w1 (some gA)) (hf : gA' = gA ∨ w.heap.size ≤ gA') :
    Lv (w1.setCell ⟨q, 1, none⟩ (.slice (some ⟨gA', 0, none⟩) (vs.length + 1) cA')) B q K gA' cA' (vs ++ [dv]) (Ls ++ [[]]) ∧ ChS (Foot q gA vs) w (w1.setCell ⟨q, 1, none⟩ (.slice (some ⟨gA', 0, none⟩) (vs.length + 1) cA')) ∧ (∀ b, Foot q gA' (vs ++ [dv]) b → Foot q gA vs b ∨ w.heap.size ≤ b) ∧
      w1.cell? ⟨q, 1, none⟩ = some (.slice (some ⟨gA, 0, none⟩) vs.length cA) ∧ w1.frozen? ⟨q, 1, none⟩ = false := by
  obtain ⟨hgB, cur, hgA⟩ := h.ga
  have hql := (Array.getElem?_eq_some_iff.1 h.blk).1
  have hqg : q ≠ gA := by
    rintro rfl
    have e := h.blk
    rw [hgA] at e
    injection e with e
    injection e with _ e2 _
    exact absurd e2 (by decide)
  have hqg' : gA' ≠ q := by rcases hf with rfl | hf; exact hqg.symm; omega
  have hblk1 := (hg.block q hql fun e => hqg (by injection e)).trans h.blk
  have hother : ∀ b, b ≠ q → (w1.setCell ⟨q, 1, none⟩ (.slice (some ⟨gA', 0, none⟩) (vs.length + 1) cA')).heap[b]? = w1.heap[b]? := fun b hb => Below.heap_setCell _ ⟨q, 1, none⟩ _ b hb
  have hfam1 : ∀ j, j < vs.length → ∀ g, (vs.getD j dv).ownBlock = some g → (w1.setCell ⟨q, 1, none⟩ (.slice (some ⟨gA', 0, none⟩) (vs.length + 1) cA')).heap[g]? = w.heap[g]? := fun j hj g hgj => by
    obtain ⟨_, c2, hh⟩ := own_block (h.fam.own j hj) hgj
    rw [hother g ?_]
    · refine hg.block g (Array.getElem?_eq_some_iff.1 hh).1 fun e => ?_
      injection e with e
      subst e
      rw [hgA] at hh
      injection hh with hh
      injection hh with _ e2 _
      exact absurd e2 (by decide)
    · rintro rfl
      rw [h.blk] at hh
      injection hh with hh
      injection hh with _ e2 _
      exact absurd e2 (by decide)
  refine ⟨⟨?_, ?_, ⟨by simp [h.fam.len], fun j hj => ?_, fun j l hj hl hne => ?_⟩, h.bq⟩, ?_, fun b hb => ?_, ?_, ?_⟩
  · have := heap_setCell_same w1 q 1 _ 100 (.slice (some ⟨gA', 0, none⟩) (vs.length + 1) cA') hblk1
    rw [List.length_append, List.length_singleton]
    exact this
  · rw [List.length_append, List.length_singleton]
    exact row_keep ho fun g e => by cases e; exact hother gA' hqg'
  · rw [Mm.getD_snoc, Mm.getD_snoc, ← h.fam.len]
    by_cases hj2 : j < vs.length
    · rw [if_pos hj2, if_pos hj2]
      exact row_keep (h.fam.own j hj2) (hfam1 j hj2)
    · have : j = vs.length := by simp at hj; omega
      rw [if_neg hj2, if_neg hj2, if_pos this, if_pos this]
      exact owns_nil _ _
  · intro g g1 g2
    rw [Mm.getD_snoc] at g1 g2
    simp at hj hl
    by_cases hj2 : j < vs.length
    · rw [if_pos hj2] at g1
      by_cases hl2 : l < vs.length
      · rw [if_pos hl2] at g2
        exact h.fam.dj j l hj2 hl2 hne g g1 g2
      · rw [if_neg hl2, if_pos (by omega)] at g2
        cases g2
    · rw [if_neg hj2, if_pos (by omega)] at g1
      cases g1
  · exact ChS.set (ChS.grown hg fun b e => by cases e; exact .inr (.inl rfl)) q 1 _ (.inl (.inl rfl))
  · rcases hb with rfl | rfl | ⟨j, hj, e⟩
    · exact .inl (.inl rfl)
    · rcases hf with rfl | hf
      · exact .inl (.inr (.inl rfl))
      · exact .inr hf
    · rw [Mm.getD_snoc] at e
      by_cases hj2 : j < vs.length
      · rw [if_pos hj2] at e
        exact .inl (.inr (.inr ⟨j, hj2, e⟩))
      · rw [if_neg hj2] at e
        split at e <;> cases e
  · rw [cell_of_row w1 q 1 _ _ (0, 0) hblk1]; rfl
  · exact frozen_of_row w1 q 1 _ _ hblk1
end
end Go.Proofs.YtabdobdopcfllaaDoor
