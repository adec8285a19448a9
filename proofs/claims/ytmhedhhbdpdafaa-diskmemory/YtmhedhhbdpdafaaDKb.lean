/-
  What DiskMemory holds, as it goes on. Own work.
-/
import Derived.Test.YtmhedhhbdpdafaaDKa
namespace Go.Proofs.Ytmhedhhbdpdafaa
open Go.RowKit
/-- Blocks that stay. -/
structure Hd (W0 W : World) (H : Nat → Prop) : Prop where
  eq : ∀ x, H x → W.heap[x]? = W0.heap[x]?
  lt : ∀ x, H x → x < W0.heap.size
  sz : W0.heap.size ≤ W.heap.size
section
variable {W0 W W' : World} {H : Nat → Prop}
theorem Hd.next (h : Hd W0 W H) (hb : Below W.heap.size W W') : Hd W0 W' H := ⟨fun x hx => (hb.block x (Nat.lt_of_lt_of_le (h.lt x hx) h.sz)).trans (h.eq x hx), h.lt, Nat.le_trans h.sz hb.size⟩
theorem Hd.set (h : Hd W0 W H) {g : Nat} (hg : ¬ H g) (i : Nat) (x : Value) : Hd W0 (W.setCell ⟨g, i, none⟩ x) H := ⟨fun y hy => (Below.heap_setCell _ _ _ _ (fun e => hg (by have e : y = g := e; rw [← e]; exact hy))).trans (h.eq y hy), h.lt, by rw [World.size_setCell]; exact h.sz⟩
theorem Hd.went (h : Hd W0 W H) {v v' : Value} (hg : ∀ g, v.ownBlock = some g → ¬ H g) (hw : Went W W' v v') : Hd W0 W' H := by
  rcases hw with ⟨g, n, cap, rfl, rfl, hgr⟩ | ⟨hgr, _⟩
  · exact ⟨fun x hx => (hgr.block x (Nat.lt_of_lt_of_le (h.lt x hx) h.sz) (fun e => hg g rfl (by cases e; exact hx))).trans (h.eq x hx), h.lt, Nat.le_trans h.sz hgr.size⟩
  · exact ⟨fun x hx => (hgr.block x (Nat.lt_of_lt_of_le (h.lt x hx) h.sz) (fun e => by cases e)).trans (h.eq x hx), h.lt, Nat.le_trans h.sz hgr.size⟩
theorem Hd.refl (W : World) (H : Nat → Prop) (h : ∀ x, H x → x < W.heap.size) : Hd W W H := ⟨fun _ _ => rfl, h, Nat.le_refl _⟩
end
/-- Lists of files, apart from one another. -/
structure Fam (w : World) (B : Nat) (vs : List Value) (Ls : List (List FL)) : Prop where
  len : vs.length = Ls.length
  own : ∀ i, i < vs.length → OwnF w B (vs.getD i dv) (Ls.getD i [])
  dj : ∀ i j, i < vs.length → j < vs.length → i ≠ j → Apart (vs.getD i dv) (vs.getD j dv)
theorem fam_nil (w : World) (B : Nat) : Fam w B [] [] := ⟨rfl, fun i hi => absurd hi (Nat.not_lt_zero i), fun i _ hi => absurd hi (Nat.not_lt_zero i)⟩
theorem fam_next {w w' : World} {B : Nat} {vs : List Value} {Ls : List (List FL)} (h : Fam w B vs Ls) (hb : Below w.heap.size w w') : Fam w' B vs Ls := ⟨h.len, fun i hi => ownF_next (h.own i hi) hb, h.dj⟩
theorem fam_new {w w' : World} {B : Nat} {vs : List Value} {Ls : List (List FL)} {v : Value} {L : List FL} (h : Fam w B vs Ls) (hB : B ≤ w.heap.size) (hb : Below w.heap.size w w') (ho : OwnF w' w.heap.size v L) : Fam w' B (vs ++ [v]) (Ls ++ [L]) := by
  refine ⟨by simp [h.len], fun i hi => ?_, fun i j hi hj hne => ?_⟩
  · rw [getD_snoc, getD_snoc, ← h.len]
    by_cases h1 : i < vs.length
    · rw [if_pos h1, if_pos h1]; exact ownF_next (h.own i h1) hb
    · have h2 : i = vs.length := by simp at hi; omega
      rw [if_neg h1, if_neg h1, if_pos h2, if_pos h2]; exact World.ownsRow.mono ho hB
  · simp at hi hj
    rw [getD_snoc, getD_snoc]
    by_cases h1 : i < vs.length
    · rw [if_pos h1]
      by_cases h2 : j < vs.length
      · rw [if_pos h2]; exact h.dj i j h1 h2 hne
      · rw [if_neg h2, if_pos (by omega)]
        intro k k1 k2
        have a1 := (ownF_lt (h.own i h1) k k1).2
        have a2 := (ownF_lt ho k k2).1
        omega
    · rw [if_neg h1, if_pos (show i = vs.length by omega), if_pos (show j < vs.length by omega)]
      intro k k1 k2
      have a1 := (ownF_lt (h.own j (by omega)) k k2).2
      have a2 := (ownF_lt ho k k1).1
      omega
/-- One of them is written to. -/
theorem fam_set {w w' : World} {B : Nat} {vs : List Value} {Ls : List (List FL)} {i : Nat} {L : List FL} (h : Fam w B vs Ls) (hi : i < vs.length) (ho : OwnF w' B (vs.getD i dv) L) (hk : ∀ b, (vs.getD i dv).ownBlock ≠ some b → w'.heap[b]? = w.heap[b]?) : Fam w' B vs (Ls.set i L) := by
  refine ⟨by simp [h.len], fun j hj => ?_, h.dj⟩
  rw [getD_set _ _ _ _ _ (by rw [← h.len]; exact hi)]
  by_cases e : j = i
  · rw [if_pos e, e]; exact ho
  · rw [if_neg e]
    exact own_of_block (h.own j hj) (fun g hg => hk g (fun e2 => h.dj j i hj hi e g hg e2))
theorem ownV_cell {w : World} {B i : Nat} {v : Value} {vs : List Value} (h : OwnV w B v vs) (hi : i < vs.length) : ∃ g cap, v = .slice (some ⟨g, 0, none⟩) vs.length cap ∧ w.cell? ⟨g, i, none⟩ = some (vs.getD i dv) := by
  rcases h.2 with ⟨_, h2⟩ | ⟨g, cap, cur, rfl, hg, hh, hc⟩
  · omega
  · refine ⟨g, cap, rfl, ?_⟩
    have := h.cells (g := g) rfl i (vs.getD i dv) (by rw [List.getD_eq_getElem?_getD, List.getElem?_eq_getElem hi]; rfl)
    rw [Addr.add_mid, Nat.zero_add] at this
    exact this
theorem ownV_cells {w : World} {B g n cap : Nat} {vs : List Value} (h : OwnV w B (.slice (some ⟨g, 0, none⟩) n cap) vs) (i : Nat) (hi : i < vs.length) : w.cell? ⟨g, i, none⟩ = some (vs.getD i dv) := by
  obtain ⟨g', c', e', h'⟩ := ownV_cell h hi
  obtain ⟨e1, _, _⟩ := Value.slice.inj e'
  cases e1; exact h'
theorem ownV_at {w : World} {B g n cap : Nat} {vs : List Value} (h : OwnV w B (.slice (some ⟨g, 0, none⟩) n cap) vs) (i : Nat) (hi : i < vs.length) : w.cell? ⟨g, i, none⟩ = some (vs.getD i dv) ∧ w.frozen? ⟨g, i, none⟩ = false := by
  refine ⟨ownV_cells h i hi, ?_⟩
  rcases h.2 with ⟨h2, _⟩ | ⟨g', cap', cur, hv, hg, hh, _⟩
  · cases h2
  · obtain ⟨e1, _, _⟩ := Value.slice.inj hv
    cases e1
    exact frozen_of_row w g i cur _ hh
theorem ownV_new (w : World) {B : Nat} (hB : B ≤ w.heap.size) (a b c d : Value) : OwnV (w.alloc (.cells #[a, b, c, d] 40)) B (.slice (some ⟨w.heap.size, 0, none⟩) 4 4) [a, b, c, d] :=
  ⟨rfl, .inr ⟨w.heap.size, 4, #[a, b, c, d], rfl, hB, new1 w _, Nat.le_refl _, by decide, rfl, rfl⟩⟩
/-- A list in a list is put in its place. -/
theorem ownV_set {W : World} {B g m cap i : Nat} {l : List Value} (h : OwnV W B (.slice (some ⟨g, 0, none⟩) m cap) l) (x : Value) : OwnV (W.setCell ⟨g, i, none⟩ x) B (.slice (some ⟨g, 0, none⟩) m cap) (l.set i x) := by
  obtain ⟨h1, h2⟩ := h
  refine ⟨by simp, .inr ?_⟩
  rcases h2 with ⟨h2, h3⟩ | ⟨g', cap', cur, hv, hg, hh, h3, h4, h5, h6⟩
  · cases h2
  · obtain ⟨e1, e2, e3⟩ := Value.slice.inj hv
    cases e1
    have s1 : (W.setCell ⟨g, i, none⟩ x).heap[g]? = _ := heap_setCell_same W g i cur _ _ hh
    refine ⟨g, cap, _, by rw [e2]; simp, hg, s1, by simpa [e3] using h3, by omega, by simpa [e3] using h5, ?_⟩
    rw [List.length_set, Array.toList_setIfInBounds, List.take_set, h6]
theorem mark_set' (R : List FL) (j : Nat) (x : FL) (h : j < R.length) : (List.replicate j x ++ R.drop j).set j x = List.replicate (j + 1) x ++ R.drop (j + 1) := by
  rw [List.set_append_right _ _ (by simp), List.length_replicate, Nat.sub_self, List.drop_eq_getElem_cons h, List.set_cons_zero, List.replicate_succ', List.append_assoc]; rfl
theorem mark_len (R : List FL) (j : Nat) (x : FL) (h : j ≤ R.length) : (List.replicate j x ++ R.drop j).length = R.length := by simp; omega
theorem mark_get (R : List FL) (j : Nat) (x : FL) : (List.replicate j x ++ R.drop j).getD j ([], []) = R.getD j ([], []) := by
  rw [List.getD_eq_getElem?_getD, List.getElem?_append_right (by simp), List.length_replicate, Nat.sub_self, List.getElem?_drop, Nat.add_zero, ← List.getD_eq_getElem?_getD]
/-- The mark of list k. -/
def mkB (k : Nat) : ByteArray := ⟨#[UInt8.ofNat k]⟩
def mkT (k : Nat) : FL := ([UInt8.ofNat k], [])
/-- One byte as a row. -/
theorem rw_one (w : World) (x : UInt8) : Rw (w.alloc (.cells #[.int .u8 (x.toNat : Int)] 5)) (some ⟨w.heap.size, 0, none⟩) w.heap.size 1 [x] := by
  refine ⟨.inr rfl, fun e => (by cases e), fun _ => ⟨_, _, new1 _ _⟩, Nat.le_refl _, fun _ j v hv => ?_, fun _ j hj => ⟨?_, ?_⟩⟩
  · match j, hv with
    | 0, hv => rw [Nat.zero_add, World.cell?_alloc_new]; exact hv
  · obtain rfl : j = 0 := by omega
    rw [Nat.zero_add, World.cell?_alloc_new]; rfl
  · exact frozen_of_row _ _ _ _ _ (new1 w (.cells #[.int .u8 (x.toNat : Int)] 5))
theorem conv_one (w : World) (k : Nat) (hk : k < 256) : (convert 49 9 (.slice (some ⟨w.heap.size, 0, none⟩) 1 1)).run Try.prog (w.alloc (.cells #[.int .u8 (k : Int)] 5)) = .ok (.string (mkB k)) (w.alloc (.cells #[.int .u8 (k : Int)] 5)) := by
  have h := rw_one w (UInt8.ofNat k)
  have e : ((UInt8.ofNat k).toNat : Int) = (k : Int) := by rw [UInt8.toNat_ofNat']; omega
  rw [e] at h
  have := h.conv (k := 0) (n := 1) (by simp) (ax := some ⟨w.heap.size, 0, none⟩) (.inl rfl) (fun _ => .inl rfl) 1
  exact this
theorem conv_drew (w : World) (k : Nat) (hk : k < 256) : (convert 49 9 (.slice (some ⟨w.heap.size, 0, none⟩) 1 1)).run Try.prog (w.alloc (.cells #[.int .u8 (k : Int)] 5)).drew = .ok (.string (mkB k)) (w.alloc (.cells #[.int .u8 (k : Int)] 5)).drew := conv_one w.drew k hk
/-- The first i lists are marks. -/
def Mk (N i : Nat) (Qs Ls : List (List FL)) : Prop := Qs.length = N ∧ ∀ k, k < N → Qs.getD k [] = if k < i then List.replicate (Ls.getD k []).length (mkT k) else Ls.getD k []
theorem mk_next {N i : Nat} {Qs Ls : List (List FL)} {m : Nat} (h : Mk N i Qs Ls) (hi : i + 1 ≤ N) (hm : (Ls.getD i []).length = m) : Mk N (i + 1) (Qs.set i (List.replicate m (mkT i))) Ls := by
  refine ⟨by rw [List.length_set]; exact h.1, fun k hk => ?_⟩
  rw [getD_set _ _ _ _ _ (by rw [h.1]; omega)]
  by_cases e : k = i
  · subst e; rw [if_pos rfl, if_pos (by omega), hm]
  · rw [if_neg e, h.2 k hk]
    by_cases e2 : k < i
    · rw [if_pos e2, if_pos (by omega)]
    · rw [if_neg e2, if_neg (by omega)]
/-- Four lists of one's own, and blocks that stay: all apart. -/
structure MZ (w W0 W : World) (H : Nat → Prop) (vs : List Value) (Ls : List (List FL)) : Prop where
  fam : Fam W w.heap.size vs Ls
  hd : Hd W0 W H
  off : ∀ i, i < vs.length → ∀ g, (vs.getD i dv).ownBlock = some g → ¬ H g
  below : Below w.heap.size w W
/-- The four lists in a list. -/
structure MA (w W0 W : World) (H : Nat → Prop) (vs : List Value) (Qs : List (List FL)) (vA : Value) : Prop where
  z : MZ w W0 W H vs Qs
  all : OwnV W w.heap.size vA vs
  aH : ∀ g, vA.ownBlock = some g → ¬ H g
section
variable {w W0 W W' : World} {H : Nat → Prop} {vs : List Value} {Qs : List (List FL)} {vA : Value}
theorem MZ.next (h : MZ w W0 W H vs Qs) (hb : Below W.heap.size W W') : MZ w W0 W' H vs Qs := ⟨fam_next h.fam hb, h.hd.next hb, h.off, bnext h.below hb⟩
theorem MA.next (h : MA w W0 W H vs Qs vA) (hb : Below W.heap.size W W') : MA w W0 W' H vs Qs vA := ⟨h.z.next hb, ownB_next h.all hb, h.aH⟩
theorem set2_ne {g b i j : Nat} {x y : Value} (h : b ≠ g) : ((W.setCell ⟨g, i, none⟩ x).setCell ⟨g, j, none⟩ y).heap[b]? = W.heap[b]? := (Below.heap_setCell _ _ _ _ h).trans (Below.heap_setCell _ _ _ _ h)
theorem MA.store (h : MA w W0 W H vs Qs vA) (i : Nat) (hi : i < vs.length) (g m cap : Nat) (hu : vs.getD i dv = .slice (some ⟨g, 0, none⟩) m cap) (j : Nat) (hj : j < (Qs.getD i []).length) (a b : ByteArray) :
    MA w W0 ((W.setCell ⟨g, j * 2, none⟩ (.string a)).setCell ⟨g, j * 2 + 1, none⟩ (.string b)) H vs (Qs.set i ((Qs.getD i []).set j (a.data.toList, b.data.toList))) vA := by
  have hol := h.z.fam.own i hi
  have e1 := h.z.off i hi
  rw [hu] at hol e1
  have hf := fam_set (i := i) (L := (Qs.getD i []).set j (a.data.toList, b.data.toList)) h.z.fam hi (by rw [hu]; exact ownF_set hol hj a b) (fun b hb => by
    rw [hu] at hb
    exact set2_ne (fun e => hb (by rw [e]; rfl)))
  refine ⟨⟨hf, (h.z.hd.set (e1 g rfl) _ _).set (e1 g rfl) _ _, h.z.off, (h.z.below.setCell (ownF_lt hol g rfl).1 _).setCell (ownF_lt hol g rfl).1 _⟩, own_of_block h.all (fun b hb => set2_ne (fun e => ?_)), h.aH⟩
  rcases ty_ne h.all hol (by decide) with h1 | h1
  · rw [h1] at hb; cases hb
  · exact h1 (by rw [hb, e]; rfl)
end
/-- The marks of list k, e more of them. -/
def mkE (Ls : List (List FL)) (k e : Nat) : List FL := List.replicate ((Ls.getD k []).length + e) (mkT k)
theorem mkE_len (Ls : List (List FL)) (k e : Nat) : (mkE Ls k e).length = (Ls.getD k []).length + e := List.length_replicate
theorem mkE_get (Ls : List (List FL)) (k e j : Nat) (h : j < (Ls.getD k []).length + e) : (mkE Ls k e).getD j ([], []) = mkT k := by
  rw [mkE, List.getD_eq_getElem?_getD, List.getElem?_replicate, if_pos h]; rfl
theorem mkE_succ (Ls : List (List FL)) (k e : Nat) : mkE Ls k (e + 1) = mkE Ls k e ++ [mkT k] := by rw [mkE, ← Nat.add_assoc, List.replicate_succ']; rfl
theorem mkE_head (Ls : List (List FL)) (k e : Nat) : ∃ r, mkE Ls k e = mkE Ls k 0 ++ r := ⟨List.replicate e _, by rw [mkE, mkE, Nat.add_zero, List.replicate_append_replicate]⟩
/-- Four lists that grow in turn. -/
structure M4 (w W0 W : World) (H : Nat → Prop) (vs ms : List Value) (Ls : List (List FL)) (e : Nat → Nat) (vA vM : Value) : Prop where
  A : ∀ k, k < 4 → OwnF W w.heap.size (vs.getD k dv) (mkE Ls k 0)
  Mm : ∀ k, k < 4 → OwnF W w.heap.size (ms.getD k dv) (mkE Ls k (e k))
  dMM : ∀ k j, k < 4 → j < 4 → k ≠ j → Apart (ms.getD k dv) (ms.getD j dv)
  dMV : ∀ k j, k < 4 → j < 4 → k ≠ j → Apart (ms.getD k dv) (vs.getD j dv)
  all : OwnV W w.heap.size vA vs
  more : OwnV W w.heap.size vM ms
  nA : vA.ownBlock = none ∨ vA.ownBlock ≠ vM.ownBlock
  hd : Hd W0 W H
  off : ∀ k, k < 4 → ∀ g, (ms.getD k dv).ownBlock = some g → ¬ H g
  mH : ∀ g, vM.ownBlock = some g → ¬ H g
  below : Below w.heap.size w W
  vl : vs.length = 4
  ml : ms.length = 4
section
variable {w W0 W W' W1 : World} {H : Nat → Prop} {vs ms : List Value} {Ls : List (List FL)} {e : Nat → Nat} {vA vM : Value}
theorem M4.next (h : M4 w W0 W H vs ms Ls e vA vM) (hb : Below W.heap.size W W') : M4 w W0 W' H vs ms Ls e vA vM :=
  ⟨fun k hk => ownF_next (h.A k hk) hb, fun k hk => ownF_next (h.Mm k hk) hb, h.dMM, h.dMV, ownB_next h.all hb, ownB_next h.more hb, h.nA, h.hd.next hb, h.off, h.mH, bnext h.below hb, h.vl, h.ml⟩
/-- The lists are marks: they grow from here on. -/
theorem MA.start {Qs : List (List FL)} (h : MA w W0 W H vs Qs vA) (hm : Mk 4 4 Qs Ls) (hvl : vs.length = 4) (hM : OwnV W w.heap.size vM vs) (hn : vA.ownBlock = none ∨ vA.ownBlock ≠ vM.ownBlock) (hmH : ∀ g, vM.ownBlock = some g → ¬ H g) : M4 w W0 W H vs vs Ls (fun _ => 0) vA vM := by
  have ho : ∀ k, k < 4 → OwnF W w.heap.size (vs.getD k dv) (mkE Ls k 0) := fun k hk => by
    have h1 := h.z.fam.own k (by omega)
    rw [hm.2 k hk, if_pos hk] at h1
    rw [mkE, Nat.add_zero]; exact h1
  exact ⟨ho, ho, fun k j hk hj hne => h.z.fam.dj k j (by omega) (by omega) hne, fun k j hk hj hne => h.z.fam.dj k j (by omega) (by omega) hne, h.all, hM, hn, h.z.hd, fun k hk => h.z.off k (by omega), hmH, h.z.below, hvl, hvl⟩
theorem M4.app (h : M4 w W0 W H vs ms Ls e vA vM) {i : Nat} (hi : i < 4) {x' : Value} {gM cM : Nat} (hM : vM = .slice (some ⟨gM, 0, none⟩) 4 cM) (r1 : OwnF W1 w.heap.size x' (mkE Ls i (e i) ++ [mkT i])) (r2 : Went W W1 (ms.getD i dv) x') :
    M4 w W0 (W1.setCell ⟨gM, i, none⟩ x') H vs (ms.set i x') Ls (fun k => if k = i then e i + 1 else e k) vA vM := by
  subst hM
  rw [← mkE_succ] at r1
  have hX := h.Mm i hi
  have hB := h.below.size
  have hd1 := h.hd.went (h.off i hi) r2
  have keep : ∀ {u : Value} {L : List FL}, OwnF W w.heap.size u L → Apart (ms.getD i dv) u → OwnF W1 w.heap.size u L ∧ Apart x' u := fun hu ha => by
    have := keepF hu hX ha hB r2
    exact ⟨this.1, this.2.1⟩
  have hbl : Below w.heap.size W W1 := by
    rcases r2 with ⟨g, m, cap, e1, _, hg⟩ | ⟨hg, _⟩
    · exact (Below.refl _ _).grown hg hB (fun k hk => by cases hk; rw [e1] at hX; exact (ownF_lt hX g rfl).1)
    · exact (Below.refl _ _).grown hg hB (fun j hj => by cases hj)
  have hblk : ∀ b, b < W.heap.size → (ms.getD i dv).ownBlock ≠ some b → W1.heap[b]? = W.heap[b]? := fun b hb hne => by
    rcases r2 with ⟨g, m, cap, e1, _, hg⟩ | ⟨hg, _⟩
    · exact hg.block b hb (fun e => hne (by rw [e1]; exact e.symm))
    · exact hg.block b hb (fun e => by cases e)
  have hVi : OwnF W1 w.heap.size (vs.getD i dv) (mkE Ls i 0) := by
    have hA := h.A i hi
    rcases r2 with ⟨g, m, cap, e1, e2, hg⟩ | ⟨hg, _⟩
    · by_cases e3 : (vs.getD i dv).ownBlock = some g
      · obtain ⟨ao, n0, c0, hv⟩ := row_slice hA
        rw [hv] at hA e3 ⊢
        obtain ⟨g0, hg0⟩ : ∃ g0, ao = some g0 := by
          cases ao with
          | none => cases e3
          | some g0 => exact ⟨g0, rfl⟩
        subst hg0
        rcases hA.2 with ⟨h4, _⟩ | ⟨g3, c3, cur3, hv3, _⟩
        · cases h4
        obtain ⟨i1, i2, i3⟩ := Value.slice.inj hv3
        cases i1
        have : g3 = g := by simpa [Value.ownBlock] using e3
        subst this
        obtain ⟨r, hr⟩ := mkE_head Ls i (e i + 1)
        rw [hr, e2] at r1
        rw [e1] at hX
        exact ownF_head hA hX r1
      · exact World.ownsRow.kept hA hg (.inr e3)
    · exact ownF_next hA ((Below.refl _ _).grown hg (Nat.le_refl _) (fun j hj => by cases hj))
  have tyb : ∀ {B' e' s' n' : Nat} {u : Value} {xs : List Value}, W.ownsRow B' e' s' u n' xs → e' ≠ 42 → W1.ownsRow B' e' s' u n' xs := fun hu hne => own_of_block hu (fun b hb => hblk b (World.ownsRow.lt hu b hb).2 (fun e2 => (ty_ne hu hX hne).elim (fun z => by rw [z] at hb; cases hb) (fun z => z (by rw [hb, e2]))))
  have all1 := tyb h.all (by decide)
  have more1 := tyb h.more (by decide)
  have hlt : i < ms.length := by rw [h.ml]; exact hi
  have st : ∀ {B' : Nat} {u : Value} {L : List FL}, OwnF W1 B' u L → OwnF (W1.setCell ⟨gM, i, none⟩ x') B' u L := fun hu => own_of_block hu (fun b hb => Below.heap_setCell _ _ _ _ (fun e2 => (ty_ne hu more1 (by decide)).elim (fun z => by rw [z] at hb; cases hb) (fun z => z (by rw [hb]; exact congrArg some e2))))
  have ax : ∀ {u : Value}, Apart (ms.getD i dv) u → (∀ b, u.ownBlock = some b → b < W.heap.size) → Apart x' u := fun ha hu k k1 k2 => by
    rcases r2 with ⟨g, m, cap, e1, e2, _⟩ | ⟨_, hf⟩
    · exact ha k (by rw [e1]; rw [e2] at k1; exact k1) k2
    · have := hf k k1; have := hu k k2; omega
  refine ⟨fun k hk => st ?_, fun k hk => ?_, fun k j hk hj hne => ?_, fun k j hk hj hne => ?_, ?_, ownV_set more1 x', h.nA, hd1.set (h.mH gM rfl) _ _, fun k hk => ?_, h.mH, h.below.trans (hbl.setCell (World.ownsRow.lt more1 gM rfl).1 _), h.vl, by rw [List.length_set]; exact h.ml⟩
  · by_cases e2 : k = i
    · rw [e2]; exact hVi
    · exact (keep (h.A k hk) (h.dMV i k hi hk (fun z => e2 z.symm))).1
  · rw [getD_set _ _ _ _ _ hlt]
    by_cases e2 : k = i
    · rw [if_pos e2, if_pos e2, e2]; exact st r1
    · rw [if_neg e2, if_neg e2]; exact st (keep (h.Mm k hk) (h.dMM i k hi hk (fun z => e2 z.symm))).1
  · rw [getD_set _ _ _ _ _ hlt, getD_set _ _ _ _ _ hlt]
    by_cases e2 : k = i
    · rw [if_pos e2, if_neg (fun z => hne (e2.trans z.symm))]
      exact ax (h.dMM i j hi hj (fun z => hne (e2.trans z))) (fun b hb => (ownF_lt (h.Mm j hj) b hb).2)
    · rw [if_neg e2]
      by_cases e3 : j = i
      · rw [if_pos e3]; exact (ax (h.dMM i k hi hk (fun z => e2 z.symm)) (fun b hb => (ownF_lt (h.Mm k hk) b hb).2)).symm
      · rw [if_neg e3]; exact h.dMM k j hk hj hne
  · rw [getD_set _ _ _ _ _ hlt]
    by_cases e2 : k = i
    · rw [if_pos e2]; exact ax (h.dMV i j hi hj (fun z => hne (e2.trans z))) (fun b hb => (ownF_lt (h.A j hj) b hb).2)
    · rw [if_neg e2]; exact h.dMV k j hk hj hne
  · exact own_of_block all1 (fun b hb => Below.heap_setCell _ _ _ _ (fun e2 => h.nA.elim (fun z => by rw [z] at hb; cases hb) (fun z => z (by rw [hb]; exact congrArg some e2))))
  · rw [getD_set _ _ _ _ _ hlt]
    by_cases e2 : k = i
    · rw [if_pos e2]
      intro g hg hH
      rcases r2 with ⟨g', m, cap, e1, e3, _⟩ | ⟨_, hf⟩
      · rw [e3] at hg
        exact h.off i hi g (by rw [e1]; exact hg) hH
      · have := hf g hg; have := h.hd.lt g hH; have := h.hd.sz; omega
    · rw [if_neg e2]; exact h.off k hk
theorem M4.fits {gM cM : Nat} (h : M4 w W0 W H vs ms Ls e vA (.slice (some ⟨gM, 0, none⟩) 4 cM)) {i : Nat} (hi : i < 4) {x : Value} (hx : ms.getD i dv = x) : W.cell? ⟨gM, i, none⟩ = some x ∧ W.frozen? ⟨gM, i, none⟩ = false := by
  subst hx
  exact ownV_at h.more i (by rw [h.ml]; exact hi)
theorem M4.at1 {gM cM : Nat} (h : M4 w W0 W H vs ms Ls e vA (.slice (some ⟨gM, 0, none⟩) 4 cM)) {i : Nat} (hi : i < 4) {x x' : Value} (hx : ms.getD i dv = x) (r2 : Went W W1 x x') :
    W1.cell? ⟨gM, i, none⟩ = some x ∧ W1.frozen? ⟨gM, i, none⟩ = false := by
  subst hx
  have hX := h.Mm i hi
  have more1 : OwnV W1 w.heap.size (.slice (some ⟨gM, 0, none⟩) 4 cM) ms := by
    rcases r2 with ⟨g, m, cap, e1, _, hg⟩ | ⟨hg, _⟩
    · rw [e1] at hX
      exact World.ownsRow.kept h.more hg (ty_ne h.more hX (by decide))
    · exact ownB_next h.more ((Below.refl _ _).grown hg (Nat.le_refl _) (fun j hj => by cases hj))
  exact ownV_at more1 i (by rw [h.ml]; exact hi)
theorem M4.rnd {gM cM i t : Nat} (h : M4 w W0 W H vs ms Ls (fun k => if k < i then t + 1 else t) vA (.slice (some ⟨gM, 0, none⟩) 4 cM)) (hi : i < 4) {x x' : Value} (hx : ms.getD i dv = x) (r1 : OwnF W1 w.heap.size x' (mkE Ls i t ++ [mkT i])) (r2 : Went W W1 x x') :
    M4 w W0 (W1.setCell ⟨gM, i, none⟩ x') H vs (ms.set i x') Ls (fun k => if k < i + 1 then t + 1 else t) vA (.slice (some ⟨gM, 0, none⟩) 4 cM) := by
  subst hx
  have ei : (if i < i then t + 1 else t) = t := if_neg (Nat.lt_irrefl i)
  have h1 := h.app hi rfl (by simp only [ei]; exact r1) r2
  have ef : (fun k => if k = i then (fun k => if k < i then t + 1 else t) i + 1 else (fun k => if k < i then t + 1 else t) k) = fun k => if k < i + 1 then t + 1 else t := by
    funext k
    show (if k = i then (if i < i then t + 1 else t) + 1 else (if k < i then t + 1 else t)) = _
    rw [ei]
    by_cases h2 : k = i
    · rw [if_pos h2, if_pos (by omega)]
    · rw [if_neg h2]
      by_cases h3 : k < i
      · rw [if_pos h3, if_pos (by omega)]
      · rw [if_neg h3, if_neg (by omega)]
  rw [← ef]
  exact h1
end
end Go.Proofs.Ytmhedhhbdpdafaa
