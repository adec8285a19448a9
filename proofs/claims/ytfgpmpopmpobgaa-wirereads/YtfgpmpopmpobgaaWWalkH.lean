/-
  Two Readers beside the reference's two: what holds of them. Own work.
-/
import Derived.Test.YtfgpmpopmpobgaaWRefC
import Derived.Test.YtfgpmpopmpobgaaPlan
import Derived.Test.YtfgpmpopmpobgaaWWalkG
namespace Go.Proofs.Ytfgpmpopmpobgaa
open Go.RowKit
/-- A Reader and the reference's: they are alike. -/
structure Cor (T s : ByteArray) (e a : Nat) : Prop where
  le : a ≤ T.size
  ok : e = 0 → s.data.toList = T.data.toList.drop a
  err : e ≠ 0 → s = ByteArray.empty
theorem cor_new (T : ByteArray) : Cor T T 0 0 := ⟨Nat.zero_le _, fun _ => rfl, fun h => absurd rfl h⟩
theorem Cor.size {T s : ByteArray} {e a : Nat} (h : Cor T s e a) : s.size = if e = 0 then T.size - a else 0 := by
  by_cases he : e = 0
  · rw [if_pos he, size_list, h.ok he, List.length_drop, ← size_list]
  · rw [if_neg he, h.err he]; rfl
theorem Cor.num {T s : ByteArray} {e a : Nat} (h : Cor T s e a) : (nb s e).1 = (rnb T a e).2.2 ∧ (nb s e).2.1 = (rnb T a e).2.1 ∧ Cor T (nb s e).2.2 (nb s e).2.1 (rnb T a e).1 := by
  by_cases he : e = 0
  · subst he
    have hl := h.ok rfl
    rcases scan_err (T.data.toList.drop a) 0 0 with h1 | h1 | h1
    · obtain ⟨⟨n, e, k⟩, hsc⟩ : ∃ r, scan (T.data.toList.drop a) 0 0 = r := ⟨_, rfl⟩
      rw [hsc] at h1
      simp only at h1
      subst h1
      rw [nb_of (s := s) (by rw [hl]; exact hsc), rnb_of hsc]
      obtain ⟨m, _, _, _, _, h5, _⟩ := scan_back _ 0 0 n k (by decide) (by omega) hsc
      rw [List.length_drop, ← size_list] at h5
      have := h.le
      refine ⟨rfl, rfl, by show a + k ≤ _; omega, fun _ => ?_, fun h => absurd rfl h⟩
      show (s.extract k s.size).data.toList = T.data.toList.drop (a + k)
      rw [rest_list, hl, List.drop_drop]
    · have h2 : scan s.data.toList 0 0 = (0, 60, 0) := by rw [hl]; exact h1
      rw [nb_err h2 (by decide), rnb_err h1 (by decide)]
      exact ⟨rfl, rfl, h.le, (fun h => by cases h), fun _ => rfl⟩
    · have h2 : scan s.data.toList 0 0 = (0, 61, 0) := by rw [hl]; exact h1
      rw [nb_err h2 (by decide), rnb_err h1 (by decide)]
      exact ⟨rfl, rfl, h.le, (fun h => by cases h), fun _ => rfl⟩
  · rw [nb, if_pos he, rnb, if_pos he]
    exact ⟨rfl, rfl, h⟩
theorem Cor.take {T s : ByteArray} {e a : Nat} (h : Cor T s e a) (n : Int) : (tk s e n).1 = (rtk T a e n).2.2 ∧ (tk s e n).2.1 = (rtk T a e n).2.1 ∧ Cor T (tk s e n).2.2 (tk s e n).2.1 (rtk T a e n).1 := by
  by_cases he : e = 0
  · subst he
    have hl := h.ok rfl
    have hs := h.size
    rw [if_pos rfl] at hs
    have hle := h.le
    by_cases hn : n < 0 ∨ (s.size : Int) < n
    · rw [tk, if_neg (by simp), if_pos hn, rtk, if_neg (by simp), if_pos (by rw [← hs]; exact hn)]
      exact ⟨rfl, rfl, h.le, (fun h => by cases h), fun _ => rfl⟩
    · rw [tk, if_neg (by simp), if_neg hn, rtk, if_neg (by simp), if_neg (by rw [← hs]; exact hn)]
      refine ⟨?_, rfl, by show a + n.toNat ≤ _; omega, fun _ => ?_, fun h => absurd rfl h⟩
      · apply ba_ext
        show (s.extract 0 n.toNat).data.toList = (T.extract a (a + n.toNat)).data.toList
        rw [cut_list, hl, ByteArray.data_extract, Array.toList_extract, List.extract_eq_take_drop]
        congr 1
        omega
      · show (s.extract n.toNat s.size).data.toList = T.data.toList.drop (a + n.toNat)
        rw [rest_list, hl, List.drop_drop]
  · rw [tk, if_pos he, rtk, if_pos he]
    exact ⟨rfl, rfl, h⟩
/-- The reference's Reader in three cells, from o on. -/
structure Thr (w : World) (g o : Nat) (T : ByteArray) (a e : Nat) : Prop where
  c0 : w.cell? ⟨g, o, none⟩ = some (.string T)
  c1 : w.cell? ⟨g, o + 1, none⟩ = some (.int .i64 (a : Int))
  c2 : w.cell? ⟨g, o + 2, none⟩ = some (.int .i64 (e : Int))
  f0 : w.frozen? ⟨g, o, none⟩ = false
  f1 : w.frozen? ⟨g, o + 1, none⟩ = false
  f2 : w.frozen? ⟨g, o + 2, none⟩ = false
theorem cell_of_block {w w' : World} {q i : Nat} (h : w'.heap[q]? = w.heap[q]?) : w'.cell? ⟨q, i, none⟩ = w.cell? ⟨q, i, none⟩ ∧ w'.frozen? ⟨q, i, none⟩ = w.frozen? ⟨q, i, none⟩ := by
  constructor
  · simp only [World.cell?, h]
  · simp only [World.frozen?, h]
theorem Thr.of_block {w w' : World} {g o a e : Nat} {T : ByteArray} (t : Thr w g o T a e) (h : w'.heap[g]? = w.heap[g]?) : Thr w' g o T a e :=
  ⟨(cell_of_block h).1.trans t.c0, (cell_of_block h).1.trans t.c1, (cell_of_block h).1.trans t.c2, (cell_of_block h).2.trans t.f0, (cell_of_block h).2.trans t.f1, (cell_of_block h).2.trans t.f2⟩
theorem Rdr.of_block {w w' : World} {p e : Nat} {s : ByteArray} (t : Rdr w p s e) (h : w'.heap[p]? = w.heap[p]?) : Rdr w' p s e :=
  ⟨(cell_of_block h).1.trans t.c0, (cell_of_block h).1.trans t.c1, (cell_of_block h).2.trans t.f0, (cell_of_block h).2.trans t.f1⟩
/-- Three cells set. -/
def set3 (w : World) (g o : Nat) (T : ByteArray) (a e : Nat) : World := ((w.setCell ⟨g, o, none⟩ (.string T)).setCell ⟨g, o + 1, none⟩ (.int .i64 (a : Int))).setCell ⟨g, o + 2, none⟩ (.int .i64 (e : Int))
theorem set3_block (w : World) (g o : Nat) (T : ByteArray) (a e q : Nat) (h : q ≠ g) : (set3 w g o T a e).heap[q]? = w.heap[q]? := by
  unfold set3
  rw [Below.heap_setCell _ _ _ _ h, Below.heap_setCell _ _ _ _ h, Below.heap_setCell _ _ _ _ h]
theorem set3_size (w : World) (g o : Nat) (T : ByteArray) (a e : Nat) : (set3 w g o T a e).heap.size = w.heap.size := by simp [set3]
theorem ne_off {g i j : Nat} (h : i ≠ j) : (⟨g, i, none⟩ : Addr) ≠ ⟨g, j, none⟩ := fun e => h (by have := congrArg Addr.off e; simpa using this)
theorem set3_same {w : World} {g o a e : Nat} {T T' : ByteArray} (t : Thr w g o T' a e) (a' e' : Nat) : Thr (set3 w g o T a' e') g o T a' e' := by
  unfold set3
  refine ⟨?_, ?_, ?_, ?_, ?_, ?_⟩
  · rw [World.cell?_setCell_other _ _ _ _ (ne_off (by omega)), World.cell?_setCell_other _ _ _ _ (ne_off (by omega))]
    exact World.cell?_setCell_same _ _ _ t.c0
  · rw [World.cell?_setCell_other _ _ _ _ (ne_off (by omega))]
    exact World.cell?_setCell_same _ _ _ ((World.cell?_setCell_other _ _ _ _ (ne_off (by omega))).trans t.c1)
  · exact World.cell?_setCell_same _ _ _ ((World.cell?_setCell_other _ _ _ _ (ne_off (by omega))).trans ((World.cell?_setCell_other _ _ _ _ (ne_off (by omega))).trans t.c2))
  · rw [World.frozen?_setCell, World.frozen?_setCell, World.frozen?_setCell]; exact t.f0
  · rw [World.frozen?_setCell, World.frozen?_setCell, World.frozen?_setCell]; exact t.f1
  · rw [World.frozen?_setCell, World.frozen?_setCell, World.frozen?_setCell]; exact t.f2
theorem set3_other {w : World} {g o o' a e a' e' : Nat} {T T' : ByteArray} (t : Thr w g o T' a e) (h : o + 3 ≤ o' ∨ o' + 3 ≤ o) : Thr (set3 w g o' T a' e') g o T' a e := by
  unfold set3
  have hc : ∀ i v, i < 3 → w.cell? ⟨g, o + i, none⟩ = some v → (((w.setCell ⟨g, o', none⟩ (.string T)).setCell ⟨g, o' + 1, none⟩ (.int .i64 (a' : Int))).setCell ⟨g, o' + 2, none⟩ (.int .i64 (e' : Int))).cell? ⟨g, o + i, none⟩ = some v := fun i v hi hv => by
    rw [World.cell?_setCell_other _ _ _ _ (ne_off (by omega)), World.cell?_setCell_other _ _ _ _ (ne_off (by omega)), World.cell?_setCell_other _ _ _ _ (ne_off (by omega))]
    exact hv
  refine ⟨hc 0 _ (by omega) t.c0, hc 1 _ (by omega) t.c1, hc 2 _ (by omega) t.c2, ?_, ?_, ?_⟩
  · rw [World.frozen?_setCell, World.frozen?_setCell, World.frozen?_setCell]; exact t.f0
  · rw [World.frozen?_setCell, World.frozen?_setCell, World.frozen?_setCell]; exact t.f1
  · rw [World.frozen?_setCell, World.frozen?_setCell, World.frozen?_setCell]; exact t.f2
def upd {α : Type} (f : Nat → α) (k : Nat) (x : α) : Nat → α := fun j => if j = k then x else f j
/-- Two Readers, the lists of them, the reference's two. -/
structure Sta (w wr : World) (P : Nat → Nat) (g h : Nat) (T s : Nat → ByteArray) (e a : Nat → Nat) : Prop where
  below : Below w.heap.size w wr
  rd : ∀ k, k < 2 → Rdr wr (P k) (s k) (e k)
  ptr : ∀ k, k < 2 → wr.cell? ⟨g, k, none⟩ = some (.pointer (some ⟨P k, 0, none⟩))
  row : ∀ k, k < 2 → Thr wr h (k * 3) (T k) (a k) (e k)
  cor : ∀ k, k < 2 → Cor (T k) (s k) (e k) (a k)
/-- Where they lie. -/
structure Lie (w : World) (P : Nat → Nat) (g h : Nat) : Prop where
  inj : ∀ j k, P j = P k → j = k
  np : ∀ k, w.heap.size ≤ P k
  ng : w.heap.size ≤ g
  nh : w.heap.size ≤ h
  pg : ∀ k, k < 2 → P k ≠ g
  ph : ∀ k, k < 2 → P k ≠ h
  gh : g ≠ h
theorem Sta.step {w wr w1 w2 : World} {P : Nat → Nat} {g h : Nat} {T s : Nat → ByteArray} {e a : Nat → Nat} (L : Lie w P g h) (S : Sta w wr P g h T s e a) {k : Nat} (hk : k < 2) {s' : ByteArray} {e' a' : Nat}
    (hr : Rdr w1 (P k) s' e') (hc : Ch (P k) wr w1) (hb : Below w1.heap.size w1 w2) (hcor : Cor (T k) s' e' a') : Sta w (set3 w2 h (k * 3) (T k) a' e') P g h T (upd s k s') (upd e k e') (upd a k a') := by
  have lp : ∀ j, j < 2 → P j < wr.heap.size := fun j hj => (S.rd j hj).lt
  have lg : g < wr.heap.size := World.block_lt_of_cell? _ _ (S.ptr 0 (by omega))
  have lh : h < wr.heap.size := World.block_lt_of_cell? _ _ (S.row 0 (by omega)).c0
  have hsz := hc.below.size
  have blk : ∀ q, q < wr.heap.size → q ≠ P k → w2.heap[q]? = wr.heap[q]? := fun q h1 h2 => (hb.block q (by omega)).trans (hc.block q h1 h2)
  have row2 : ∀ j, j < 2 → Thr w2 h (j * 3) (T j) (a j) (e j) := fun j hj => (S.row j hj).of_block (blk h lh (L.ph k hk).symm)
  refine ⟨?_, fun j hj => ?_, fun j hj => ?_, fun j hj => ?_, fun j hj => ?_⟩
  · have q1 : Below w.heap.size w w2 := (S.below.trans (hc.below.mono (L.np k))).trans (hb.mono (by have := S.below.size; omega))
    unfold set3
    exact ((q1.setCell (p := ⟨h, k * 3, none⟩) L.nh _).setCell (p := ⟨h, k * 3 + 1, none⟩) L.nh _).setCell (p := ⟨h, k * 3 + 2, none⟩) L.nh _
  · by_cases e : j = k
    · subst e
      simp only [upd, if_true]
      exact (hr.next hb hr.lt).of_block (set3_block _ _ _ _ _ _ _ (L.ph j hj))
    · simp only [upd, if_neg e]
      refine (S.rd j hj).of_block ?_
      rw [set3_block _ _ _ _ _ _ _ (L.ph j hj)]
      exact blk _ (lp j hj) (fun h => e (L.inj _ _ h))
  · have hq : (set3 w2 h (k * 3) (T k) a' e').heap[g]? = wr.heap[g]? := by
      rw [set3_block _ _ _ _ _ _ _ L.gh]
      exact blk g lg (L.pg k hk).symm
    exact (cell_of_block hq).1.trans (S.ptr j hj)
  · by_cases e : j = k
    · subst e
      simp only [upd, if_true]
      exact set3_same (row2 j hj) _ _
    · simp only [upd, if_neg e]
      exact set3_other (row2 j hj) (by omega)
  · by_cases e : j = k
    · subst e
      simp only [upd, if_true]
      exact hcor
    · simp only [upd, if_neg e]
      exact S.cor j hj
theorem Sta.later {w wr w' : World} {P : Nat → Nat} {g h : Nat} {T s : Nat → ByteArray} {e a : Nat → Nat} (S : Sta w wr P g h T s e a) (hb : Below wr.heap.size wr w') : Sta w w' P g h T s e a := by
  have lp : ∀ j, j < 2 → P j < wr.heap.size := fun j hj => (S.rd j hj).lt
  have lg : g < wr.heap.size := World.block_lt_of_cell? _ _ (S.ptr 0 (by omega))
  have lh : h < wr.heap.size := World.block_lt_of_cell? _ _ (S.row 0 (by omega)).c0
  exact ⟨bnext S.below hb, fun j hj => (S.rd j hj).next hb (lp j hj), fun j hj => (cell_of_block (hb.block g lg)).1.trans (S.ptr j hj), fun j hj => (S.row j hj).of_block (hb.block h lh), S.cor⟩
end Go.Proofs.Ytfgpmpopmpobgaa
