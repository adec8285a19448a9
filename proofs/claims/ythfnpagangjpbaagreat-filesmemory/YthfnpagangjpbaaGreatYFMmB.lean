/-
  FilesMemory: the list with room behind it. Own work.
-/
import Derived.Test.YthfnpagangjpbaaGreatYFMmA
namespace Go.Proofs.YthfnpagangjpbaaGreat
open Go.RowKit
open Rc
def rmT : ByteArray := ⟨#[114, 111, 111, 109]⟩
def ovT : ByteArray := ⟨#[111, 118, 101, 114]⟩
/-- The list, its first j turned. -/
def ovL (Z : List ByteArray) (j : Nat) : List ByteArray := List.replicate j ovT ++ Z.drop j
theorem ovL_zero (Z : List ByteArray) : ovL Z 0 = Z := rfl
theorem ovL_len {Z : List ByteArray} {j : Nat} (h : j ≤ Z.length) : (ovL Z j).length = Z.length := by
  rw [ovL, List.length_append, List.length_replicate, List.length_drop]; omega
theorem ovL_at {Z : List ByteArray} {j : Nat} : (ovL Z j).getD j ByteArray.empty = Z.getD j ByteArray.empty := by
  rw [ovL, List.getD_eq_getElem?_getD, List.getD_eq_getElem?_getD, List.getElem?_append_right (by rw [List.length_replicate]; exact Nat.le_refl _), List.length_replicate, Nat.sub_self, List.getElem?_drop, Nat.add_zero]
theorem ovL_set {Z : List ByteArray} {j : Nat} (h : j < Z.length) : (ovL Z j).set j ovT = ovL Z (j + 1) := by
  unfold ovL
  rw [List.set_append_right _ _ (by rw [List.length_replicate]; exact Nat.le_refl _), List.length_replicate, Nat.sub_self, List.drop_eq_getElem_cons h, List.set_cons_zero, List.replicate_succ', List.append_assoc]
  rfl
/-- Two stores, and a list of one's own that is none of theirs. -/
def Wst (w2 W : World) (q p : Nat) (D : DV) (S : SV) (q2 p2 : Nat) (E : DV) (S2 : SV) (B g n cap : Nat) (l : List ByteArray) : Prop := ∃ O : Nat → Prop, Tws w2 W q p D S q2 p2 E S2 O ∧ O g ∧ OwnS W B (.slice (some ⟨g, 0, none⟩) n cap) l
section
variable {w2 W W' wr : World} {q p q2 p2 : Nat} {D D' E : DV} {S S' S2 : SV} {B g n cap : Nat} {l : List ByteArray}
theorem Wst.next (h : Wst w2 W q p D S q2 p2 E S2 B g n cap l) (hb : Below W.heap.size W W') : Wst w2 W' q p D S q2 p2 E S2 B g n cap l := by
  obtain ⟨O, t, og, ow⟩ := h
  exact ⟨O, t.next hb, og, own_next ow hb (Nat.le_refl _)⟩
theorem Wst.set (h : Wst w2 W q p D S q2 p2 E S2 B g n cap l) (j : Nat) (s : ByteArray) : Wst w2 (W.setCell ⟨g, j, none⟩ (.string s)) q p D S q2 p2 E S2 B g n cap (l.set j s) := by
  obtain ⟨O, t, og, ow⟩ := h
  exact ⟨O, t.keep ((Upo.refl _ _).set g j _ (.inl og)), og, own_set ow j s⟩
theorem Wst.tws (h : Wst w2 W q p D S q2 p2 E S2 B g n cap l) : Tws w2 W q p D S q2 p2 E S2 NoB := by
  obtain ⟨O, t, og, ow⟩ := h
  exact t.drop
theorem Wst.cell (h : Wst w2 W q p D S q2 p2 E S2 B g n cap l) {j : Nat} (hj : j < l.length) : W.cell? ⟨g, j, none⟩ = some (.string (l.getD j ByteArray.empty)) ∧ W.frozen? ⟨g, j, none⟩ = false := by
  obtain ⟨O, t, og, ow⟩ := h
  exact own_cell ow hj
theorem wst_add (h : Tws w2 wr q p D S q2 p2 E S2 NoB) (hb : Below wr.heap.size wr W) (ow : OwnS W wr.heap.size (.slice (some ⟨g, 0, none⟩) n cap) l) (hl : 0 < l.length) (m : Nat) (hm : m ≤ l.length) (hz : ∀ s ∈ l, s.size ≤ 9223372036854775807) (hmx : m ≤ 9223372036854775807) (hrm : Rm 7 D) (s : ByteArray) (hs : s.size ≤ 9223372036854775807) (r : Int) (hR : addD D S s.data.toList (l.take m) = (D', S', r)) :
    Calls Tryz.prog 15 #[.pointer (some ⟨q, 0, none⟩), .string s, .slice (some ⟨g, 0, none⟩) m cap] W fun e w' => e = .returned (.int .i64 r) ∧ Wst w2 w' q p D' S' q2 p2 E S2 wr.heap.size g n cap l := by
  have hO : wr.heap.size ≤ g ∧ g < W.heap.size := by
    obtain ⟨g', cap', hv, h1, _⟩ := own_form ow hl
    injection hv with e1 e2 e3
    injection e1 with e1
    injection e1 with e1
    subst e1
    exact ⟨h1, World.block_lt_of_cell? W _ (own_cell ow (j := 0) hl).1⟩
  have hrd := own_take ow m hm hz
  exact ((h.wide hb).add hrm s hs _ g 0 m cap (l.take m) hrd hmx r hR).mono fun e w' z => ⟨z.1, _, z.2.1, hO, row_keep ow (fun x hx => by cases hx; exact z.2.2 g hO)⟩
end
theorem ls_any (w : World) (ao : Option Addr) (b off len cap : Nat) (ss : List ByteArray) (hr : RdS w ao b off len ss) (hmx : len ≤ 9223372036854775807) : ∃ L n, Sml L ∧ L.length = n ∧ n ≤ 12 ∧ ∀ W, Below w.heap.size w W → Calls Tryz.prog 11 #[.slice ao len cap] W fun e w' => ∃ la lb lc, e = .returned (.slice la n lc) ∧ RdS w' la lb 0 n L ∧ Below W.heap.size W w' := by
  obtain ⟨k, L, n, hB⟩ := beg_any w 0 ao b off len cap ss hr hmx
  refine ⟨L, n, hB.sml, hB.ln, hB.n12, fun W hW => (hB.ls W hW).mono fun e w' z => ?_⟩
  obtain ⟨la, lb, lc, z1, z2, z3, _⟩ := z
  exact ⟨la, lb, lc, z1, z2, z3⟩
/-- One store of the two, so far. -/
def Hf (k : Nat) (L : List ByteArray) (i : Nat) (D : DV) : Prop := Qt 1048576 D ∧ Ext k (itA k (L.take i)) D.L ∧ D.acts ≤ 3 + 6 * i
theorem take_atM {l : List ByteArray} {i : Nat} {s : ByteArray} (h : l[i]? = some s) : l.take (i + 1) = l.take i ++ [s] := by
  have hi := (List.getElem?_eq_some_iff.1 h).1
  rw [List.take_succ_eq_append_getElem hi]
  congr 2
  exact Option.some.inj ((List.getElem?_eq_getElem hi).symm.trans h)
theorem hf_add {k : Nat} (k1 : 1 ≤ k) (k2 : k ≤ 32) {L : List ByteArray} (hs : Sml L) {i : Nat} {s : ByteArray} (hsi : L[i]? = some s) {D : DV} (h : Hf k L i D) : ∃ D', addD D (sA k (itA k (L.take i))) s.data.toList (dg0 k i) = (D', sA k (itA k (L.take (i + 1))), 0) ∧ Hf k L (i + 1) D' ∧ Rm 7 D ∧ s.size ≤ 9223372036854775807 := by
  obtain ⟨h1, h2, h3⟩ := h
  have hi := (List.getElem?_eq_some_iff.1 hsi).1
  have hfew := hs.few
  have et := take_atM hsi
  have hlt : (L.take i).length = i := by rw [List.length_take]; omega
  have ok1 := (hs.take (i + 1)).ok k1 k2
  have ft := (hs.take (i + 1)).fits k1 k2
  rw [et, itA_snoc, hlt] at ok1 ft
  obtain ⟨D', g1, g2, g3, g4⟩ := add_ok ok1 h1 h2 (by omega) (by decide)
  have hsz := hs.sz s (List.mem_of_getElem? hsi)
  refine ⟨D', ?_, ⟨g2, ?_, by omega⟩, qt_rm h1 h2.oth (by decide) (by omega), by omega⟩
  · rw [et, itA_snoc, hlt]; exact g1
  · rw [et, itA_snoc, hlt]; exact g3
theorem hf_same {k : Nat} {L : List ByteArray} {i : Nat} (hi : L.length ≤ i) {D : DV} (h : Hf k L i D) : Hf k L (i + 1) D ∧ itA k (L.take (i + 1)) = itA k (L.take i) := by
  have e1 : L.take (i + 1) = L := List.take_of_length_le (by omega)
  have e2 : L.take i = L := List.take_of_length_le hi
  obtain ⟨h1, h2, h3⟩ := h
  rw [e2] at h2
  exact ⟨⟨h1, by rw [e1]; exact h2, by omega⟩, by rw [e1, e2]⟩
end Go.Proofs.YthfnpagangjpbaaGreat
