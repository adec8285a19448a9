/-
  Own work: CvWalkF, CvWalkH, BSpec, BMem, WWalkA.
-/
import Derived.Test.YtipcenbndhnnhaaGreatDoorProg
import Derived.Deep.MidRow
import Derived.Below
import Derived.WalkKit
import Derived.WalkSpells
import Derived.Outline
import Derived.KernelRfl
import Derived.Deep.LoopGhost
import Derived.Deep.RegionHeld3
import Derived.Deep.RegionWith
import Derived.Deep.DrawnRows
import Derived.Deep.Light
import Derived.Laws.BitsAllLaws
import Derived.BigQuiet
import Derived.Test.YtipcenbndhnnhaaGreatDoorQd13
namespace Go.Proofs.YtipcenbndhnnhaaGreatDoor.Cv
open Pl
open Go.RowKit
attribute [local go_sem ↓] Go.wp_at_zero Go.wp_at_succ
structure RdB (w : World) (ao : Option Addr) (g n : Nat) (l : List (Int × Nat)) : Prop where
  len : l.length = n
  addr : 0 < n → ao = some ⟨g, 0, none⟩
  cell : ∀ j, j < n → w.cell? ⟨g, j * 2, none⟩ = some (.int .i64 (l.getD j (0, 0)).1) ∧ w.cell? ⟨g, j * 2 + 1, none⟩ = some (.int .u64 ((l.getD j (0, 0)).2 : Nat))
theorem RdB.below {w w' : World} {ao : Option Addr} {g n : Nat} {l : List (Int × Nat)} (r : RdB w ao g n l) (h : Below w.heap.size w w') : RdB w' ao g n l :=
  ⟨r.len, r.addr, fun j hj => ⟨(h.cell (p := ⟨g, j * 2, none⟩) (World.block_lt_of_cell? w _ (r.cell j hj).1)).trans (r.cell j hj).1, (h.cell (p := ⟨g, j * 2 + 1, none⟩) (World.block_lt_of_cell? w _ (r.cell j hj).2)).trans (r.cell j hj).2⟩⟩
theorem own_rdB {w : World} {base : Nat} {v : Value} {l : List (Int × Nat)} (h : OwnB w base v l) : ∃ ao g n cap, v = .slice ao n cap ∧ RdB w ao g n l ∧ n ≤ maxLen := by
  have h0 := h
  obtain ⟨h1, h2⟩ := h
  rcases h2 with ⟨rfl, h2⟩ | ⟨g, cap, cur, rfl, hg, hh, hc1, hc2, hc3, hc4⟩
  · exact ⟨none, 0, 0, 0, rfl, ⟨h2, fun h => absurd h (by omega), fun j hj => absurd hj (by omega)⟩, Nat.zero_le _⟩
  · refine ⟨some ⟨g, 0, none⟩, g, l.length, cap, rfl, ⟨rfl, fun _ => rfl, fun j hj => ?_⟩, by omega⟩
    have hcl := h0.cells (g := g) rfl
    obtain ⟨⟨a, b⟩, hq⟩ : ∃ q, l[j] = q := ⟨_, rfl⟩
    have hget : l[j]? = some (a, b) := by rw [List.getElem?_eq_getElem hj, hq]
    obtain ⟨e1, e2⟩ := cB_get l j a b hget
    have f1 := hcl _ _ e1
    have f2 := hcl _ _ e2
    rw [Addr.add_mid, Nat.zero_add, Nat.mul_comm] at f1 f2
    rw [List.getD_eq_getElem?_getD, hget]
    exact ⟨f1, f2⟩
end Go.Proofs.YtipcenbndhnnhaaGreatDoor.Cv
namespace Go.Proofs.YtipcenbndhnnhaaGreatDoor.Cv
open Pl
open Go.RowKit
attribute [local go_sem ↓] Go.wp_at_zero Go.wp_at_succ
def Row (q : Nat) : Nat → List (Nat × Nat) → Prop
  | p, [] => p = q
  | p, b :: L => p = b.2 * pw b.1 ∧ b.1 ≤ 40 ∧ b.2 < pw (40 - b.1) ∧ Row q ((b.2 + 1) * pw b.1) L
theorem row_app {q m : Nat} {M : List (Nat × Nat)} (h' : Row q m M) : ∀ {L : List (Nat × Nat)} {p : Nat}, Row m p L → Row q p (L ++ M) := by
  intro L
  induction L with
  | nil => intro p h; obtain rfl : p = m := h; exact h'
  | cons b L ih => intro p h; exact ⟨h.1, h.2.1, h.2.2.1, ih h.2.2.2⟩
theorem blk_may {h k : Nat} (hb : (k + 1) * pw h ≤ 2 ^ 40) : h ≤ 40 ∧ k < pw (40 - h) := by
  have h1 : pw h ≤ (k + 1) * pw h := Nat.le_mul_of_pos_left _ (by omega)
  have hh : h ≤ 40 := pw40 (by omega)
  refine ⟨hh, ?_⟩
  have e : (2 : Nat) ^ 40 = pw (40 - h) * pw h := by rw [← pw_add, show 40 - h + h = 40 by omega]; rfl
  rw [e] at hb
  exact Nat.lt_of_lt_of_le (Nat.lt_succ_self k) (Nat.le_of_mul_le_mul_right hb (pw_pos h))
theorem til_row {lo hi : Nat} (hhi : hi ≤ 2 ^ 40) : ∀ {L : List (Nat × Nat)} {p : Nat}, lo ≤ p → Til (Rg lo hi) hi p L → Row hi p L := by
  intro L
  induction L with
  | nil =>
    intro p h1 h2
    show p = hi
    have := h2.1
    by_cases he : p = hi
    · exact he
    · exact absurd ⟨h1, by omega⟩ (h2.2 p (Nat.le_refl _) (by omega))
  | cons b L ih =>
    intro p h1 h2
    obtain ⟨a1, a2, a3, a4, a5, a6⟩ := h2
    have hlt := blk_lt b.1 b.2
    have hm := blk_may (Nat.le_trans a2 hhi)
    refine ⟨?_, hm.1, hm.2, ih (by omega) a6⟩
    by_cases he : p = b.2 * pw b.1
    · exact he
    · exact absurd ⟨h1, by omega⟩ (a3 p (Nat.le_refl _) (by omega))
theorem cov_row (lo hi : Nat) (h : lo ≤ hi) (hhi : hi ≤ 2 ^ 40) : Row hi lo (cov lo hi) := til_row hhi (Nat.le_refl _) (cov_til lo hi h hhi)
theorem til_mem {A : Nat → Prop} {q : Nat} : ∀ {L : List (Nat × Nat)} {p : Nat}, Til A q p L → ∀ b ∈ L, ¬ All A (b.1 + 1) (b.2 / 2) ∧ (b.2 + 1) * pw b.1 ≤ q := by
  intro L
  induction L with
  | nil => intro p _ b hb; cases hb
  | cons c L ih =>
    intro p h b hb
    rcases List.mem_cons.1 hb with rfl | hb
    · exact ⟨h.2.2.2.2.1, h.2.1⟩
    · exact ih h.2.2.2.2.2 b hb
theorem drop_at {α : Type} (d : α) (l : List α) (j : Nat) (h : j < l.length) : l.drop j = l.getD j d :: l.drop (j + 1) := by
  rw [List.drop_eq_getElem_cons h, List.getD_eq_getElem?_getD, List.getElem?_eq_getElem h]; rfl
theorem zl_getD (L : List (Nat × Nat)) (j : Nat) : (zl L).getD j (0, 0) = (((L.getD j (0, 0)).1 : Int), (L.getD j (0, 0)).2) := by
  by_cases h : j < L.length
  · simp [zl, List.getD_eq_getElem?_getD, List.getElem?_eq_getElem h]
  · simp [zl, List.getD_eq_getElem?_getD, List.getElem?_eq_none (Nat.le_of_not_lt h)]
end Go.Proofs.YtipcenbndhnnhaaGreatDoor.Cv
namespace Go.Proofs.YtipcenbndhnnhaaGreatDoor
open Pl (pw pw_succ pw_pos pw_zero)
open Cv (tno inb inb_iff)
def bl (S : List Nat) (x : Nat) : Nat := (S.filter fun i => decide (i < x)).length
theorem bl_le (S : List Nat) (x : Nat) : bl S x ≤ S.length := List.length_filter_le _ _
abbrev Asc (S : List Nat) : Prop := S.Pairwise (· < ·)
theorem bl_split (x : Nat) : ∀ {S : List Nat}, Asc S → S.filter (fun i => decide (i < x)) = S.take (bl S x) ∧ S.filter (fun i => decide (x ≤ i)) = S.drop (bl S x)
  | [], _ => ⟨rfl, rfl⟩
  | a :: S, h => by
    obtain ⟨h1, h2⟩ := List.pairwise_cons.1 h
    obtain ⟨i1, i2⟩ := bl_split x h2
    by_cases ha : a < x
    · have e : bl (a :: S) x = bl S x + 1 := by simp [bl, ha]
      have hn : ¬ x ≤ a := by omega
      rw [e, List.take_succ_cons, List.drop_succ_cons, ← i1, ← i2]
      constructor
      · rw [List.filter_cons_of_pos (by simpa using ha)]
      · rw [List.filter_cons_of_neg (by simpa using hn)]
    · have hn : ∀ i ∈ S, ¬ i < x := fun i hi => by have := h1 i hi; omega
      have e1 : S.filter (fun i => decide (i < x)) = [] := List.filter_eq_nil_iff.2 (by simpa using hn)
      have e : bl (a :: S) x = 0 := by rw [bl, List.filter_cons_of_neg (by simpa using ha), e1]; rfl
      rw [e]
      constructor
      · rw [List.filter_cons_of_neg (by simpa using ha), e1]; rfl
      · refine List.filter_eq_self.2 fun i hi => ?_
        rcases List.mem_cons.1 hi with rfl | hi
        · simpa using ha
        · simpa using hn i hi
theorem mem_low {S : List Nat} {x i : Nat} (h : Asc S) (hi : i ∈ S.take (bl S x)) : i < x := by
  rw [← (bl_split x h).1] at hi
  simpa using (List.mem_filter.1 hi).2
theorem mem_high {S : List Nat} {x i : Nat} (h : Asc S) (hi : i ∈ S.drop (bl S x)) : x ≤ i := by
  rw [← (bl_split x h).2] at hi
  simpa using (List.mem_filter.1 hi).2
theorem asc_take {S : List Nat} (h : Asc S) (t : Nat) : Asc (S.take t) := h.sublist (List.take_sublist _ _)
theorem asc_drop {S : List Nat} (h : Asc S) (t : Nat) : Asc (S.drop t) := h.sublist (List.drop_sublist _ _)
theorem mem_take {S : List Nat} {t i : Nat} (hi : i ∈ S.take t) : i ∈ S := (List.take_sublist _ _).subset hi
theorem mem_drop {S : List Nat} {t i : Nat} (hi : i ∈ S.drop t) : i ∈ S := (List.drop_sublist _ _).subset hi
theorem tno_fil (h k : Nat) (S : List Nat) : tno h k (S.filter (inb h k)) = tno h k S := by
  cases h <;> simp only [tno, List.filter_filter, Bool.and_self]
theorem tno_nil (h k : Nat) : tno h k [] = [(h, k)] := by cases h <;> rfl
abbrev In (h k : Nat) (S : List Nat) : Prop := ∀ i ∈ S, k * pw h ≤ i ∧ i < (k + 1) * pw h
theorem in_cut {h k : Nat} {S : List Nat} (hp : Asc S) (hS : In (h + 1) k S) : S.filter (inb h (2 * k)) = S.take (bl S ((2 * k + 1) * pw h)) ∧ S.filter (inb h (2 * k + 1)) = S.drop (bl S ((2 * k + 1) * pw h)) := by
  obtain ⟨h1, h2⟩ := bl_split ((2 * k + 1) * pw h) hp
  rw [← h1, ← h2]
  have e1 := Cv.half_lo h k
  have e2 := Cv.half_hi h k
  constructor
  · refine List.filter_congr fun i hi => ?_
    have := hS i hi
    rw [Bool.eq_iff_iff, inb_iff, decide_eq_true_iff]; omega
  · refine List.filter_congr fun i hi => ?_
    have := hS i hi
    rw [Bool.eq_iff_iff, inb_iff, decide_eq_true_iff]; omega
theorem in_low {h k : Nat} {S : List Nat} (hp : Asc S) (hS : In (h + 1) k S) : In h (2 * k) (S.take (bl S ((2 * k + 1) * pw h))) := fun i hi => by
  rw [← (in_cut hp hS).1] at hi
  exact inb_iff.1 (List.mem_filter.1 hi).2
theorem in_high {h k : Nat} {S : List Nat} (hp : Asc S) (hS : In (h + 1) k S) : In h (2 * k + 1) (S.drop (bl S ((2 * k + 1) * pw h))) := fun i hi => by
  rw [← (in_cut hp hS).2] at hi
  exact inb_iff.1 (List.mem_filter.1 hi).2
theorem tno_cut {h k : Nat} {S : List Nat} (hp : Asc S) (hS : In (h + 1) k S) (h0 : S ≠ []) : tno (h + 1) k S = tno h (2 * k) (S.take (bl S ((2 * k + 1) * pw h))) ++ tno h (2 * k + 1) (S.drop (bl S ((2 * k + 1) * pw h))) := by
  have e : S.filter (inb (h + 1) k) = S := List.filter_eq_self.2 fun i hi => inb_iff.2 (hS i hi)
  rw [tno, e, if_neg (by simpa [List.length_eq_zero_iff] using h0), ← tno_fil h (2 * k) S, ← tno_fil h (2 * k + 1) S, (in_cut hp hS).1, (in_cut hp hS).2]
theorem tno_full {k : Nat} {S : List Nat} (hS : In 0 k S) (h0 : S ≠ []) : tno 0 k S = [] := by
  have e : S.filter (inb 0 k) = S := List.filter_eq_self.2 fun i hi => inb_iff.2 (hS i hi)
  rw [tno, e, if_neg (by simpa [List.length_eq_zero_iff] using h0)]
theorem in_one {k i : Nat} {S : List Nat} (hS : In 0 k (i :: S)) : i = k := by
  have := hS i (List.mem_cons_self ..)
  rw [pw_zero] at this; omega
def vB (c : Nat) : Nat → Nat → List Nat → List ByteArray → List ByteArray → ByteArray
  | 0, _, S, X, D => if S.length = 0 then D.getD 0 ByteArray.empty else dg c (leafT (X.getD 0 ByteArray.empty))
  | h + 1, k, S, X, D => if S.length = 0 then D.getD 0 ByteArray.empty else dg c (nodeT (vB c h (2 * k) (S.take (bl S ((2 * k + 1) * pw h))) (X.take (bl S ((2 * k + 1) * pw h))) D) (vB c h (2 * k + 1) (S.drop (bl S ((2 * k + 1) * pw h))) (X.drop (bl S ((2 * k + 1) * pw h))) (D.drop (tno h (2 * k) (S.take (bl S ((2 * k + 1) * pw h)))).length)))
theorem vB_nil (c h k : Nat) (X D : List ByteArray) : vB c h k [] X D = D.getD 0 ByteArray.empty := by cases h <;> simp [vB]
theorem vB_leaf (c k : Nat) {S : List Nat} (X D : List ByteArray) (h0 : S ≠ []) : vB c 0 k S X D = dg c (leafT (X.getD 0 ByteArray.empty)) := by
  rw [vB, if_neg (by simpa [List.length_eq_zero_iff] using h0)]
theorem vB_two (c h k : Nat) {S : List Nat} (X D : List ByteArray) (h0 : S ≠ []) {t : Nat} (ht : bl S ((2 * k + 1) * pw h) = t) : vB c (h + 1) k S X D = dg c (nodeT (vB c h (2 * k) (S.take t) (X.take t) D) (vB c h (2 * k + 1) (S.drop t) (X.drop t) (D.drop (tno h (2 * k) (S.take t)).length))) := by
  rw [vB, if_neg (by simpa [List.length_eq_zero_iff] using h0), ht]
theorem vB_size {c : Nat} (hc : c ≤ 32) : ∀ (h k : Nat) (S : List Nat) (X D : List ByteArray), (∀ s ∈ D, s.size = c) → 0 < D.length ∨ S ≠ [] → (vB c h k S X D).size = c := by
  intro h k S X D hD h0
  by_cases hS : S = []
  · subst hS
    rw [vB_nil]
    exact hD _ (getD_mem (by rcases h0 with h0 | h0; exact h0; exact absurd rfl h0))
  · cases h with
    | zero => rw [vB_leaf c k X D hS]; exact dg_size hc _
    | succ h => rw [vB_two c h k X D hS rfl]; exact dg_size hc _
theorem vB_nd (c : Nat) (L : List ByteArray) : ∀ (h k : Nat) (S : List Nat) (X D D' : List ByteArray), Asc S → In h k S → X = S.map (fun i => L.getD i ByteArray.empty) → D = (tno h k S).map (fun b => nd c L b.1 b.2) ++ D' → vB c h k S X D = nd c L h k := by
  intro h
  induction h with
  | zero =>
    intro k S X D D' hp hS hX hD
    cases S with
    | nil => rw [vB_nil, hD, tno_nil]; rfl
    | cons i S =>
      obtain rfl := in_one hS
      rw [vB_leaf c i X D (by simp), hX]; rfl
  | succ h ih =>
    intro k S X D D' hp hS hX hD
    by_cases h0 : S = []
    · subst h0
      rw [vB_nil, hD, tno_nil]; rfl
    · rw [vB_two c h k X D h0 rfl]
      rw [tno_cut hp hS h0, List.map_append, List.append_assoc] at hD
      rw [ih (2 * k) _ _ D _ (asc_take hp _) (in_low hp hS) (by rw [hX, List.map_take]) hD, ih (2 * k + 1) _ _ _ D' (asc_drop hp _) (in_high hp hS) (by rw [hX, List.map_drop]) (by rw [hD]; exact List.drop_left' (by rw [List.length_map])), nd]
theorem getD_dr {α : Type} (d : α) (A : List α) (t j : Nat) : (A.drop t).getD j d = A.getD (t + j) d := by
  rw [List.getD_eq_getElem?_getD, List.getElem?_drop, List.getD_eq_getElem?_getD]
theorem getD_tk {α : Type} (d : α) (A : List α) {t j : Nat} (h : j < t) : (A.take t).getD j d = A.getD j d := by
  rw [List.getD_eq_getElem?_getD, List.getElem?_take, if_pos h, List.getD_eq_getElem?_getD]
def pB (c : Nat) : List (Nat × Nat) → List Nat → List ByteArray → List ByteArray → List ByteArray
  | [], _, _, _ => []
  | m :: M, S, X, D => vB c m.1 m.2 (S.take (bl S ((m.2 + 1) * pw m.1))) (X.take (bl S ((m.2 + 1) * pw m.1))) D :: pB c M (S.drop (bl S ((m.2 + 1) * pw m.1))) (X.drop (bl S ((m.2 + 1) * pw m.1))) (D.drop (tno m.1 m.2 (S.take (bl S ((m.2 + 1) * pw m.1)))).length)
def fB : List (Nat × Nat) → List Nat → List (Nat × Nat)
  | [], _ => []
  | m :: M, S => tno m.1 m.2 (S.take (bl S ((m.2 + 1) * pw m.1))) ++ fB M (S.drop (bl S ((m.2 + 1) * pw m.1)))
theorem pB_len (c : Nat) : ∀ (M : List (Nat × Nat)) (S : List Nat) (X D : List ByteArray), (pB c M S X D).length = M.length
  | [], _, _, _ => rfl
  | m :: M, S, X, D => by rw [pB, List.length_cons, pB_len, List.length_cons]
theorem row_le {q : Nat} : ∀ {M : List (Nat × Nat)} {p : Nat}, Cv.Row q p M → p ≤ q
  | [], _, h => Nat.le_of_eq h
  | m :: M, p, h => by
    have := row_le h.2.2.2
    have h1 := Cv.blk_lt m.1 m.2
    have h2 := h.1
    omega
theorem row_from {q : Nat} : ∀ {M : List (Nat × Nat)} {p : Nat}, Cv.Row q p M → ∀ b ∈ M, p ≤ b.2 * pw b.1 ∧ (b.2 + 1) * pw b.1 ≤ q
  | [], _, _, b, hb => by cases hb
  | m :: M, p, h, b, hb => by
    rcases List.mem_cons.1 hb with rfl | hb
    · exact ⟨Nat.le_of_eq h.1, row_le h.2.2.2⟩
    · have := row_from h.2.2.2 b hb
      have h1 := Cv.blk_lt m.1 m.2
      have h2 := h.1
      exact ⟨by omega, this.2⟩
abbrev Fr (p q : Nat) (S : List Nat) : Prop := ∀ i ∈ S, p ≤ i ∧ i < q
theorem fr_low {p q h k : Nat} {S : List Nat} (hp : Asc S) (hS : Fr p q S) (hk : p = k * pw h) : In h k (S.take (bl S ((k + 1) * pw h))) := fun i hi => ⟨by have := (hS i (mem_take hi)).1; omega, mem_low hp hi⟩
theorem fr_high {p q x : Nat} {S : List Nat} (hp : Asc S) (hS : Fr p q S) : Fr x q (S.drop (bl S x)) := fun i hi => ⟨mem_high hp hi, (hS i (mem_drop hi)).2⟩
theorem flat_eq {f g : Nat × Nat → List (Nat × Nat)} {M : List (Nat × Nat)} (h : ∀ b ∈ M, f b = g b) : M.flatMap f = M.flatMap g := by
  rw [List.flatMap_def, List.flatMap_def, List.map_congr_left h]
theorem fB_flat {q : Nat} : ∀ {M : List (Nat × Nat)} {p : Nat} {S : List Nat}, Cv.Row q p M → Asc S → Fr p q S → fB M S = M.flatMap fun b => tno b.1 b.2 S
  | [], _, _, _, _, _ => rfl
  | m :: M, p, S, h, hp, hS => by
    rw [fB, List.flatMap_cons, fB_flat h.2.2.2 (asc_drop hp _) (fr_high hp hS)]
    have e1 : S.filter (inb m.1 m.2) = S.take (bl S ((m.2 + 1) * pw m.1)) := by
      rw [← (bl_split _ hp).1]
      refine List.filter_congr fun i hi => ?_
      have := hS i hi
      have h1 := h.1
      rw [Bool.eq_iff_iff, inb_iff, decide_eq_true_iff]; omega
    rw [← e1, tno_fil]
    congr 1
    refine flat_eq fun b hb => ?_
    have hb1 := row_from h.2.2.2 b hb
    rw [← tno_fil b.1 b.2 S, ← tno_fil b.1 b.2 (S.drop _)]
    congr 1
    rw [← (bl_split _ hp).2, List.filter_filter]
    refine List.filter_congr fun i hi => ?_
    rw [Bool.eq_iff_iff, Bool.and_eq_true, inb_iff, decide_eq_true_iff]; omega
theorem pB_nd (c : Nat) (L : List ByteArray) {q : Nat} : ∀ (M : List (Nat × Nat)) (p : Nat) (S : List Nat) (X D D' : List ByteArray), Cv.Row q p M → Asc S → Fr p q S → X = S.map (fun i => L.getD i ByteArray.empty) → D = (fB M S).map (fun b => nd c L b.1 b.2) ++ D' → pB c M S X D = M.map fun b => nd c L b.1 b.2
  | [], _, _, _, _, _, _, _, _, _, _ => rfl
  | m :: M, p, S, X, D, D', h, hp, hS, hX, hD => by
    rw [fB, List.map_append, List.append_assoc] at hD
    rw [pB, List.map_cons, vB_nd c L m.1 m.2 _ _ D _ (asc_take hp _) (fr_low hp hS h.1) (by rw [hX, List.map_take]) hD]
    rw [pB_nd c L M _ _ _ _ D' h.2.2.2 (asc_drop hp _) (fr_high hp hS) (by rw [hX, List.map_drop]) (by rw [hD]; exact List.drop_left' (by rw [List.length_map]))]
theorem pB_size {c : Nat} (hc : c ≤ 32) : ∀ (M : List (Nat × Nat)) (S : List Nat) (X D : List ByteArray), (∀ s ∈ D, s.size = c) → (fB M S).length ≤ D.length → ∀ s ∈ pB c M S X D, s.size = c
  | [], _, _, _, _, _, s, hs => by cases hs
  | m :: M, S, X, D, hD, hl, s, hs => by
    rw [fB, List.length_append] at hl
    rw [pB] at hs
    rcases List.mem_cons.1 hs with rfl | hs
    · refine vB_size hc _ _ _ _ _ hD ?_
      by_cases h0 : S.take (bl S ((m.2 + 1) * pw m.1)) = []
      · rw [h0, tno_nil] at hl
        exact .inl (by rw [List.length_singleton] at hl; omega)
      · exact .inr h0
    · exact pB_size hc M _ _ _ (fun s hs => hD s ((List.drop_sublist _ _).subset hs)) (by rw [List.length_drop]; omega) s hs
theorem chain_asc : ∀ {S : List Nat} {x n : Nat}, Cv.Chain x S n → Asc S
  | [], _, _, _ => List.Pairwise.nil
  | _ :: _, _, _, h => List.pairwise_cons.2 ⟨fun j hj => (Cv.chain_mem h.2 j hj).1, chain_asc h.2⟩
end Go.Proofs.YtipcenbndhnnhaaGreatDoor
namespace Go.Proofs.YtipcenbndhnnhaaGreatDoor
open Go.RowKit
open Cv (RdC zl cU)
attribute [local go_sem ↓] Go.wp_at_zero Go.wp_at_succ
theorem keep_row {w w' : World} {B T s n : Nat} {x : Value} {cs : List Value} (h : w.ownsRow B T s x n cs) (hk : ∀ g, x.ownBlock = some g → B ≤ g → w'.heap[g]? = w.heap[g]?) : w'.ownsRow B T s x n cs := by
  obtain ⟨h1, h2⟩ := h
  refine ⟨h1, ?_⟩
  rcases h2 with h2 | ⟨g, cap, cur, rfl, hg, hh, h3⟩
  · exact .inl h2
  · exact .inr ⟨g, cap, cur, rfl, hg, (hk g rfl hg).trans hh, h3⟩
structure ChT (S : Nat → Prop) (w w' : World) : Prop where
  os : w'.os = w.os
  tape : w'.tape = w.tape
  output : w'.output = w.output
  size : w'.heap.size = w.heap.size
  block : ∀ b, ¬ S b → w'.heap[b]? = w.heap[b]?
theorem ChT.refl (S : Nat → Prop) (w : World) : ChT S w w := ⟨rfl, rfl, rfl, rfl, fun _ _ => rfl⟩
theorem ChT.set {S : Nat → Prop} {w w' : World} (h : ChT S w w') (b i : Nat) (v : Value) (hb : S b) : ChT S w (w'.setCell ⟨b, i, none⟩ v) := by
  have h0 := (Below.refl 0 w').setCell (p := ⟨b, i, none⟩) (Nat.zero_le _) v
  refine ⟨h0.os.trans h.os, h0.tape.trans h.tape, h0.output.trans h.output, by rw [← h.size]; simp, fun c hc => ?_⟩
  rw [← h.block c hc]
  exact Below.heap_setCell _ _ _ _ (by show c ≠ b; rintro rfl; exact hc hb)
theorem ChT.drew {S : Nat → Prop} {w w' : World} (h : ChT S w w') : ChT S w w'.drew := ⟨h.os, h.tape, h.output, h.size, h.block⟩
def Six (w : World) (s : Nat) (a b c d e f : Value) : Prop := w.heap[s]? = some (.cells #[a, b, c, d, e, f] 38 (0, 0))
section
variable {w W : World} {s : Nat} {a b c d e f : Value}
theorem Six.cells (h : Six w s a b c d e f) : w.cell? ⟨s, 0, none⟩ = some a ∧ w.cell? ⟨s, 1, none⟩ = some b ∧ w.cell? ⟨s, 2, none⟩ = some c ∧ w.cell? ⟨s, 3, none⟩ = some d ∧ w.cell? ⟨s, 4, none⟩ = some e ∧ w.cell? ⟨s, 5, none⟩ = some f :=
  ⟨by rw [cell_of_row w s 0 _ _ (0, 0) h]; rfl, by rw [cell_of_row w s 1 _ _ (0, 0) h]; rfl, by rw [cell_of_row w s 2 _ _ (0, 0) h]; rfl, by rw [cell_of_row w s 3 _ _ (0, 0) h]; rfl, by rw [cell_of_row w s 4 _ _ (0, 0) h]; rfl, by rw [cell_of_row w s 5 _ _ (0, 0) h]; rfl⟩
theorem Six.fz (h : Six w s a b c d e f) (j : Nat) : w.frozen? ⟨s, j, none⟩ = false := frozen_of_row w s j _ _ h
theorem Six.lt (h : Six w s a b c d e f) : s < w.heap.size := (Array.getElem?_eq_some_iff.1 h).1
theorem Six.same (h : Six w s a b c d e f) (hb : W.heap[s]? = w.heap[s]?) : Six W s a b c d e f := hb.trans h
theorem Six.next (h : Six w s a b c d e f) (hb : Below w.heap.size w W) : Six W s a b c d e f := h.same (hb.block s h.lt)
theorem six_new (w : World) (a b c d e f : Value) : Six (w.alloc (.cells #[a, b, c, d, e, f] 38)) w.heap.size a b c d e f := heap_alloc_new w _
def put6 (w : World) (s : Nat) (a b c d e f : Value) : World := (((((w.setCell ⟨s, 0, none⟩ a).setCell ⟨s, 1, none⟩ b).setCell ⟨s, 2, none⟩ c).setCell ⟨s, 3, none⟩ d).setCell ⟨s, 4, none⟩ e).setCell ⟨s, 5, none⟩ f
theorem Six.put (h : Six w s a b c d e f) (a' b' c' d' e' f' : Value) : Six (put6 w s a' b' c' d' e' f') s a' b' c' d' e' f' := by
  have h0 := heap_setCell_same w s 0 _ _ a' h
  have h1 := heap_setCell_same _ s 1 _ _ b' h0
  have h2 := heap_setCell_same _ s 2 _ _ c' h1
  have h3 := heap_setCell_same _ s 3 _ _ d' h2
  have h4 := heap_setCell_same _ s 4 _ _ e' h3
  exact heap_setCell_same _ s 5 _ _ f' h4
theorem put6_ch (w : World) (s : Nat) (a b c d e f : Value) : ChT (fun x => x = s) w (put6 w s a b c d e f) :=
  ((((((ChT.refl (fun x => x = s) w).set s 0 a rfl).set s 1 b rfl).set s 2 c rfl).set s 3 d rfl).set s 4 e rfl).set s 5 f rfl
end
theorem ChT.below {S : Nat → Prop} {w w' : World} (h : ChT S w w') {B : Nat} (hS : ∀ b, S b → B ≤ b) : Below B w w' :=
  ⟨h.os, h.tape, h.output, Nat.le_of_eq h.size.symm, fun b hb => h.block b fun hs => by have := hS b hs; omega⟩
abbrev noP : Value := .agg #[.int .i64 0, .int .i64 0, .int .u64 0, .int .u64 0, .slice none 0 0, .slice none 0 0]
structure RdU (w : World) (ao : Option Addr) (b off len : Nat) (l : List Nat) : Prop where
  hl : l.length = len
  ptr : 0 < len → ao = some ⟨b, off, none⟩
  rng : w.rangeAt b off (cU l)
theorem RdU.at {w : World} {ao : Option Addr} {b off len : Nat} {l : List Nat} (h : RdU w ao b off len l) {j : Nat} (hj : j < len) : w.cell? ⟨b, off + j, none⟩ = some (.int .u64 (l.getD j 0 : Nat)) :=
  h.rng j _ (by have := h.hl; simp [List.getElem?_eq_getElem (show j < l.length by omega), List.getD_eq_getElem?_getD])
theorem RdU.lt {w : World} {ao : Option Addr} {b off len : Nat} {l : List Nat} (h : RdU w ao b off len l) (h0 : 0 < len) : b < w.heap.size := World.block_lt_of_cell? w _ (h.at h0)
theorem RdU.next {w W : World} {ao : Option Addr} {b off len : Nat} {l : List Nat} (h : RdU w ao b off len l) (hb : Below w.heap.size w W) : RdU W ao b off len l := by
  refine ⟨h.hl, h.ptr, fun j v hv => ?_⟩
  have := h.rng j v hv
  exact (hb.cell (World.block_lt_of_cell? w _ this)).trans this
theorem rdu_rdc {w : World} {ao : Option Addr} {b off len cap : Nat} {l : List Nat} (h : RdU w ao b off len l) (hn : ao = none → cap = 0) : RdC w (.slice ao len cap) len (cU l) := by
  refine ⟨ao, cap, rfl, fun e => ⟨?_, hn e⟩, fun ad ha j c hj => ?_⟩
  · apply Classical.byContradiction
    intro h0
    have := h.ptr (by omega)
    rw [e] at this
    cases this
  · have hj' : j < len := by have := (List.getElem?_eq_some_iff.1 hj).1; rw [List.length_map, h.hl] at this; exact this
    have := h.ptr (by omega)
    rw [ha] at this
    cases this
    rw [Addr.add_mid]
    exact h.rng j c hj
theorem ownU_form {w : World} {B : Nat} {v : Value} {l : List Nat} (h : Cv.Own w B v l) (h0 : 0 < l.length) : ∃ g cap, v = .slice (some ⟨g, 0, none⟩) l.length cap ∧ B ≤ g ∧ l.length ≤ cap ∧ cap ≤ maxLen ∧ g < w.heap.size := by
  obtain ⟨h1, h2⟩ := h
  rcases h2 with ⟨_, h2⟩ | ⟨g, cap, cur, hv, hg, hh, hc, hm, _⟩
  · omega
  · exact ⟨g, cap, hv, hg, hc, hm, (Array.getElem?_eq_some_iff.1 hh).1⟩
theorem own_rdu {w : World} {B g n c : Nat} {l l' : List Nat} (o : Cv.Own w B (.slice (some ⟨g, 0, none⟩) n c) (l ++ l')) : RdU w (some ⟨g, 0, none⟩) g 0 l.length l :=
  ⟨rfl, fun _ => rfl, fun t v hv => by
    have := o.cells (g := g) rfl t v (by rw [show cU (l ++ l') = cU l ++ cU l' from List.map_append, List.getElem?_append_left (by have := (List.getElem?_eq_some_iff.1 hv).1; simpa using this)]; exact hv)
    rwa [Addr.add_mid] at this⟩
theorem RdU.same {w W : World} {ao : Option Addr} {b off len : Nat} {l : List Nat} (h : RdU w ao b off len l) (hb : W.heap[b]? = w.heap[b]?) : RdU W ao b off len l :=
  ⟨h.hl, h.ptr, fun j v hv => (World.cell?_of_block hb).trans (h.rng j v hv)⟩
theorem RdS.same {w W : World} {ao : Option Addr} {b off len : Nat} {l : List ByteArray} (h : RdS w ao b off len l) (hb : W.heap[b]? = w.heap[b]?) : RdS W ao b off len l :=
  ⟨h.hl, h.ptr, fun j v hv => (World.cell?_of_block hb).trans (h.rng j v hv), h.sz⟩
theorem rds_drop {w : World} {da : Option Addr} {db dO dc H : Nat} {D : List ByteArray} (h : RdS w da db dO D.length D) (hc : D.length ≤ dc) (hH : H ≤ D.length) (hn : da = none → dc = 0) {ax : Option Addr} (hx : (if dc = H then da else Option.map (fun x => x.add H) da) = ax) : RdS w ax db (dO + H) (D.drop H).length (D.drop H) ∧ (ax = none → dc - H = 0) := by
  refine ⟨⟨rfl, fun h0 => ?_, fun j v hj => ?_, fun s hs => h.sz s (List.mem_of_mem_drop hs)⟩, fun e => ?_⟩
  · rw [List.length_drop] at h0
    rw [if_neg (by omega), h.ptr (by omega)] at hx
    rw [← hx]
    simp [Addr.add_mid]
  · rw [List.map_drop, List.getElem?_drop] at hj
    have := h.rng (H + j) v hj
    rwa [← Nat.add_assoc] at this
  · rw [e] at hx
    split at hx
    · omega
    · have : da = none := by simpa using hx
      have := hn this
      omega
theorem rds_take {w : World} {da : Option Addr} {db dO : Nat} {D : List ByteArray} (h : RdS w da db dO D.length D) {H : Nat} (hH : H ≤ D.length) : RdS w da db dO (D.take H).length (D.take H) := by
  refine ⟨rfl, fun h0 => h.ptr ?_, fun j v hj => ?_, fun s hs => h.sz s (List.mem_of_mem_take hs)⟩
  · rw [List.length_take] at h0; omega
  · refine h.rng j v ?_
    rw [List.map_take, List.getElem?_take] at hj
    split at hj
    · exact hj
    · cases hj
structure Bx (q : Nat) (w w' : World) : Prop where
  os : w'.os = w.os
  tape : w'.tape = w.tape
  output : w'.output = w.output
  size : w.heap.size ≤ w'.heap.size
  block : ∀ b, b < w.heap.size → b ≠ q → w'.heap[b]? = w.heap[b]?
section
variable {q : Nat} {w w1 w2 : World}
theorem Bx.refl (q : Nat) (w : World) : Bx q w w := ⟨rfl, rfl, rfl, Nat.le_refl _, fun _ _ _ => rfl⟩
theorem Bx.low (h : Bx q w w1) (hb : Below w.heap.size w1 w2) : Bx q w w2 := ⟨hb.os.trans h.os, hb.tape.trans h.tape, hb.output.trans h.output, Nat.le_trans h.size hb.size, fun b h1 h2 => (hb.block b h1).trans (h.block b h1 h2)⟩
theorem Bx.next (h : Bx q w w1) (hb : Below w1.heap.size w1 w2) : Bx q w w2 := ⟨hb.os.trans h.os, hb.tape.trans h.tape, hb.output.trans h.output, Nat.le_trans h.size hb.size, fun b h1 h2 => (hb.block b (Nat.lt_of_lt_of_le h1 h.size)).trans (h.block b h1 h2)⟩
theorem Bx.put (h : Bx q w w1) (hc : ChT (fun b => b = q) w1 w2) : Bx q w w2 := ⟨hc.os.trans h.os, hc.tape.trans h.tape, hc.output.trans h.output, by rw [hc.size]; exact h.size, fun b h1 h2 => (hc.block b h2).trans (h.block b h1 h2)⟩
theorem Bx.grown (h : Bx q w w1) {ob : Option Nat} (hg : w1.grownBy w2 ob) (ho : ∀ k, ob = some k → w.heap.size ≤ k) : Bx q w w2 :=
  ⟨hg.os.trans h.os, hg.tape.trans h.tape, hg.output.trans h.output, Nat.le_trans h.size hg.size, fun b h1 h2 => (hg.block b (Nat.lt_of_lt_of_le h1 h.size) (fun e => by have := ho b e.symm; omega)).trans (h.block b h1 h2)⟩
theorem Bx.trans {w0 : World} (h0 : Bx q w0 w) (h : Bx q w w1) : Bx q w0 w1 := ⟨h.os.trans h0.os, h.tape.trans h0.tape, h.output.trans h0.output, Nat.le_trans h0.size h.size, fun b h1 h2 => (h.block b (Nat.lt_of_lt_of_le h1 h0.size) h2).trans (h0.block b h1 h2)⟩
theorem Bx.below (h : Bx q w w1) {B : Nat} (hB : B ≤ q) (hw : B ≤ w.heap.size) : Below B w w1 := ⟨h.os, h.tape, h.output, h.size, fun b hb => h.block b (by omega) (by omega)⟩
end
end Go.Proofs.YtipcenbndhnnhaaGreatDoor
namespace Go.Proofs.YtipcenbndhnnhaaGreatDoor
open Go.RowKit
attribute [local go_sem ↓] Go.wp_at_zero Go.wp_at_succ
structure Rdr (w : World) (p : Nat) (s : ByteArray) (e : Nat) : Prop where
  c0 : w.cell? ⟨p, 0, none⟩ = some (.string s)
  c1 : w.cell? ⟨p, 1, none⟩ = some (.int .i64 (e : Int))
  f0 : w.frozen? ⟨p, 0, none⟩ = false
  f1 : w.frozen? ⟨p, 1, none⟩ = false
structure Ch (p : Nat) (w w' : World) : Prop where
  below : Below p w w'
  block : ∀ q, q < w.heap.size → q ≠ p → w'.heap[q]? = w.heap[q]?
theorem Ch.refl (p : Nat) (w : World) : Ch p w w := ⟨Below.refl _ _, fun _ _ _ => rfl⟩
theorem Ch.drewN {p : Nat} {w w' : World} (h : Ch p w w') (n : Nat) : Ch p w (w'.drewN n) := ⟨below_drewN h.below n, h.block⟩
theorem Ch.set {p : Nat} {w w' : World} (h : Ch p w w') (i : Nat) (v : Value) : Ch p w (w'.setCell ⟨p, i, none⟩ v) := by
  refine ⟨h.below.setCell (p := ⟨p, i, none⟩) (Nat.le_refl _) v, fun q hq hne => ?_⟩
  rw [← h.block q hq hne]
  exact Below.heap_setCell _ _ _ _ hne
theorem Rdr.lt {w : World} {p e : Nat} {s : ByteArray} (h : Rdr w p s e) : p < w.heap.size := World.block_lt_of_cell? _ _ h.c0
theorem Rdr.next {w w' : World} {p B e : Nat} {s : ByteArray} (h : Rdr w p s e) (hb : Below B w w') (hp : p < B) : Rdr w' p s e :=
  ⟨(hb.cell (p := ⟨p, 0, none⟩) hp).trans h.c0, (hb.cell (p := ⟨p, 1, none⟩) hp).trans h.c1, (hb.frozen (p := ⟨p, 0, none⟩) hp).trans h.f0, (hb.frozen (p := ⟨p, 1, none⟩) hp).trans h.f1⟩
theorem Rdr.drewN {w : World} {p e : Nat} {s : ByteArray} (h : Rdr w p s e) (n : Nat) : Rdr (w.drewN n) p s e := h.next (below_drewN (Below.refl (p + 1) w) n) (by omega)
theorem Rdr.set0 {w : World} {p e : Nat} {s : ByteArray} (h : Rdr w p s e) (t : ByteArray) : Rdr (w.setCell ⟨p, 0, none⟩ (.string t)) p t e :=
  ⟨World.cell?_setCell_same _ _ _ h.c0, (World.cell?_setCell_other _ _ _ _ (by simp)).trans h.c1, (World.frozen?_setCell _ _ _ _).trans h.f0, (World.frozen?_setCell _ _ _ _).trans h.f1⟩
theorem Rdr.set1 {w : World} {p e : Nat} {s : ByteArray} (h : Rdr w p s e) (e' : Nat) : Rdr (w.setCell ⟨p, 1, none⟩ (.int .i64 (e' : Int))) p s e' :=
  ⟨(World.cell?_setCell_other _ _ _ _ (by simp)).trans h.c0, World.cell?_setCell_same _ _ _ h.c1, (World.frozen?_setCell _ _ _ _).trans h.f0, (World.frozen?_setCell _ _ _ _).trans h.f1⟩
theorem rdr_new (w : World) (s : ByteArray) (t : Nat) : Rdr (w.alloc (.cells #[.string s, .int .i64 0] t)) w.heap.size s 0 := by
  refine ⟨?_, ?_, ?_, ?_⟩ <;> simp
theorem new_anyC (w : World) (s : ByteArray) :
    Calls Tryz.prog 114 #[.string s] w fun e w' => e = .returned (.pointer (some ⟨w.heap.size, 0, none⟩)) ∧ w' = w.alloc (.cells #[.string s, .int .i64 0] 190) := by
  go_enter Tryz.func114, Tryz.ntmps114
  go_wp2
  go_ret
  exact ⟨rfl, rfl⟩
theorem left_any (w : World) (p e : Nat) (s : ByteArray) (hr : Rdr w p s e) :
    Calls Tryz.prog 174 #[.pointer (some ⟨p, 0, none⟩)] w fun x w' => x = .returned (.int .i64 (s.size : Int)) ∧ w' = w := by
  have c0 := hr.c0
  go_enter Tryz.func174, Tryz.ntmps174
  go_wp2
  go_ret
  exact ⟨rfl, rfl⟩
theorem fail_any (w : World) (p e : Nat) (s : ByteArray) (hr : Rdr w p s 0) :
    Calls Tryz.prog 186 #[.pointer (some ⟨p, 0, none⟩), .int .i64 (e : Int)] w fun x w' => x = .returned (.int .i64 (e : Int)) ∧ Rdr w' p ByteArray.empty e ∧ Ch p w w' := by
  have c0 := hr.c0
  have c1 := hr.c1
  have f0 := hr.f0
  have f1 := hr.f1
  have R1 : Hid (Rdr ((w.setCell ⟨p, 0, none⟩ (.string ByteArray.empty)).setCell ⟨p, 1, none⟩ (.int .i64 (e : Int))) p ByteArray.empty e) := (hr.set0 _).set1 e
  clear hr
  go_enter Tryz.func186, Tryz.ntmps186
  go_wp2
  go_ret
  exact ⟨rfl, R1.out, ((Ch.refl p w).set 0 _).set 1 _⟩
end Go.Proofs.YtipcenbndhnnhaaGreatDoor
