/-
  Kin turned: the texts that are hashed for the greater commitment, and where two rows of them part. Own work.
-/
import Derived.Test.YtdkcliblbaldhaaDoorJWalkG
namespace Go.Proofs.YtdkcliblbaldhaaDoor
open Pl (pw pw_succ pw_pos pw_zero pw_add pw_le)
open Cv (dnL cov cov_zero Row row_app cov_row)
/-- The texts of the nodes above the proof's blocks. -/
def abT (c : Nat) (L : List (Nat × Nat)) (D : List ByteArray) : Nat → Nat → List ByteArray
  | 0, _ => []
  | h + 1, k => if (h + 1, k) ∈ L then [] else nodeT (dgK c L D h (2 * k)) (dgK c L D h (2 * k + 1)) :: (abT c L D h (2 * k) ++ abT c L D h (2 * k + 1))
theorem abT_in {c : Nat} {L : List (Nat × Nat)} {D : List ByteArray} {h k : Nat} (hm : (h, k) ∈ L) : abT c L D h k = [] := by
  cases h with
  | zero => rfl
  | succ h => rw [abT, if_pos hm]
theorem abT_node {c : Nat} {L : List (Nat × Nat)} {D : List ByteArray} {h k : Nat} (hm : (h + 1, k) ∉ L) : abT c L D (h + 1) k = nodeT (dgK c L D h (2 * k)) (dgK c L D h (2 * k + 1)) :: (abT c L D h (2 * k) ++ abT c L D h (2 * k + 1)) := by rw [abT, if_neg hm]
theorem abT_len (c : Nat) (L : List (Nat × Nat)) (D D' : List ByteArray) : ∀ h k, (abT c L D h k).length = (abT c L D' h k).length
  | 0, _ => rfl
  | h + 1, k => by
    rw [abT, abT]
    split
    · rfl
    · rw [List.length_cons, List.length_cons, List.length_append, List.length_append, abT_len c L D D' h (2 * k), abT_len c L D D' h (2 * k + 1)]
theorem abT_le (c : Nat) (L : List (Nat × Nat)) (D : List ByteArray) : ∀ h k, (abT c L D h k).length + 1 ≤ pw h
  | 0, _ => Nat.le_of_eq rfl
  | h + 1, k => by
    have := pw_succ h
    have := pw_pos h
    have h1 := abT_le c L D h (2 * k)
    have h2 := abT_le c L D h (2 * k + 1)
    rw [abT]
    split
    · rw [List.length_nil]; omega
    · rw [List.length_cons, List.length_append]; omega
theorem strB1 : (strB [1]).size = 1 := by decide
theorem abT_size {c : Nat} (hc : c ≤ 32) {L : List (Nat × Nat)} {D : List ByteArray} (hD : ∀ d ∈ D, d.size ≤ 32) : ∀ h k, ∀ s ∈ abT c L D h k, s.size ≤ 1000
  | 0, _, s, hs => by cases hs
  | h + 1, k, s, hs => by
    rw [abT] at hs
    split at hs
    · cases hs
    · rcases List.mem_cons.1 hs with rfl | hs
      · have h1 := dgK_size hc hD (L := L) h (2 * k)
        have h2 := dgK_size hc hD (L := L) h (2 * k + 1)
        rw [nodeT, ByteArray.size_append, ByteArray.size_append, strB1]
        omega
      · rcases List.mem_append.1 hs with hs | hs
        · exact abT_size hc hD h (2 * k) s hs
        · exact abT_size hc hD h (2 * k + 1) s hs
/-- Those below all mountains. -/
def flT (c : Nat) (L : List (Nat × Nat)) (D : List ByteArray) (M : List (Nat × Nat)) : List ByteArray := M.flatMap fun b => abT c L D b.1 b.2
theorem flT_app (c : Nat) (L : List (Nat × Nat)) (D : List ByteArray) (M N : List (Nat × Nat)) : flT c L D (M ++ N) = flT c L D M ++ flT c L D N := List.flatMap_append
theorem flT_len (c : Nat) (L : List (Nat × Nat)) (D D' : List ByteArray) : ∀ M, (flT c L D M).length = (flT c L D' M).length
  | [] => rfl
  | b :: M => by
    rw [flT, flT, List.flatMap_cons, List.flatMap_cons, List.length_append, List.length_append, abT_len c L D D']
    have := flT_len c L D D' M
    rw [flT, flT] at this
    rw [this]
theorem flT_le (c : Nat) (L : List (Nat × Nat)) (D : List ByteArray) {q : Nat} : ∀ {M : List (Nat × Nat)} {p : Nat}, Row q p M → (flT c L D M).length + p ≤ q
  | [], _, h => by have h : _ = _ := h; simp [flT]; omega
  | b :: M, p, h => by
    have h1 := flT_le c L D h.2.2.2
    have h2 := abT_le c L D b.1 b.2
    have h3 := h.1
    have h4 : (b.2 + 1) * pw b.1 = b.2 * pw b.1 + pw b.1 := by rw [Nat.add_mul, Nat.one_mul]
    rw [flT, List.flatMap_cons, List.length_append]
    rw [flT] at h1
    omega
theorem flT_take (c : Nat) (L : List (Nat × Nat)) (D : List ByteArray) (M : List (Nat × Nat)) {j : Nat} (hj : j < M.length) : flT c L D (M.take (j + 1)) = flT c L D (M.take j) ++ abT c L D (M.getD j (0, 0)).1 (M.getD j (0, 0)).2 := by
  rw [List.take_succ_eq_append_getElem hj, flT_app, List.getD_eq_getElem?_getD, List.getElem?_eq_getElem hj]
  congr 1
  simp [flT]
theorem flT_takele (c : Nat) (L : List (Nat × Nat)) (D : List ByteArray) (M : List (Nat × Nat)) (j : Nat) : (flT c L D (M.take j)).length ≤ (flT c L D M).length := by
  have := flT_app c L D (M.take j) (M.drop j)
  rw [List.take_append_drop] at this
  rw [this, List.length_append]; omega
theorem flT_size {c : Nat} (hc : c ≤ 32) {L : List (Nat × Nat)} {D : List ByteArray} (hD : ∀ d ∈ D, d.size ≤ 32) (M : List (Nat × Nat)) : ∀ s ∈ flT c L D M, s.size ≤ 1000 := fun s hs => by
  obtain ⟨b, _, hb⟩ := List.mem_flatMap.1 hs
  exact abT_size hc hD b.1 b.2 s hb
/-- The bags' texts. -/
def bgF (c : Nat) : List ByteArray → List ByteArray
  | [] => []
  | [_] => []
  | p :: q :: r => bagT p (bagL c (q :: r)) :: bgF c (q :: r)
theorem bgF_len (c : Nat) : ∀ P, (bgF c P).length = P.length - 1
  | [] => rfl
  | [_] => rfl
  | p :: q :: r => by rw [bgF, List.length_cons, bgF_len c (q :: r), List.length_cons, List.length_cons, List.length_cons]; omega
theorem bgF_take (c : Nat) : ∀ (P : List ByteArray) (j : Nat), j + 1 < P.length → (bgF c P).take (j + 1) = (bgF c P).take j ++ [bagT (P.getD j ByteArray.empty) (bagL c (P.drop (j + 1)))]
  | [], _, h => by simp at h
  | [_], _, h => by simp at h
  | p :: q :: r, 0, _ => rfl
  | p :: q :: r, j + 1, h => by
    have := bgF_take c (q :: r) j (by simp at h ⊢; omega)
    rw [bgF, List.take_succ_cons, this]
    rfl
theorem bgF_size {c : Nat} (hc : c ≤ 32) : ∀ (P : List ByteArray), (∀ s ∈ P, s.size ≤ 32) → ∀ s ∈ bgF c P, s.size ≤ 1000
  | [], _, s, hs => by cases hs
  | [_], _, s, hs => by cases hs
  | p :: q :: r, hP, s, hs => by
    rw [bgF] at hs
    rcases List.mem_cons.1 hs with rfl | hs
    · have h1 := hP p List.mem_cons_self
      have h2 := bagL_size hc (Nat.le_refl 32) (q :: r) (fun s h => hP s (List.mem_cons_of_mem _ h))
      rw [bagT, ByteArray.size_append, ByteArray.size_append, show (strB [2]).size = 1 by decide]
      omega
    · exact bgF_size hc (q :: r) (fun s h => hP s (List.mem_cons_of_mem _ h)) s hs
/-- All of them. -/
def txt (c : Nat) (L : List (Nat × Nat)) (n : Nat) (D : List ByteArray) : List ByteArray := (rootT n (bagL c (dgF (dgK c L D) (cov 0 n))) :: bgF c (dgF (dgK c L D) (cov 0 n))) ++ flT c L D (cov 0 n)
/-- Two rows of texts part at one place, and one digest is that of both. -/
def Ptd (c : Nat) (X Y : List ByteArray) : Prop := ∃ j, j < X.length ∧ X.getD j ByteArray.empty ≠ Y.getD j ByteArray.empty ∧ dg c (X.getD j ByteArray.empty) = dg c (Y.getD j ByteArray.empty)
theorem cl_here {c : Nat} {x y : ByteArray} {X Y : List ByteArray} (hn : x ≠ y) (hd : dg c x = dg c y) : Ptd c (x :: X) (y :: Y) := ⟨0, by simp, hn, hd⟩
theorem cl_cons {c : Nat} {x y : ByteArray} {X Y : List ByteArray} (h : Ptd c X Y) : Ptd c (x :: X) (y :: Y) := by
  obtain ⟨j, h1, h2, h3⟩ := h
  refine ⟨j + 1, by rw [List.length_cons]; omega, ?_, ?_⟩ <;> rw [List.getD_cons_succ, List.getD_cons_succ] <;> assumption
theorem cl_left {c : Nat} {X Y X' Y' : List ByteArray} (hl : X.length = Y.length) (h : Ptd c X Y) : Ptd c (X ++ X') (Y ++ Y') := by
  obtain ⟨j, h1, h2, h3⟩ := h
  have e : ∀ (Z W : List ByteArray), j < Z.length → (Z ++ W).getD j ByteArray.empty = Z.getD j ByteArray.empty := fun Z W hj => by
    rw [List.getD_eq_getElem?_getD, List.getD_eq_getElem?_getD, List.getElem?_append_left hj]
  refine ⟨j, by rw [List.length_append]; omega, ?_, ?_⟩ <;> rw [e _ _ h1, e _ _ (by omega)] <;> assumption
theorem cl_right {c : Nat} {X Y X' Y' : List ByteArray} (hl : X.length = Y.length) (h : Ptd c X' Y') : Ptd c (X ++ X') (Y ++ Y') := by
  obtain ⟨j, h1, h2, h3⟩ := h
  have e : ∀ (Z W : List ByteArray), (Z ++ W).getD (Z.length + j) ByteArray.empty = W.getD j ByteArray.empty := fun Z W => by
    rw [List.getD_eq_getElem?_getD, List.getD_eq_getElem?_getD, List.getElem?_append_right (by omega), show Z.length + j - Z.length = j by omega]
  have e2 := e Y Y'
  rw [← hl] at e2
  refine ⟨X.length + j, by rw [List.length_append]; omega, ?_, ?_⟩ <;> rw [e, e2] <;> assumption
theorem ba_app {a b x y : ByteArray} (hs : a.size = b.size) (h : a ++ x = b ++ y) : a = b ∧ x = y := by
  have h1 := congrArg (fun z : ByteArray => z.data.toList) h
  simp only [ByteArray.data_append, Array.toList_append] at h1
  have hl : a.data.toList.length = b.data.toList.length := by simpa using hs
  obtain ⟨e1, e2⟩ := List.append_inj h1 hl
  exact ⟨ByteArray.ext (Array.toList_inj.1 e1), ByteArray.ext (Array.toList_inj.1 e2)⟩
theorem nodeT_inj {a b x y : ByteArray} (hs : a.size = b.size) (h : nodeT a x = nodeT b y) : a = b ∧ x = y := by
  obtain ⟨h1, h2⟩ := ba_app (by rw [ByteArray.size_append, ByteArray.size_append, hs]) h
  exact ⟨(ba_app rfl h1).2, h2⟩
theorem bagT_inj {a b x y : ByteArray} (hs : a.size = b.size) (h : bagT a x = bagT b y) : a = b ∧ x = y := by
  obtain ⟨h1, h2⟩ := ba_app (by rw [ByteArray.size_append, ByteArray.size_append, hs]) h
  exact ⟨(ba_app rfl h1).2, h2⟩
/-- One block lies in another. -/
def Ins (b m : Nat × Nat) : Prop := m.2 * pw m.1 ≤ b.2 * pw b.1 ∧ (b.2 + 1) * pw b.1 ≤ (m.2 + 1) * pw m.1
theorem row_meet {q : Nat} : ∀ {L : List (Nat × Nat)} {p : Nat}, Row q p L → ∀ b ∈ L, ∀ m ∈ L, Ins b m → b = m
  | [], _, _, b, hb, _, _, _ => by cases hb
  | c :: L, p, h, b, hb, m, hm, hi => by
    have hf := row_from h.2.2.2
    obtain ⟨i1, i2⟩ := hi
    have hbl := Cv.blk_lt b.1 b.2
    have hml := Cv.blk_lt m.1 m.2
    rcases List.mem_cons.1 hb with h1 | h1
    · rcases List.mem_cons.1 hm with h2 | h2
      · rw [h1, h2]
      · have := hf m h2
        rw [h1] at i1 i2 hbl
        omega
    · rcases List.mem_cons.1 hm with h2 | h2
      · have := hf b h1
        rw [h2] at i1 i2 hml
        omega
      · exact row_meet h.2.2.2 b h1 m h2 ⟨i1, i2⟩
theorem blk_eq (h k : Nat) : (k + 1) * pw h = k * pw h + pw h := by rw [Nat.add_mul, Nat.one_mul]
theorem pw_inj_le {g h : Nat} (hp : pw g ≤ pw h) : g ≤ h := by
  apply Classical.byContradiction
  intro hn
  have h1 : pw (h + 1) ≤ pw g := pw_le (by omega)
  have := pw_succ h
  have := pw_pos h
  omega
/-- A block at a boundary of greater ones: on this side or on that. -/
theorem side {g j h e : Nat} (hg : g ≤ h) : (j + 1) * pw g ≤ e * pw h ∨ e * pw h ≤ j * pw g := by
  have hc := pw_cut hg
  rcases Nat.lt_or_ge j (e * pw (h - g)) with hj | hj
  · left
    rw [hc, ← Nat.mul_assoc]
    exact Nat.mul_le_mul_right _ hj
  · right
    rw [hc, ← Nat.mul_assoc]
    exact Nat.mul_le_mul_right _ hj
theorem ins_zero {b : Nat × Nat} {k : Nat} (h : Ins b (0, k)) : b = (0, k) := by
  obtain ⟨g, j⟩ := b
  obtain ⟨h1, h2⟩ := h
  dsimp only at h1 h2
  have hb := blk_eq g j
  have hp := pw_pos g
  rw [pw_zero, Nat.mul_one] at h1
  rw [pw_zero, Nat.mul_one] at h2
  have hg : g ≤ 0 := pw_inj_le (by rw [pw_zero]; omega)
  obtain rfl : g = 0 := by omega
  rw [pw_zero] at h1 h2
  obtain rfl : j = k := by omega
  rfl
theorem ins_half {b : Nat × Nat} {h k : Nat} (hn : b ≠ (h + 1, k)) (hi : Ins b (h + 1, k)) : Ins b (h, 2 * k) ∨ Ins b (h, 2 * k + 1) := by
  obtain ⟨g, j⟩ := b
  obtain ⟨h1, h2⟩ := hi
  dsimp only at h1 h2
  have hb := blk_eq g j
  have hk := blk_eq (h + 1) k
  have hg : g ≤ h + 1 := pw_inj_le (by omega)
  have e1 : k * pw (h + 1) = 2 * k * pw h := Cv.mul_half k h
  have e2 : (k + 1) * pw (h + 1) = (2 * k + 1 + 1) * pw h := by rw [Cv.mul_half]; congr 1
  by_cases hgh : g = h + 1
  · subst hgh
    have hp := pw_pos (h + 1)
    have a1 := Nat.le_of_mul_le_mul_right h1 hp
    have a2 := Nat.le_of_mul_le_mul_right h2 hp
    obtain rfl : j = k := by omega
    exact absurd rfl hn
  · rcases side (j := j) (e := 2 * k + 1) (show g ≤ h by omega) with s | s
    · exact .inl ⟨by show 2 * k * pw h ≤ j * pw g; omega, s⟩
    · exact .inr ⟨s, by show (j + 1) * pw g ≤ (2 * k + 1 + 1) * pw h; omega⟩
/-- Of a block's digest that is alike on both sides: all that is given below it is, or two texts part. -/
theorem ab_part {c q p : Nat} {L : List (Nat × Nat)} (hr : Row q p L) {D D' : List ByteArray} (hz : ∀ h k, (dgK c L D h k).size = (dgK c L D' h k).size) : ∀ h k, dgK c L D h k = dgK c L D' h k → (∀ b ∈ L, Ins b (h, k) → dgK c L D b.1 b.2 = dgK c L D' b.1 b.2) ∨ Ptd c (abT c L D h k) (abT c L D' h k) := by
  intro h
  induction h with
  | zero =>
    intro k he
    refine .inl fun b _ hi => ?_
    rw [ins_zero hi]
    exact he
  | succ h ih =>
    intro k he
    by_cases hm : (h + 1, k) ∈ L
    · refine .inl fun b hb hi => ?_
      rw [row_meet hr b hb _ hm hi]
      exact he
    · rw [abT_node hm, abT_node hm]
      rw [dgK_node hm, dgK_node hm] at he
      by_cases ht : nodeT (dgK c L D h (2 * k)) (dgK c L D h (2 * k + 1)) = nodeT (dgK c L D' h (2 * k)) (dgK c L D' h (2 * k + 1))
      · obtain ⟨t1, t2⟩ := nodeT_inj (hz _ _) ht
        rcases ih _ t1 with a | a
        · rcases ih _ t2 with b | b
          · refine .inl fun x hx hi => ?_
            rcases ins_half (fun e => hm (e ▸ hx)) hi with hi | hi
            · exact a x hx hi
            · exact b x hx hi
          · exact .inr (cl_cons (cl_right (abT_len c L D D' _ _) b))
        · exact .inr (cl_cons (cl_left (abT_len c L D D' _ _) a))
      · exact .inr (cl_here ht he)
theorem fl_part {c q p : Nat} {L : List (Nat × Nat)} (hr : Row q p L) {D D' : List ByteArray} (hz : ∀ h k, (dgK c L D h k).size = (dgK c L D' h k).size) : ∀ M : List (Nat × Nat), (∀ m ∈ M, dgK c L D m.1 m.2 = dgK c L D' m.1 m.2) → (∀ m ∈ M, ∀ b ∈ L, Ins b m → dgK c L D b.1 b.2 = dgK c L D' b.1 b.2) ∨ Ptd c (flT c L D M) (flT c L D' M)
  | [], _ => .inl fun m hm => by cases hm
  | a :: M, h => by
    have e : ∀ E, flT c L E (a :: M) = abT c L E a.1 a.2 ++ flT c L E M := fun E => by rw [flT, List.flatMap_cons]; rfl
    rw [e, e]
    rcases ab_part hr hz a.1 a.2 (h a List.mem_cons_self) with x | x
    · rcases fl_part hr hz M (fun m hm => h m (List.mem_cons_of_mem _ hm)) with y | y
      · refine .inl fun m hm b hb hi => ?_
        rcases List.mem_cons.1 hm with rfl | hm
        · exact x b hb hi
        · exact y m hm b hb hi
      · exact .inr (cl_right (abT_len c L D D' _ _) y)
    · exact .inr (cl_left (abT_len c L D D' _ _) x)
theorem bag_part {c : Nat} {f f' : Nat × Nat → ByteArray} (hz : ∀ b, (f b).size = (f' b).size) : ∀ M : List (Nat × Nat), bagL c (M.map f) = bagL c (M.map f') → (∀ m ∈ M, f m = f' m) ∨ Ptd c (bgF c (M.map f)) (bgF c (M.map f'))
  | [], _ => .inl fun m hm => by cases hm
  | [a], h => .inl fun m hm => by
    rw [List.mem_singleton] at hm
    subst hm
    exact h
  | a :: b :: M, h => by
    have e : ∀ g : Nat × Nat → ByteArray, bagL c ((a :: b :: M).map g) = dg c (bagT (g a) (bagL c ((b :: M).map g))) := fun g => by rw [List.map_cons, List.map_cons, bagL]
    have e2 : ∀ g : Nat × Nat → ByteArray, bgF c ((a :: b :: M).map g) = bagT (g a) (bagL c ((b :: M).map g)) :: bgF c ((b :: M).map g) := fun g => by rw [List.map_cons, List.map_cons, bgF]
    rw [e, e] at h
    rw [e2, e2]
    by_cases ht : bagT (f a) (bagL c ((b :: M).map f)) = bagT (f' a) (bagL c ((b :: M).map f'))
    · obtain ⟨t1, t2⟩ := bagT_inj (hz _) ht
      rcases bag_part hz (b :: M) t2 with x | x
      · refine .inl fun m hm => ?_
        rcases List.mem_cons.1 hm with rfl | hm
        · exact t1
        · exact x m hm
      · exact .inr (cl_cons x)
    · exact .inr (cl_here ht h)
/-- Each block within n lies in a mountain of n. -/
theorem dn_ins (n : Nat) : ∀ h lo, n - lo < pw h → (∃ e, lo = e * pw h) → ∀ b : Nat × Nat, lo ≤ b.2 * pw b.1 → (b.2 + 1) * pw b.1 ≤ n → ∃ m ∈ dnL h lo n, Ins b m
  | 0, lo, hl, _, b, h1, h2 => by
    have := blk_eq b.1 b.2
    have := pw_pos b.1
    rw [pw_zero] at hl
    omega
  | h + 1, lo, hl, ⟨e, he⟩, b, h1, h2 => by
    have hb := blk_eq b.1 b.2
    have hps := pw_succ h
    have hp := pw_pos h
    have he' : lo = 2 * e * pw h := by rw [he, Cv.mul_half]
    have hm : lo + pw h = (2 * e + 1) * pw h := by rw [he', Nat.add_mul, Nat.one_mul]
    have hg : b.1 ≤ h := by
      apply Classical.byContradiction
      intro hn
      have : pw (h + 1) ≤ pw b.1 := pw_le (by omega)
      omega
    rw [dnL]
    split
    · rcases side (j := b.2) (e := 2 * e + 1) hg with s | s
      · refine ⟨(h, lo / pw h), List.mem_cons_self, ?_, ?_⟩
        · show lo / pw h * pw h ≤ _
          rw [he', Nat.mul_div_cancel _ hp, ← he']
          exact h1
        · show _ ≤ (lo / pw h + 1) * pw h
          rw [he', Nat.mul_div_cancel _ hp]
          exact s
      · obtain ⟨m, hm1, hm2⟩ := dn_ins n h (lo + pw h) (by omega) ⟨_, hm⟩ b (by omega) h2
        exact ⟨m, List.mem_cons_of_mem _ hm1, hm2⟩
    · exact dn_ins n h lo (by omega) ⟨_, he'⟩ b h1 h2
theorem cov_ins {n : Nat} (hn : n ≤ 2 ^ 40) (b : Nat × Nat) (h : (b.2 + 1) * pw b.1 ≤ n) : ∃ m ∈ cov 0 n, Ins b m := by
  have h41 : pw 41 = 2 ^ 41 := rfl
  rw [cov_zero _ hn]
  exact dn_ins n 41 0 (by omega) ⟨0, by omega⟩ b (Nat.zero_le _) h
theorem dgK_sizes {c : Nat} (hc : c ≤ 32) {L : List (Nat × Nat)} {D D' : List ByteArray} (hl : L.length = D.length) (hl' : L.length = D'.length) (hs : ∀ d ∈ D, d.size = c) (hs' : ∀ d ∈ D', d.size = c) : ∀ h k, (dgK c L D h k).size = (dgK c L D' h k).size := by
  have key : ∀ b ∈ L, (D.getD (L.idxOf b) ⟨#[]⟩).size = (D'.getD (L.idxOf b) ⟨#[]⟩).size := fun b hb => by
    have hi : L.idxOf b < L.length := List.idxOf_lt_length_of_mem hb
    rw [List.getD_eq_getElem?_getD, List.getD_eq_getElem?_getD, List.getElem?_eq_getElem (by omega : L.idxOf b < D.length), List.getElem?_eq_getElem (by omega : L.idxOf b < D'.length)]
    exact (hs _ (List.getElem_mem _)).trans (hs' _ (List.getElem_mem _)).symm
  intro h k
  cases h with
  | zero =>
    rw [dgK, dgK]
    split
    · rename_i h; exact key _ h
    · rfl
  | succ h =>
    rw [dgK, dgK]
    split
    · rename_i h; exact key _ h
    · rw [dg_size hc, dg_size hc]
theorem txt_len (c : Nat) (L : List (Nat × Nat)) (n : Nat) (D D' : List ByteArray) : (txt c L n D).length = (txt c L n D').length := by
  rw [txt, txt, List.length_append, List.length_append, List.length_cons, List.length_cons, bgF_len, bgF_len, flT_len c L D D', dgF, dgF, List.length_map, List.length_map]
/-- One digest is another, and the greater commitment the same: two texts part. -/
theorem txt_part {c m n : Nat} (hc : c ≤ 32) (hm : m ≤ n) (hn : n ≤ 2 ^ 40) {D D' : List ByteArray} (hl : (kb m n).length = D.length) (hl' : (kb m n).length = D'.length) (hs : ∀ d ∈ D, d.size = c) (hs' : ∀ d ∈ D', d.size = c) {j : Nat} (hj : j < D.length) (hne : D.getD j ⟨#[]⟩ ≠ D'.getD j ⟨#[]⟩) (he : kNow c n (dgK c (kb m n) D) = kNow c n (dgK c (kb m n) D')) : Ptd c (txt c (kb m n) n D) (txt c (kb m n) n D') := by
  have hr := kb_row hm hn
  have hz := dgK_sizes hc hl hl' hs hs'
  rw [kNow, kNow] at he
  rw [txt, txt]
  have hbl : (bgF c (dgF (dgK c (kb m n) D) (cov 0 n))).length = (bgF c (dgF (dgK c (kb m n) D') (cov 0 n))).length := by rw [bgF_len, bgF_len, dgF, dgF, List.length_map, List.length_map]
  by_cases ht : rootT n (bagL c (dgF (dgK c (kb m n) D) (cov 0 n))) = rootT n (bagL c (dgF (dgK c (kb m n) D') (cov 0 n)))
  · have hb := (ba_app rfl ht).2
    rcases bag_part (f := fun b => dgK c (kb m n) D b.1 b.2) (f' := fun b => dgK c (kb m n) D' b.1 b.2) (fun b => hz b.1 b.2) (cov 0 n) hb with x | x
    · rcases fl_part hr hz (cov 0 n) x with y | y
      · refine absurd ?_ hne
        have hjk : j < (kb m n).length := by omega
        have hmem := mem_getD hjk
        obtain ⟨t, ht1, ht2⟩ := cov_ins hn _ (row_from hr _ hmem).2
        have := y t ht1 _ hmem ht2
        rw [dgK_at hr hjk, dgK_at hr hjk] at this
        exact this
      · exact cl_right (by rw [List.length_cons, List.length_cons, hbl]) y
    · exact cl_left (by rw [List.length_cons, List.length_cons, hbl]) (cl_cons x)
  · exact cl_left (by rw [List.length_cons, List.length_cons, hbl]) (cl_here ht he)
end Go.Proofs.YtdkcliblbaldhaaDoor
