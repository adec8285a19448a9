/-
  Lists of one's own, each in blocks marked as its own. Own work.
-/
import Derived.Test.YtgmnolepaidiiaaDoorTAp
namespace Go.Proofs.YtgmnolepaidiiaaDoor
open Go.RowKit
open Cv (RdC)
attribute [local go_sem ↓] Go.wp_at_zero Go.wp_at_succ
/-- What an append leaves: in its place, or in a new one. -/
structure Ap2 (w w' : World) (B e s : Nat) (v v' : Value) (n : Nat) (xs : List Value) : Prop where
  own : w'.ownsRow B e s v' n xs
  how : (v'.ownBlock = v.ownBlock ∧ w.grownBy w' v.ownBlock) ∨ (w.grownBy w' none ∧ ∀ g, v'.ownBlock = some g → w.heap.size ≤ g)
theorem wpList_append_tag (w : World) {ops : Array Oper} {rest : List Oper} {o : Oper} {a : Act} {Q : Exit → Act → World → Prop}
    (hg : o.guard = none) (s x : Operand) (t : TypeId) (hop : o.op = Op.call { callee := Callee.builtin Builtin.append, args := #[s, x], argTypes := #[t, t] })
    (B : Nat) (e : TypeId) (i : TypeInfo) (z : Value) (size bytes : Nat) (h1 : Tryd.prog.underlying t = some (.slice e)) (h2 : Tryd.prog.info? e = some i) (h3 : i.zero = some z) (h4 : i.size = size) (h5 : i.bytes = bytes) (h6 : z.cells.size = size) (h7 : 0 < size)
    (v : Value) (n : Nat) (xs : List Value) (hs : a.eval s = v) (hown : w.ownsRow B e size v n xs) (u : Value) (m : Nat) (news : List Value) (hx : a.eval x = u) (hr : RdC w u m news) (hn : news.length = m * size) (h1c : ∀ u ∈ news, u.oneCell' = true)
    (b1 : n + m ≤ maxLen) (b2 : (n + m) * bytes ≤ 140737488355328) (hB : B ≤ w.heap.size)
    (hK : ∀ v' w', Ap2 w w' B e size v v' (n + m) (xs ++ news) → wpList Tryd.prog ops Q rest (a.put o.dst v') w') : wpList Tryd.prog ops Q (o :: rest) a w := by
  obtain ⟨ao, cap, rfl, hnone, hcells⟩ := hr
  cases ao with
  | none =>
    obtain ⟨rfl, rfl⟩ := hnone rfl
    have hnil : news = [] := List.length_eq_zero_iff.1 (by rw [hn]; omega)
    subst hnil
    exact wpList_append_own_none hg s x _ hop B e i size h1 h2 v n xs hs hown hx (hK _ w ⟨by simpa using hown, .inl ⟨rfl, World.grownBy.refl w _⟩⟩)
  | some ad =>
    have hown0 := hown
    obtain ⟨g1, g2⟩ := hown
    rcases g2 with ⟨rfl, rfl⟩ | ⟨g, cp, cur, rfl, hgb, hh, hc⟩
    · have hxs : xs = [] := List.length_eq_zero_iff.1 (by omega)
      subst hxs
      refine wpList_append_own w hg s x _ hop w.heap.size e i z size bytes h1 h2 h3 h4 h5 h6 h7 _ 0 [] hs (World.ownsRow_nil _ _ _ _) ad m cap news hx hn (hcells ad rfl) h1c b1 b2 (Nat.le_refl _) ?_
      intro v' w' r1 r2 _
      exact hK v' w' ⟨r1.mono hB, .inr ⟨r2, fun k hk => (r1.lt k hk).1⟩⟩
    · by_cases hfit : n + m ≤ cp
      · refine wpList_append_fits w hg s x _ hop B e i size h1 h2 h4 g n cp xs hs hown0 ad m cap news hx hn (hcells ad rfl) h1c hfit ?_
        intro w' r1 r2
        exact hK _ w' ⟨r1, .inl ⟨rfl, r2⟩⟩
      · refine wpList_append_grows w hg s x _ hop e i z size bytes h1 h2 h3 h4 h5 h6 h7 (some ⟨g, 0, none⟩) n cp xs hs (fun h => by cases h) g1 (fun b hb => by cases hb; exact hown0.cells rfl) ad m cap news hx hn (hcells ad rfl) h1c (by omega) b1 b2 ?_
        intro v' w' r1 r2
        exact hK v' w' ⟨r1.mono hB, .inr ⟨r2, fun k hk => (r1.lt k hk).1⟩⟩
/-- Marks of blocks, with new blocks marked t. -/
def ex (τ : Nat → Nat) (z t : Nat) : Nat → Nat := fun b => if b < z then τ b else t
theorem ex_lt {τ : Nat → Nat} {z t b : Nat} (h : b < z) : ex τ z t b = τ b := by rw [ex, if_pos h]
theorem ex_ge {τ : Nat → Nat} {z t b : Nat} (h : z ≤ b) : ex τ z t b = t := by rw [ex, if_neg (by omega)]
/-- Nothing has changed but blocks marked t. -/
structure Stp (τ : Nat → Nat) (t : Nat) (w w' : World) : Prop where
  size : w.heap.size ≤ w'.heap.size
  block : ∀ b, b < w.heap.size → τ b ≠ t → w'.heap[b]? = w.heap[b]?
theorem stp_below {τ : Nat → Nat} {t : Nat} {w w' : World} (h : Below w.heap.size w w') : Stp τ t w w' := ⟨h.size, fun b hb _ => h.block b hb⟩
theorem Ap2.stp {w w' : World} {B e s n t : Nat} {v v' : Value} {xs : List Value} {τ : Nat → Nat} (h : Ap2 w w' B e s v v' n xs) (ht : ∀ g, v.ownBlock = some g → τ g = t) : Stp τ t w w' := by
  rcases h.how with ⟨_, hg⟩ | ⟨hg, _⟩
  · exact ⟨hg.size, fun b hb hne => hg.block b hb (fun e => hne (ht b e.symm))⟩
  · exact ⟨hg.size, fun b hb _ => hg.block b hb (by simp)⟩
theorem Ap2.below {w0 w w' : World} {B e s n m : Nat} {v v' : Value} {xs ys : List Value} (h : Ap2 w w' B e s v v' n xs) (hb : Below B w0 w) (ho : w.ownsRow B e s v m ys) (hB : B ≤ w.heap.size) : Below B w0 w' := by
  rcases h.how with ⟨_, hg⟩ | ⟨hg, _⟩
  · exact hb.grown hg hB (fun k hk => (ho.lt k hk).1)
  · exact hb.grown hg hB (fun k hk => by cases hk)
/-- A list of one's own in blocks marked t. -/
structure Ow (w : World) (τ : Nat → Nat) (B t e s : Nat) (v : Value) (n : Nat) (xs : List Value) : Prop where
  own : w.ownsRow B e s v n xs
  tag : ∀ g, v.ownBlock = some g → τ g = t
section
variable {w w' : World} {τ τ' : Nat → Nat} {B t t' e s n n' : Nat} {u v v' : Value} {xs xs' : List Value}
theorem Ow.keep (h : Ow w τ B t e s v n xs) (hs : Stp τ t' w w') (hne : t ≠ t') (hτ : ∀ b, b < w.heap.size → τ' b = τ b) : Ow w' τ' B t e s v n xs :=
  ⟨keep_row h.own fun g hg _ => hs.block g (h.own.lt g hg).2 (by rw [h.tag g hg]; exact hne), fun g hg => by rw [hτ g (h.own.lt g hg).2]; exact h.tag g hg⟩
theorem Ow.next (h : Ow w τ B t e s v n xs) (hb : Below w.heap.size w w') : Ow w' τ B t e s v n xs :=
  ⟨keep_row h.own fun g hg _ => hb.block g (h.own.lt g hg).2, h.tag⟩
theorem Ow.app (h : Ow w τ B t e s v n xs) (ha : Ap2 w w' B e s v v' n' xs') : Ow w' (ex τ w.heap.size t) B t e s v' n' xs' :=
  ⟨ha.own, fun g hg => by
    rcases ha.how with ⟨h1, _⟩ | ⟨_, h2⟩
    · rw [h1] at hg; rw [ex_lt (h.own.lt g hg).2]; exact h.tag g hg
    · exact ex_ge (h2 g hg)⟩
end
theorem row_at {w : World} {B e s n g : Nat} {v : Value} {xs : List Value} (h : w.ownsRow B e s v n xs) (hv : v.ownBlock = some g) {j : Nat} {c : Value} (hj : xs[j]? = some c) : w.cell? ⟨g, j, none⟩ = some c ∧ w.frozen? ⟨g, j, none⟩ = false := by
  rcases h.2 with ⟨rfl, _⟩ | ⟨g', cap, cur, rfl, hg, hh, hc, hm, hz, ht⟩
  · cases hv
  · obtain rfl : g' = g := by simpa [Value.ownBlock] using hv
    refine ⟨?_, frozen_of_row w g' j _ _ hh⟩
    rw [cell_of_row w g' j cur e (0, 0) hh]
    rw [← ht, List.getElem?_take] at hj
    split at hj
    · simpa using hj
    · cases hj
theorem row_form {w : World} {B e s n : Nat} {v : Value} {xs : List Value} (h : w.ownsRow B e s v n xs) : (n = 0 ∧ v = .slice none 0 0) ∨ ∃ g cap, v = .slice (some ⟨g, 0, none⟩) n cap ∧ B ≤ g ∧ g < w.heap.size := by
  rcases h.2 with ⟨rfl, h0⟩ | ⟨g', cap, cur, rfl, hg, hh, hc, hm, hz, ht⟩
  · exact .inl ⟨h0, rfl⟩
  · exact .inr ⟨g', cap, rfl, hg, (Array.getElem?_eq_some_iff.1 hh).1⟩
theorem row_len {w : World} {B e n : Nat} {v : Value} {xs : List Value} (h : w.ownsRow B e 1 v n xs) : xs.length = n := by have := h.1; omega
/-- A list u as it was and the list v that it has become: u's first a, v's b are all x. -/
structure Pc (w : World) (τ : Nat → Nat) (B t e : Nat) (u v : Value) (a b : Nat) (x : Value) : Prop where
  ow : Ow w τ B t e 1 v b (List.replicate b x)
  ab : a ≤ b
  rd : (a = 0 ∧ u = .slice none 0 0) ∨ ∃ g cap, u = .slice (some ⟨g, 0, none⟩) a cap ∧ τ g = t ∧ g < w.heap.size ∧ ∀ j, j < a → w.cell? ⟨g, j, none⟩ = some x
theorem rep_at {b j : Nat} {x : Value} (h : j < b) : (List.replicate b x)[j]? = some x := by rw [List.getElem?_replicate, if_pos h]
section
variable {w w' : World} {τ τ' : Nat → Nat} {B t t' e a b : Nat} {u v v' x : Value}
theorem Pc.start (h : Ow w τ B t e 1 v a (List.replicate a x)) : Pc w τ B t e v v a a x := by
  refine ⟨h, Nat.le_refl _, ?_⟩
  rcases row_form h.own with ⟨h0, h1⟩ | ⟨g, cap, h1, h2, h3⟩
  · exact .inl ⟨h0, h1⟩
  · exact .inr ⟨g, cap, h1, h.tag g (by rw [h1]; rfl), h3, fun j hj => (row_at h.own (by rw [h1]; rfl) (rep_at hj)).1⟩
theorem Pc.keep (h : Pc w τ B t e u v a b x) (hs : Stp τ t' w w') (hne : t ≠ t') (hτ : ∀ b, b < w.heap.size → τ' b = τ b) : Pc w' τ' B t e u v a b x := by
  refine ⟨h.ow.keep hs hne hτ, h.ab, ?_⟩
  rcases h.rd with h0 | ⟨g, cap, h1, h2, h3, h4⟩
  · exact .inl h0
  · exact .inr ⟨g, cap, h1, by rw [hτ g h3]; exact h2, Nat.lt_of_lt_of_le h3 hs.size, fun j hj => (World.cell?_of_block (a := ⟨g, j, none⟩) (hs.block g h3 (by rw [h2]; exact hne))).trans (h4 j hj)⟩
theorem Pc.next (h : Pc w τ B t e u v a b x) (hb : Below w.heap.size w w') : Pc w' τ B t e u v a b x :=
  h.keep (stp_below (t := t + 1) hb) (by omega) fun _ _ => rfl
theorem Pc.app (h : Pc w τ B t e u v a b x) (ha : Ap2 w w' B e 1 v v' (b + 1) (List.replicate b x ++ [x])) : Pc w' (ex τ w.heap.size t) B t e u v' a (b + 1) x := by
  have e1 : List.replicate b x ++ [x] = List.replicate (b + 1) x := by rw [List.replicate_succ']
  rw [e1] at ha
  refine ⟨h.ow.app ha, by have := h.ab; omega, ?_⟩
  rcases h.rd with h0 | ⟨g, cap, h1, h2, h3, h4⟩
  · exact .inl h0
  · have hs : w.heap.size ≤ w'.heap.size := (ha.stp (τ := τ) (t := t) h.ow.tag).size
    refine .inr ⟨g, cap, h1, by rw [ex_lt h3]; exact h2, Nat.lt_of_lt_of_le h3 hs, fun j hj => ?_⟩
    rcases ha.how with ⟨k1, hg⟩ | ⟨hg, _⟩
    · by_cases hv : v.ownBlock = some g
      · exact (row_at ha.own (by rw [k1]; exact hv) (rep_at (by have := h.ab; omega))).1
      · exact (World.cell?_of_block (a := ⟨g, j, none⟩) (hg.block g h3 (fun e => hv e.symm))).trans (h4 j hj)
    · exact (World.cell?_of_block (a := ⟨g, j, none⟩) (hg.block g h3 (by simp))).trans (h4 j hj)
end
/-- One of many is another now. -/
def upd {α : Type} (f : Nat → α) (i : Nat) (x : α) : Nat → α := fun k => if k = i then x else f k
theorem upd_at {α : Type} (f : Nat → α) (i : Nat) (x : α) : upd f i x i = x := by rw [upd, if_pos rfl]
theorem upd_ne {α : Type} (f : Nat → α) {i k : Nat} (x : α) (h : k ≠ i) : upd f i x k = f k := by rw [upd, if_neg h]
theorem upd_upd {α : Type} (f : Nat → α) (i : Nat) (x y : α) : upd (upd f i x) i y = upd f i y := by
  funext k
  by_cases h : k = i
  · rw [h, upd_at, upd_at]
  · rw [upd_ne _ _ h, upd_ne _ _ h, upd_ne _ _ h]
theorem upd_self {α : Type} (f : Nat → α) (i : Nat) : upd f i (f i) = f := by
  funext k
  by_cases h : k = i
  · rw [h, upd_at]
  · rw [upd_ne _ _ h]
/-- The marks. -/
def mU (i : Nat) : Value := .int .u64 (1125899906842624 + (i : Int))
def mT (i : Nat) : ByteArray := (⟨#[97, 32, 109, 97, 114, 107, 32, 116, 104, 97, 116, 32, 110, 111, 32, 100, 105, 103, 101, 115, 116, 32, 105, 115, 44, 32, 111, 102, 32, 110, 117, 109, 98, 101, 114, 32]⟩ : ByteArray) ++ strB [((i : Nat) : Int), 0]
def mS (i : Nat) : Value := .string (mT i)
/-- The lists of all proofs, as they are, and the proofs' row. -/
structure S0 (w : World) (τ : Nat → Nat) (B n ab : Nat) (sv dv : Nat → Value) (cs ds : Nat → List Value) : Prop where
  s : ∀ i, i < n → Ow w τ B (3 + 2 * i) 22 1 (sv i) (cs i).length (cs i)
  d : ∀ i, i < n → Ow w τ B (4 + 2 * i) 9 1 (dv i) (ds i).length (ds i)
  al : ∀ i, i < n → w.cell? ⟨ab, i * 6 + 4, none⟩ = some (sv i) ∧ w.cell? ⟨ab, i * 6 + 5, none⟩ = some (dv i)
  lo : 0 < n → τ ab = 0 ∧ ab < w.heap.size
section
variable {w w' : World} {τ τ' : Nat → Nat} {B n ab t : Nat} {sv dv : Nat → Value} {cs ds : Nat → List Value}
theorem S0.next (h : S0 w τ B n ab sv dv cs ds) (hb : Below w.heap.size w w') : S0 w' τ B n ab sv dv cs ds :=
  ⟨fun i hi => (h.s i hi).next hb, fun i hi => (h.d i hi).next hb, fun i hi => by
    have hl := (h.lo (by omega)).2
    exact ⟨(World.cell?_of_block (a := ⟨ab, i * 6 + 4, none⟩) (hb.block ab hl)).trans (h.al i hi).1, (World.cell?_of_block (a := ⟨ab, i * 6 + 5, none⟩) (hb.block ab hl)).trans (h.al i hi).2⟩, fun h0 => ⟨(h.lo h0).1, Nat.lt_of_lt_of_le (h.lo h0).2 hb.size⟩⟩
theorem stp_set {w : World} {τ : Nat → Nat} {g t : Nat} (ht : τ g = t) (j : Nat) (x : Value) : Stp τ t w (w.setCell ⟨g, j, none⟩ x) :=
  ⟨by simp, fun b hb hne => Below.heap_setCell _ _ _ _ (by show b ≠ g; rintro rfl; exact hne ht)⟩
theorem Ow.set {e g m cap j : Nat} {xs : List Value} (h : Ow w τ B t e 1 (.slice (some ⟨g, 0, none⟩) m cap) xs.length xs) (x : Value) : Ow (w.setCell ⟨g, j, none⟩ x) τ B t e 1 (.slice (some ⟨g, 0, none⟩) m cap) (xs.set j x).length (xs.set j x) := by
  refine ⟨?_, h.tag⟩
  obtain ⟨h1, h2⟩ := h.own
  refine ⟨by simp, .inr ?_⟩
  rcases h2 with ⟨h2, h3⟩ | ⟨g', cap', cur, hv, hg, hh, h3, h4, h5, h6⟩
  · cases h2
  · obtain ⟨e1, e2, e3⟩ := Value.slice.inj hv
    cases e1
    have s1 : (w.setCell ⟨g, j, none⟩ x).heap[g]? = _ := heap_setCell_same w g j cur _ _ hh
    refine ⟨g, cap, _, by rw [e2]; simp, hg, s1, by simpa [e3] using h3, by omega, by simpa [e3] using h5, ?_⟩
    rw [List.length_set, Array.toList_setIfInBounds, List.take_set, h6]
theorem S0.setU (h : S0 w τ B n ab sv dv cs ds) {i g m cap j : Nat} (hi : i < n) (hv : sv i = .slice (some ⟨g, 0, none⟩) m cap) (hj : j < (cs i).length) (x : Value) : S0 (w.setCell ⟨g, j, none⟩ x) τ B n ab sv dv (upd cs i ((cs i).set j x)) ds := by
  have hg : τ g = 3 + 2 * i := (h.s i hi).tag g (by rw [hv]; rfl)
  have hs := stp_set (w := w) hg j x
  refine ⟨fun k hk => ?_, fun k hk => (h.d k hk).keep hs (by omega) fun _ _ => rfl, fun k hk => ?_, fun h0 => ⟨(h.lo h0).1, by simpa using (h.lo h0).2⟩⟩
  · by_cases e : k = i
    · subst e
      rw [upd_at, hv]
      have := h.s k hk
      rw [hv] at this
      exact this.set x
    · rw [upd_ne _ _ e]
      exact (h.s k hk).keep hs (by omega) fun _ _ => rfl
  · have hl := h.lo (by omega)
    have hb := hs.block ab hl.2 (by rw [hl.1]; omega)
    exact ⟨(World.cell?_of_block (a := ⟨ab, k * 6 + 4, none⟩) hb).trans (h.al k hk).1, (World.cell?_of_block (a := ⟨ab, k * 6 + 5, none⟩) hb).trans (h.al k hk).2⟩
theorem S0.setS (h : S0 w τ B n ab sv dv cs ds) {i g m cap j : Nat} (hi : i < n) (hv : dv i = .slice (some ⟨g, 0, none⟩) m cap) (hj : j < (ds i).length) (x : Value) : S0 (w.setCell ⟨g, j, none⟩ x) τ B n ab sv dv cs (upd ds i ((ds i).set j x)) := by
  have hg : τ g = 4 + 2 * i := (h.d i hi).tag g (by rw [hv]; rfl)
  have hs := stp_set (w := w) hg j x
  refine ⟨fun k hk => (h.s k hk).keep hs (by omega) fun _ _ => rfl, fun k hk => ?_, fun k hk => ?_, fun h0 => ⟨(h.lo h0).1, by simpa using (h.lo h0).2⟩⟩
  · by_cases e : k = i
    · subst e
      rw [upd_at, hv]
      have := h.d k hk
      rw [hv] at this
      exact this.set x
    · rw [upd_ne _ _ e]
      exact (h.d k hk).keep hs (by omega) fun _ _ => rfl
  · have hl := h.lo (by omega)
    have hb := hs.block ab hl.2 (by rw [hl.1]; omega)
    exact ⟨(World.cell?_of_block (a := ⟨ab, k * 6 + 4, none⟩) hb).trans (h.al k hk).1, (World.cell?_of_block (a := ⟨ab, k * 6 + 5, none⟩) hb).trans (h.al k hk).2⟩
end
theorem mark_set (R : List Value) (j : Nat) (x : Value) (h : j < R.length) : (List.replicate j x ++ R.drop j).set j x = List.replicate (j + 1) x ++ R.drop (j + 1) := by
  obtain ⟨r, rs, hr⟩ : ∃ r rs, R.drop j = r :: rs := by
    cases hd : R.drop j with
    | nil => have := congrArg List.length hd; rw [List.length_drop] at this; simp at this; omega
    | cons r rs => exact ⟨r, rs, rfl⟩
  have h2 : R.drop (j + 1) = rs := by rw [← List.tail_drop, hr]; rfl
  rw [h2, hr, List.set_append, if_neg (by rw [List.length_replicate]; omega), List.length_replicate, Nat.sub_self, List.set_cons_zero, List.replicate_succ', List.append_assoc]
  rfl
/-- The lists as they have become. -/
structure St (w : World) (τ : Nat → Nat) (B n ab : Nat) (sv dv X Y : Nat → Value) (a b c d : Nat → Nat) : Prop where
  s : ∀ i, i < n → Pc w τ B (3 + 2 * i) 22 (sv i) (X i) (a i) (b i) (mU i)
  d : ∀ i, i < n → Pc w τ B (4 + 2 * i) 9 (dv i) (Y i) (c i) (d i) (mS i)
  al : ∀ i, i < n → w.cell? ⟨ab, i * 6 + 4, none⟩ = some (sv i) ∧ w.cell? ⟨ab, i * 6 + 5, none⟩ = some (dv i)
  lo : 0 < n → τ ab = 0 ∧ ab < w.heap.size
section
variable {w w' : World} {τ τ' : Nat → Nat} {B n ab t : Nat} {sv dv X Y : Nat → Value} {a b c d : Nat → Nat}
theorem St.start {cs ds : Nat → List Value} (h : S0 w τ B n ab sv dv cs ds) (h1 : ∀ i, i < n → cs i = List.replicate (a i) (mU i)) (h2 : ∀ i, i < n → ds i = List.replicate (c i) (mS i)) : St w τ B n ab sv dv sv dv a a c c :=
  ⟨fun i hi => Pc.start (by have := h.s i hi; rw [h1 i hi, List.length_replicate] at this; exact this), fun i hi => Pc.start (by have := h.d i hi; rw [h2 i hi, List.length_replicate] at this; exact this), h.al, h.lo⟩
theorem St.keep (h : St w τ B n ab sv dv X Y a b c d) (hs : Stp τ t w w') (h1 : 1 ≤ t) (h2 : t ≤ 2) (hτ : ∀ b, b < w.heap.size → τ' b = τ b) : St w' τ' B n ab sv dv X Y a b c d := by
  refine ⟨fun i hi => (h.s i hi).keep hs (by omega) hτ, fun i hi => (h.d i hi).keep hs (by omega) hτ, fun i hi => ?_, fun h0 => ⟨by rw [hτ ab (h.lo h0).2]; exact (h.lo h0).1, Nat.lt_of_lt_of_le (h.lo h0).2 hs.size⟩⟩
  have hl := h.lo (by omega)
  have hb := hs.block ab hl.2 (by rw [hl.1]; omega)
  exact ⟨(World.cell?_of_block (a := ⟨ab, i * 6 + 4, none⟩) hb).trans (h.al i hi).1, (World.cell?_of_block (a := ⟨ab, i * 6 + 5, none⟩) hb).trans (h.al i hi).2⟩
theorem St.next (h : St w τ B n ab sv dv X Y a b c d) (hb : Below w.heap.size w w') : St w' τ B n ab sv dv X Y a b c d := h.keep (stp_below (t := 1) hb) (Nat.le_refl _) (by omega) fun _ _ => rfl
theorem St.appU (h : St w τ B n ab sv dv X Y a b c d) {i : Nat} (hi : i < n) {v' : Value} (ha : Ap2 w w' B 22 1 (X i) v' (b i + 1) (List.replicate (b i) (mU i) ++ [mU i])) : St w' (ex τ w.heap.size (3 + 2 * i)) B n ab sv dv (upd X i v') Y a (upd b i (b i + 1)) c d := by
  have hs := ha.stp (h.s i hi).ow.tag
  have hτ : ∀ b, b < w.heap.size → ex τ w.heap.size (3 + 2 * i) b = τ b := fun b hb => ex_lt hb
  refine ⟨fun k hk => ?_, fun k hk => (h.d k hk).keep hs (by omega) hτ, fun k hk => ?_, fun h0 => ⟨by rw [hτ ab (h.lo h0).2]; exact (h.lo h0).1, Nat.lt_of_lt_of_le (h.lo h0).2 hs.size⟩⟩
  · by_cases e : k = i
    · subst e
      rw [upd_at, upd_at]
      exact (h.s k hk).app ha
    · rw [upd_ne _ _ e, upd_ne _ _ e]
      exact (h.s k hk).keep hs (by omega) hτ
  · have hl := h.lo (by omega)
    have hb := hs.block ab hl.2 (by rw [hl.1]; omega)
    exact ⟨(World.cell?_of_block (a := ⟨ab, k * 6 + 4, none⟩) hb).trans (h.al k hk).1, (World.cell?_of_block (a := ⟨ab, k * 6 + 5, none⟩) hb).trans (h.al k hk).2⟩
theorem St.appS (h : St w τ B n ab sv dv X Y a b c d) {i : Nat} (hi : i < n) {v' : Value} (ha : Ap2 w w' B 9 1 (Y i) v' (d i + 1) (List.replicate (d i) (mS i) ++ [mS i])) : St w' (ex τ w.heap.size (4 + 2 * i)) B n ab sv dv X (upd Y i v') a b c (upd d i (d i + 1)) := by
  have hs := ha.stp (h.d i hi).ow.tag
  have hτ : ∀ b, b < w.heap.size → ex τ w.heap.size (4 + 2 * i) b = τ b := fun b hb => ex_lt hb
  refine ⟨fun k hk => (h.s k hk).keep hs (by omega) hτ, fun k hk => ?_, fun k hk => ?_, fun h0 => ⟨by rw [hτ ab (h.lo h0).2]; exact (h.lo h0).1, Nat.lt_of_lt_of_le (h.lo h0).2 hs.size⟩⟩
  · by_cases e : k = i
    · subst e
      rw [upd_at, upd_at]
      exact (h.d k hk).app ha
    · rw [upd_ne _ _ e, upd_ne _ _ e]
      exact (h.d k hk).keep hs (by omega) hτ
  · have hl := h.lo (by omega)
    have hb := hs.block ab hl.2 (by rw [hl.1]; omega)
    exact ⟨(World.cell?_of_block (a := ⟨ab, k * 6 + 4, none⟩) hb).trans (h.al k hk).1, (World.cell?_of_block (a := ⟨ab, k * 6 + 5, none⟩) hb).trans (h.al k hk).2⟩
end
end Go.Proofs.YtgmnolepaidiiaaDoor
