/-
  BTag, BFresh, BFreshR in one text. Own work.
-/
import Derived.Test.YtnbejijpmeklaaaDoorQ0
import Derived.BigRegion
import Derived.Test.YtnbejijpmeklaaaDoorBRow
/-
  Lists of one's own, each in blocks marked as its own (off path's texts); two proofs overwritten and grown. Own work.
-/
namespace Go.Proofs.YtnbejijpmeklaaaDoor
open Go.RowKit
open Cv (RdC)
attribute [local go_sem ↓] Go.wp_at_zero Go.wp_at_succ
/-- What an append leaves: in its place, or in a new one. -/
structure Ap2 (w w' : World) (B e s : Nat) (v v' : Value) (n : Nat) (xs : List Value) : Prop where
  own : w'.ownsRow B e s v' n xs
  how : (v'.ownBlock = v.ownBlock ∧ w.grownBy w' v.ownBlock) ∨ (w.grownBy w' none ∧ ∀ g, v'.ownBlock = some g → w.heap.size ≤ g)
theorem wpList_append_tag (w : World) {ops : Array Oper} {rest : List Oper} {o : Oper} {a : Act} {Q : Exit → Act → World → Prop}
    (hg : o.guard = none) (s x : Operand) (t : TypeId) (hop : o.op = Op.call { callee := Callee.builtin Builtin.append, args := #[s, x], argTypes := #[t, t] })
    (B : Nat) (e : TypeId) (i : TypeInfo) (z : Value) (size bytes : Nat) (h1 : Tryd.prog.underlying t = some (.slice e)) (h2 : Tryd.prog.info? e = some i) (h3 : i.zero = some z) (h4 : i.size = size) (h5 : i.bytes = bytes) (h6 : z.cells.size = size) (h7 : 0 < size)
    (v : Value) (n : Nat) (xs : List Value) (hs : a.eval s = v) (hown : w.ownsRow B e size v n xs) (u : Value) (m : Nat) (news : List Value) (hx : a.eval x = u) (hr : RdC w u m news) (hn : news.length = m * size) (h1c : ∀ u ∈ news, u.oneCell' = true)
    (b1 : n + m ≤ maxLen) (b2 : (n + m) * bytes ≤ 140737488355328) (hB : B ≤ w.heap.size)
    (hK : ∀ v' w', Ap2 w w' B e size v v' (n + m) (xs ++ news) → wpList Tryd.prog ops Q rest (a.put o.dst v') w') : wpList Tryd.prog ops Q (o :: rest) a w := by
  obtain ⟨ao, cap, rfl, hnone, hcells⟩ := hr
  cases ao with
  | none =>
    obtain ⟨rfl, rfl⟩ := hnone rfl
    have hnil : news = [] := List.length_eq_zero_iff.1 (by rw [hn]; omega)
    subst hnil
    exact wpList_append_own_none hg s x _ hop B e i size h1 h2 v n xs hs hown hx (hK _ w ⟨by simpa using hown, .inl ⟨rfl, World.grownBy.refl w _⟩⟩)
  | some ad =>
    have hown0 := hown
    obtain ⟨g1, g2⟩ := hown
    rcases g2 with ⟨rfl, rfl⟩ | ⟨g, cp, cur, rfl, hgb, hh, hc⟩
    · have hxs : xs = [] := List.length_eq_zero_iff.1 (by omega)
      subst hxs
      refine wpList_append_own w hg s x _ hop w.heap.size e i z size bytes h1 h2 h3 h4 h5 h6 h7 _ 0 [] hs (World.ownsRow_nil _ _ _ _) ad m cap news hx hn (hcells ad rfl) h1c b1 b2 (Nat.le_refl _) ?_
      intro v' w' r1 r2 _
      exact hK v' w' ⟨r1.mono hB, .inr ⟨r2, fun k hk => (r1.lt k hk).1⟩⟩
    · by_cases hfit : n + m ≤ cp
      · refine wpList_append_fits w hg s x _ hop B e i size h1 h2 h4 g n cp xs hs hown0 ad m cap news hx hn (hcells ad rfl) h1c hfit ?_
        intro w' r1 r2
        exact hK _ w' ⟨r1, .inl ⟨rfl, r2⟩⟩
      · refine wpList_append_grows w hg s x _ hop e i z size bytes h1 h2 h3 h4 h5 h6 h7 (some ⟨g, 0, none⟩) n cp xs hs (fun h => by cases h) g1 (fun b hb => by cases hb; exact hown0.cells rfl) ad m cap news hx hn (hcells ad rfl) h1c (by omega) b1 b2 ?_
        intro v' w' r1 r2
        exact hK v' w' ⟨r1.mono hB, .inr ⟨r2, fun k hk => (r1.lt k hk).1⟩⟩
/-- Marks of blocks, with new blocks marked t. -/
def ex (τ : Nat → Nat) (z t : Nat) : Nat → Nat := fun b => if b < z then τ b else t
theorem ex_lt {τ : Nat → Nat} {z t b : Nat} (h : b < z) : ex τ z t b = τ b := by rw [ex, if_pos h]
theorem ex_ge {τ : Nat → Nat} {z t b : Nat} (h : z ≤ b) : ex τ z t b = t := by rw [ex, if_neg (by omega)]
/-- Nothing has changed but blocks marked t. -/
structure Stp (τ : Nat → Nat) (t : Nat) (w w' : World) : Prop where
  size : w.heap.size ≤ w'.heap.size
  block : ∀ b, b < w.heap.size → τ b ≠ t → w'.heap[b]? = w.heap[b]?
theorem stp_below {τ : Nat → Nat} {t : Nat} {w w' : World} (h : Below w.heap.size w w') : Stp τ t w w' := ⟨h.size, fun b hb _ => h.block b hb⟩
theorem Ap2.stp {w w' : World} {B e s n t : Nat} {v v' : Value} {xs : List Value} {τ : Nat → Nat} (h : Ap2 w w' B e s v v' n xs) (ht : ∀ g, v.ownBlock = some g → τ g = t) : Stp τ t w w' := by
  rcases h.how with ⟨_, hg⟩ | ⟨hg, _⟩
  · exact ⟨hg.size, fun b hb hne => hg.block b hb (fun e => hne (ht b e.symm))⟩
  · exact ⟨hg.size, fun b hb _ => hg.block b hb (by simp)⟩
theorem Ap2.below {w0 w w' : World} {B e s n m : Nat} {v v' : Value} {xs ys : List Value} (h : Ap2 w w' B e s v v' n xs) (hb : Below B w0 w) (ho : w.ownsRow B e s v m ys) (hB : B ≤ w.heap.size) : Below B w0 w' := by
  rcases h.how with ⟨_, hg⟩ | ⟨hg, _⟩
  · exact hb.grown hg hB (fun k hk => (ho.lt k hk).1)
  · exact hb.grown hg hB (fun k hk => by cases hk)
/-- A list of one's own in blocks marked t. -/
structure Ow (w : World) (τ : Nat → Nat) (B t e s : Nat) (v : Value) (n : Nat) (xs : List Value) : Prop where
  own : w.ownsRow B e s v n xs
  tag : ∀ g, v.ownBlock = some g → τ g = t
section
variable {w w' : World} {τ τ' : Nat → Nat} {B t t' e s n n' : Nat} {u v v' : Value} {xs xs' : List Value}
theorem Ow.keep (h : Ow w τ B t e s v n xs) (hs : Stp τ t' w w') (hne : t ≠ t') (hτ : ∀ b, b < w.heap.size → τ' b = τ b) : Ow w' τ' B t e s v n xs :=
  ⟨keep_row h.own fun g hg _ => hs.block g (h.own.lt g hg).2 (by rw [h.tag g hg]; exact hne), fun g hg => by rw [hτ g (h.own.lt g hg).2]; exact h.tag g hg⟩
theorem Ow.next (h : Ow w τ B t e s v n xs) (hb : Below w.heap.size w w') : Ow w' τ B t e s v n xs :=
  ⟨keep_row h.own fun g hg _ => hb.block g (h.own.lt g hg).2, h.tag⟩
theorem Ow.app (h : Ow w τ B t e s v n xs) (ha : Ap2 w w' B e s v v' n' xs') : Ow w' (ex τ w.heap.size t) B t e s v' n' xs' :=
  ⟨ha.own, fun g hg => by
    rcases ha.how with ⟨h1, _⟩ | ⟨_, h2⟩
    · rw [h1] at hg; rw [ex_lt (h.own.lt g hg).2]; exact h.tag g hg
    · exact ex_ge (h2 g hg)⟩
end
theorem row_at {w : World} {B e s n g : Nat} {v : Value} {xs : List Value} (h : w.ownsRow B e s v n xs) (hv : v.ownBlock = some g) {j : Nat} {c : Value} (hj : xs[j]? = some c) : w.cell? ⟨g, j, none⟩ = some c ∧ w.frozen? ⟨g, j, none⟩ = false := by
  rcases h.2 with ⟨rfl, _⟩ | ⟨g', cap, cur, rfl, hg, hh, hc, hm, hz, ht⟩
  · cases hv
  · obtain rfl : g' = g := by simpa [Value.ownBlock] using hv
    refine ⟨?_, frozen_of_row w g' j _ _ hh⟩
    rw [cell_of_row w g' j cur e (0, 0) hh]
    rw [← ht, List.getElem?_take] at hj
    split at hj
    · simpa using hj
    · cases hj
theorem row_form {w : World} {B e s n : Nat} {v : Value} {xs : List Value} (h : w.ownsRow B e s v n xs) : (n = 0 ∧ v = .slice none 0 0) ∨ ∃ g cap, v = .slice (some ⟨g, 0, none⟩) n cap ∧ B ≤ g ∧ g < w.heap.size := by
  rcases h.2 with ⟨rfl, h0⟩ | ⟨g', cap, cur, rfl, hg, hh, hc, hm, hz, ht⟩
  · exact .inl ⟨h0, rfl⟩
  · exact .inr ⟨g', cap, rfl, hg, (Array.getElem?_eq_some_iff.1 hh).1⟩
theorem row_len {w : World} {B e n : Nat} {v : Value} {xs : List Value} (h : w.ownsRow B e 1 v n xs) : xs.length = n := by have := h.1; omega
theorem rep_at {b j : Nat} {x : Value} (h : j < b) : (List.replicate b x)[j]? = some x := by rw [List.getElem?_replicate, if_pos h]
/-- One of many is another now. -/
def upd {α : Type} (f : Nat → α) (i : Nat) (x : α) : Nat → α := fun k => if k = i then x else f k
theorem upd_at {α : Type} (f : Nat → α) (i : Nat) (x : α) : upd f i x i = x := by rw [upd, if_pos rfl]
theorem upd_ne {α : Type} (f : Nat → α) {i k : Nat} (x : α) (h : k ≠ i) : upd f i x k = f k := by rw [upd, if_neg h]
theorem upd_upd {α : Type} (f : Nat → α) (i : Nat) (x y : α) : upd (upd f i x) i y = upd f i y := by
  funext k
  by_cases h : k = i
  · rw [h, upd_at, upd_at]
  · rw [upd_ne _ _ h, upd_ne _ _ h, upd_ne _ _ h]
theorem upd_self {α : Type} (f : Nat → α) (i : Nat) : upd f i (f i) = f := by
  funext k
  by_cases h : k = i
  · rw [h, upd_at]
  · rw [upd_ne _ _ h]
/-- The marks. -/
def mU (i : Nat) : Value := .int .u64 (900 + (i : Int))
def mT (i : Nat) : ByteArray := strB [109, (i : Int)]
def mS (i : Nat) : Value := .string (mT i)
/-- The lists of all proofs, as they are, and the proofs' row. -/
structure S0 (w : World) (τ : Nat → Nat) (B n ab : Nat) (sv dv : Nat → Value) (cs ds : Nat → List Value) : Prop where
  s : ∀ i, i < n → Ow w τ B (3 + 2 * i) 23 1 (sv i) (cs i).length (cs i)
  d : ∀ i, i < n → Ow w τ B (4 + 2 * i) 9 1 (dv i) (ds i).length (ds i)
  al : ∀ i, i < n → w.cell? ⟨ab, i * 6 + 4, none⟩ = some (sv i) ∧ w.cell? ⟨ab, i * 6 + 5, none⟩ = some (dv i)
  lo : 0 < n → τ ab = 0 ∧ ab < w.heap.size
section
variable {w w' : World} {τ τ' : Nat → Nat} {B n ab t : Nat} {sv dv : Nat → Value} {cs ds : Nat → List Value}
theorem S0.next (h : S0 w τ B n ab sv dv cs ds) (hb : Below w.heap.size w w') : S0 w' τ B n ab sv dv cs ds :=
  ⟨fun i hi => (h.s i hi).next hb, fun i hi => (h.d i hi).next hb, fun i hi => by
    have hl := (h.lo (by omega)).2
    exact ⟨(World.cell?_of_block (a := ⟨ab, i * 6 + 4, none⟩) (hb.block ab hl)).trans (h.al i hi).1, (World.cell?_of_block (a := ⟨ab, i * 6 + 5, none⟩) (hb.block ab hl)).trans (h.al i hi).2⟩, fun h0 => ⟨(h.lo h0).1, Nat.lt_of_lt_of_le (h.lo h0).2 hb.size⟩⟩
theorem stp_set {w : World} {τ : Nat → Nat} {g t : Nat} (ht : τ g = t) (j : Nat) (x : Value) : Stp τ t w (w.setCell ⟨g, j, none⟩ x) :=
  ⟨by simp, fun b hb hne => Below.heap_setCell _ _ _ _ (by show b ≠ g; rintro rfl; exact hne ht)⟩
theorem Ow.set {e g m cap j : Nat} {xs : List Value} (h : Ow w τ B t e 1 (.slice (some ⟨g, 0, none⟩) m cap) xs.length xs) (x : Value) : Ow (w.setCell ⟨g, j, none⟩ x) τ B t e 1 (.slice (some ⟨g, 0, none⟩) m cap) (xs.set j x).length (xs.set j x) := by
  refine ⟨?_, h.tag⟩
  obtain ⟨h1, h2⟩ := h.own
  refine ⟨by simp, .inr ?_⟩
  rcases h2 with ⟨h2, h3⟩ | ⟨g', cap', cur, hv, hg, hh, h3, h4, h5, h6⟩
  · cases h2
  · obtain ⟨e1, e2, e3⟩ := Value.slice.inj hv
    cases e1
    have s1 : (w.setCell ⟨g, j, none⟩ x).heap[g]? = _ := heap_setCell_same w g j cur _ _ hh
    refine ⟨g, cap, _, by rw [e2]; simp, hg, s1, by simpa [e3] using h3, by omega, by simpa [e3] using h5, ?_⟩
    rw [List.length_set, Array.toList_setIfInBounds, List.take_set, h6]
theorem S0.setU (h : S0 w τ B n ab sv dv cs ds) {i g m cap j : Nat} (hi : i < n) (hv : sv i = .slice (some ⟨g, 0, none⟩) m cap) (hj : j < (cs i).length) (x : Value) : S0 (w.setCell ⟨g, j, none⟩ x) τ B n ab sv dv (upd cs i ((cs i).set j x)) ds := by
  have hg : τ g = 3 + 2 * i := (h.s i hi).tag g (by rw [hv]; rfl)
  have hs := stp_set (w := w) hg j x
  refine ⟨fun k hk => ?_, fun k hk => (h.d k hk).keep hs (by omega) fun _ _ => rfl, fun k hk => ?_, fun h0 => ⟨(h.lo h0).1, by simpa using (h.lo h0).2⟩⟩
  · by_cases e : k = i
    · subst e
      rw [upd_at, hv]
      have := h.s k hk
      rw [hv] at this
      exact this.set x
    · rw [upd_ne _ _ e]
      exact (h.s k hk).keep hs (by omega) fun _ _ => rfl
  · have hl := h.lo (by omega)
    have hb := hs.block ab hl.2 (by rw [hl.1]; omega)
    exact ⟨(World.cell?_of_block (a := ⟨ab, k * 6 + 4, none⟩) hb).trans (h.al k hk).1, (World.cell?_of_block (a := ⟨ab, k * 6 + 5, none⟩) hb).trans (h.al k hk).2⟩
theorem S0.setS (h : S0 w τ B n ab sv dv cs ds) {i g m cap j : Nat} (hi : i < n) (hv : dv i = .slice (some ⟨g, 0, none⟩) m cap) (hj : j < (ds i).length) (x : Value) : S0 (w.setCell ⟨g, j, none⟩ x) τ B n ab sv dv cs (upd ds i ((ds i).set j x)) := by
  have hg : τ g = 4 + 2 * i := (h.d i hi).tag g (by rw [hv]; rfl)
  have hs := stp_set (w := w) hg j x
  refine ⟨fun k hk => (h.s k hk).keep hs (by omega) fun _ _ => rfl, fun k hk => ?_, fun k hk => ?_, fun h0 => ⟨(h.lo h0).1, by simpa using (h.lo h0).2⟩⟩
  · by_cases e : k = i
    · subst e
      rw [upd_at, hv]
      have := h.d k hk
      rw [hv] at this
      exact this.set x
    · rw [upd_ne _ _ e]
      exact (h.d k hk).keep hs (by omega) fun _ _ => rfl
  · have hl := h.lo (by omega)
    have hb := hs.block ab hl.2 (by rw [hl.1]; omega)
    exact ⟨(World.cell?_of_block (a := ⟨ab, k * 6 + 4, none⟩) hb).trans (h.al k hk).1, (World.cell?_of_block (a := ⟨ab, k * 6 + 5, none⟩) hb).trans (h.al k hk).2⟩
end
theorem mark_set (R : List Value) (j : Nat) (x : Value) (h : j < R.length) : (List.replicate j x ++ R.drop j).set j x = List.replicate (j + 1) x ++ R.drop (j + 1) := by
  obtain ⟨r, rs, hr⟩ : ∃ r rs, R.drop j = r :: rs := by
    cases hd : R.drop j with
    | nil => have := congrArg List.length hd; rw [List.length_drop] at this; simp at this; omega
    | cons r rs => exact ⟨r, rs, rfl⟩
  have h2 : R.drop (j + 1) = rs := by rw [← List.tail_drop, hr]; rfl
  rw [h2, hr, List.set_append, if_neg (by rw [List.length_replicate]; omega), List.length_replicate, Nat.sub_self, List.set_cons_zero, List.replicate_succ', List.append_assoc]
  rfl
theorem S0.same {w : World} {τ : Nat → Nat} {B n ab : Nat} {sv dv : Nat → Value} {cs ds cs' ds' : Nat → List Value} (h : S0 w τ B n ab sv dv cs ds) (h1 : cs = cs') (h2 : ds = ds') : S0 w τ B n ab sv dv cs' ds' := by subst h1 h2; exact h
/-- The form of a list of one's own. -/
theorem Ow.form {w : World} {τ : Nat → Nat} {B t e n : Nat} {v : Value} {xs : List Value} (h : Ow w τ B t e 1 v n xs) : ∃ sa sc, v = .slice sa n sc ∧ (0 < n → ∃ g, sa = some ⟨g, 0, none⟩ ∧ B ≤ g) := by
  rcases row_form h.own with ⟨h0, h1⟩ | ⟨g, cap, h1, h2, h3⟩
  · exact ⟨none, 0, by rw [h1, h0], fun h => by omega⟩
  · exact ⟨_, cap, h1, fun _ => ⟨g, rfl, h2⟩⟩
theorem rdc_one (w : World) (x : Value) (t : Nat) : RdC (w.alloc (.cells #[x] t)) (.slice (some ⟨w.heap.size, 0, none⟩) 1 1) 1 [x] := by
  refine ⟨some ⟨w.heap.size, 0, none⟩, 1, rfl, (fun h => by cases h), fun ad ha j c hj => ?_⟩
  cases ha
  match j, hj with
  | 0, hj => simp at hj; subst hj; simp [Addr.add, World.cell?_alloc_at]
theorem run_append_tag (w : World) (B t ty e : Nat) (i : TypeInfo) (z : Value) (size bytes : Nat) (h1 : Tryd.prog.underlying t = some (.slice e)) (h2 : Tryd.prog.info? e = some i) (h3 : i.zero = some z) (h4 : i.size = size) (h5 : i.bytes = bytes) (h6 : z.cells.size = size) (h7 : 0 < size)
    (v : Value) (n : Nat) (xs : List Value) (hown : w.ownsRow B e size v n xs) (ad : Addr) (m cap : Nat) (news : List Value) (hn : news.length = m * size) (hcells : ∀ j c, news[j]? = some c → w.cell? (ad.add j) = some c) (h1c : ∀ u ∈ news, u.oneCell' = true)
    (b1 : n + m ≤ maxLen) (b2 : (n + m) * bytes ≤ 140737488355328) (hB : B ≤ w.heap.size) : ∃ v' w', (Builtin.append_ #[t, t] ty #[v, .slice (some ad) m cap]).run Tryd.prog w = .ok v' w' ∧ Ap2 w w' B e size v v' (n + m) (xs ++ news) := by
  have hown0 := hown
  obtain ⟨g1, g2⟩ := hown
  rcases g2 with ⟨rfl, rfl⟩ | ⟨g, cp, cur, rfl, hgb, hh, hc⟩
  · have hxs : xs = [] := List.length_eq_zero_iff.1 (by omega)
    subst hxs
    obtain ⟨v', w', hrun, r1, r2, _⟩ := run_append_own (P := Tryd.prog) w w.heap.size t ty e i z size bytes h1 h2 h3 h4 h5 h6 h7 _ 0 [] (World.ownsRow_nil _ _ _ _) ad m cap news hn hcells h1c b1 b2 (Nat.le_refl _)
    exact ⟨v', w', hrun, ⟨r1.mono hB, .inr ⟨r2, fun k hk => (r1.lt k hk).1⟩⟩⟩
  · by_cases hfit : n + m ≤ cp
    · obtain ⟨w', hrun, r1, r2⟩ := run_append_fits (P := Tryd.prog) w B t ty e i size h1 h2 h4 g n cp xs hown0 ad m cap news hn hcells h1c hfit
      exact ⟨_, w', hrun, ⟨r1, .inl ⟨rfl, r2⟩⟩⟩
    · obtain ⟨v', w', hrun, r1, r2⟩ := run_append_arg_grows (P := Tryd.prog) w t ty e i z size bytes h1 h2 h3 h4 h5 h6 h7 ⟨g, 0, none⟩ n cp xs g1 (hown0.cells rfl) ad m cap news hn hcells (by omega) b1 b2
      exact ⟨v', w', hrun, ⟨r1.mono hB, .inr ⟨r2, fun k hk => (r1.lt k hk).1⟩⟩⟩
/-- One text more, in a region that draws its order. -/
theorem step_app_S (w : World) {ops : Array Oper} {o : Oper} {a : Act} {K : Act → World → Prop} {Q : Exit → Act → World → Prop} {E : Prop} (hgd : o.guard = none)
    (s x : Operand) (hop : o.op = Op.call { callee := Callee.builtin Builtin.append, args := #[s, x], argTypes := #[22, 22] })
    (B : Nat) (v : Value) (n : Nat) (xs : List Value) (hs : a.eval s = v) (hown : w.ownsRow B 9 1 v n xs) (ad : Addr) (cap : Nat) (y : Value) (hx : a.eval x = .slice (some ad) 1 cap) (hr : w.cell? ad = some y) (h1c : y.oneCell' = true)
    (hlen : n + 1 ≤ 1048576) (hB : B ≤ w.heap.size)
    (hK : ∀ v' w', Ap2 w w' B 9 1 v v' (n + 1) (xs ++ [y]) → K (a.put o.dst v') w') : if Region.wanted o (yielded ops a.tmps) = true then Oper.wp Tryd.prog o a w K Q else E := by
  have hw : Region.wanted o (yielded ops a.tmps) = true := by simp [Region.wanted, hgd]
  rw [if_pos hw]
  obtain ⟨i0, hi, hz0, hz1, hz2⟩ := info_parts Tryd.infoS
  obtain ⟨v', w', hrun, r1⟩ := run_append_tag w B 22 o.type 9 i0 (.string ByteArray.empty) 1 16 Tryd.underlying22 hi hz0 hz1 hz2 rfl (by decide) v n xs hown ad 1 cap [y] rfl (fun j c hj => by
    match j, hj with
    | 0, hj => simp at hj; subst hj; simpa [Addr.add] using hr) (by intro u hu; simp at hu; subst hu; exact h1c) (by unfold maxLen; omega) (by omega) hB
  unfold Oper.wp
  simp [execOp, hop, resolve, invoke, builtin, hs, hx, hrun, Result.andThen]
  exact hK v' w' r1
section
variable (w : World) {ops : Array Oper} {rest : List Oper} {o : Oper} {a : Act} {Q : Exit → Act → World → Prop}
theorem wpList_app_U (hg : o.guard = none) (s x : Operand) (hop : o.op = Op.call { callee := Callee.builtin Builtin.append, args := #[s, x], argTypes := #[24, 24] }) (B : Nat) (v : Value) (n : Nat) (xs : List Value) (hs : a.eval s = v) (hown : w.ownsRow B 23 1 v n xs) (u y : Value) (hx : a.eval x = u) (hr : RdC w u 1 [y]) (h1c : y.oneCell' = true) (hlen : n + 1 ≤ 1048576) (hB : B ≤ w.heap.size) (hK : ∀ v' w', Ap2 w w' B 23 1 v v' (n + 1) (xs ++ [y]) → wpList Tryd.prog ops Q rest (a.put o.dst v') w') : wpList Tryd.prog ops Q (o :: rest) a w := by
  obtain ⟨i0, hi, hz0, hz1, hz2⟩ := info_parts Cv.Tryd.infoU
  exact wpList_append_tag w hg s x _ hop B 23 i0 (.int .u64 0) 1 8 Tryd.underlying24 hi hz0 hz1 hz2 rfl (by decide) v n xs hs hown u 1 [y] hx hr rfl (by intro u hu; simp at hu; subst hu; exact h1c) (by unfold maxLen; omega) (by omega) hB hK
theorem wpList_app_S (hg : o.guard = none) (s x : Operand) (hop : o.op = Op.call { callee := Callee.builtin Builtin.append, args := #[s, x], argTypes := #[22, 22] }) (B : Nat) (v : Value) (n : Nat) (xs : List Value) (hs : a.eval s = v) (hown : w.ownsRow B 9 1 v n xs) (u y : Value) (hx : a.eval x = u) (hr : RdC w u 1 [y]) (h1c : y.oneCell' = true) (hlen : n + 1 ≤ 1048576) (hB : B ≤ w.heap.size) (hK : ∀ v' w', Ap2 w w' B 9 1 v v' (n + 1) (xs ++ [y]) → wpList Tryd.prog ops Q rest (a.put o.dst v') w') : wpList Tryd.prog ops Q (o :: rest) a w := by
  obtain ⟨i0, hi, hz0, hz1, hz2⟩ := info_parts Tryd.infoS
  exact wpList_append_tag w hg s x _ hop B 9 i0 (.string ByteArray.empty) 1 16 Tryd.underlying22 hi hz0 hz1 hz2 rfl (by decide) v n xs hs hown u 1 [y] hx hr rfl (by intro u hu; simp at hu; subst hu; exact h1c) (by unfold maxLen; omega) (by omega) hB hK
end
/-- Two lists side by side in their row. -/
def Pw (w : World) (p T : Nat) (Z : Nat → Value) : Prop := w.heap[p]? = some (.cells #[Z 0, Z 1] T (0, 0))
section
variable {w w' : World} {p T : Nat} {Z : Nat → Value}
theorem Pw.lt (h : Pw w p T Z) : p < w.heap.size := (Array.getElem?_eq_some_iff.1 h).1
theorem Pw.at (h : Pw w p T Z) {i : Nat} (hi : i < 2) : w.cell? ⟨p, i, none⟩ = some (Z i) ∧ w.frozen? ⟨p, i, none⟩ = false := by
  refine ⟨?_, frozen_of_row w p i _ _ h⟩
  rw [cell_of_row w p i _ _ (0, 0) h]
  match i, hi with
  | 0, _ => rfl
  | 1, _ => rfl
theorem Pw.set (h : Pw w p T Z) {i : Nat} (hi : i < 2) (x : Value) : Pw (w.setCell ⟨p, i, none⟩ x) p T (upd Z i x) := by
  have := heap_setCell_same w p i _ _ x h
  match i, hi with
  | 0, _ => exact this
  | 1, _ => exact this
end
/-- The lists as they grow; two rows of them. -/
structure Gs (w : World) (τ : Nat → Nat) (B ab p q : Nat) (sv dv X Y Z U : Nat → Value) (b d : Nat → Nat) : Prop where
  s : ∀ i, i < 2 → Ow w τ B (3 + 2 * i) 23 1 (X i) (b i) (List.replicate (b i) (mU i))
  d : ∀ i, i < 2 → Ow w τ B (4 + 2 * i) 9 1 (Y i) (d i) (List.replicate (d i) (mS i))
  al : ∀ i, i < 2 → w.cell? ⟨ab, i * 6 + 4, none⟩ = some (sv i) ∧ w.cell? ⟨ab, i * 6 + 5, none⟩ = some (dv i)
  lo : τ ab = 0 ∧ ab < w.heap.size
  z : Pw w p 55 Z
  u : Pw w q 56 U
  tz : τ p = 1
  tu : τ q = 2
section
variable {w w' : World} {τ τ' : Nat → Nat} {B ab p q t : Nat} {sv dv X Y Z U : Nat → Value} {b d : Nat → Nat}
theorem Gs.next (h : Gs w τ B ab p q sv dv X Y Z U b d) (hb : Below w.heap.size w w') : Gs w' τ B ab p q sv dv X Y Z U b d :=
  ⟨fun i hi => (h.s i hi).next hb, fun i hi => (h.d i hi).next hb, fun i hi => ⟨(World.cell?_of_block (a := ⟨ab, i * 6 + 4, none⟩) (hb.block ab h.lo.2)).trans (h.al i hi).1, (World.cell?_of_block (a := ⟨ab, i * 6 + 5, none⟩) (hb.block ab h.lo.2)).trans (h.al i hi).2⟩, ⟨h.lo.1, Nat.lt_of_lt_of_le h.lo.2 hb.size⟩, (hb.block p h.z.lt).trans h.z, (hb.block q h.u.lt).trans h.u, h.tz, h.tu⟩
theorem alK {τ : Nat → Nat} {t ab : Nat} {sv dv : Nat → Value} (hs : Stp τ t w w') (ht : t ≠ 0) (lo : τ ab = 0 ∧ ab < w.heap.size) (al : ∀ i, i < 2 → w.cell? ⟨ab, i * 6 + 4, none⟩ = some (sv i) ∧ w.cell? ⟨ab, i * 6 + 5, none⟩ = some (dv i)) : ∀ i, i < 2 → w'.cell? ⟨ab, i * 6 + 4, none⟩ = some (sv i) ∧ w'.cell? ⟨ab, i * 6 + 5, none⟩ = some (dv i) := fun i hi => by
  have hb := hs.block ab lo.2 (by rw [lo.1]; omega)
  exact ⟨(World.cell?_of_block (a := ⟨ab, i * 6 + 4, none⟩) hb).trans (al i hi).1, (World.cell?_of_block (a := ⟨ab, i * 6 + 5, none⟩) hb).trans (al i hi).2⟩
theorem Gs.setZ (h : Gs w τ B ab p q sv dv X Y Z U b d) {i : Nat} (hi : i < 2) (x : Value) : Gs (w.setCell ⟨p, i, none⟩ x) τ B ab p q sv dv X Y (upd Z i x) U b d := by
  have hs := stp_set (w := w) h.tz i x
  exact ⟨fun k hk => (h.s k hk).keep hs (by omega) fun _ _ => rfl, fun k hk => (h.d k hk).keep hs (by omega) fun _ _ => rfl, alK hs (by omega) h.lo h.al, ⟨h.lo.1, by simpa using h.lo.2⟩, h.z.set hi x, (hs.block q h.u.lt (by rw [h.tu]; omega)).trans h.u, h.tz, h.tu⟩
theorem Gs.setU (h : Gs w τ B ab p q sv dv X Y Z U b d) {i : Nat} (hi : i < 2) (x : Value) : Gs (w.setCell ⟨q, i, none⟩ x) τ B ab p q sv dv X Y Z (upd U i x) b d := by
  have hs := stp_set (w := w) h.tu i x
  exact ⟨fun k hk => (h.s k hk).keep hs (by omega) fun _ _ => rfl, fun k hk => (h.d k hk).keep hs (by omega) fun _ _ => rfl, alK hs (by omega) h.lo h.al, ⟨h.lo.1, by simpa using h.lo.2⟩, (hs.block p h.z.lt (by rw [h.tz]; omega)).trans h.z, h.u.set hi x, h.tz, h.tu⟩
theorem Gs.appU (h : Gs w τ B ab p q sv dv X Y Z U b d) {i : Nat} (hi : i < 2) {v' : Value} (ha : Ap2 w w' B 23 1 (X i) v' (b i + 1) (List.replicate (b i) (mU i) ++ [mU i])) : Gs w' (ex τ w.heap.size (3 + 2 * i)) B ab p q sv dv (upd X i v') Y Z U (upd b i (b i + 1)) d := by
  have hs := ha.stp (h.s i hi).tag
  have hτ : ∀ b, b < w.heap.size → ex τ w.heap.size (3 + 2 * i) b = τ b := fun b hb => ex_lt hb
  refine ⟨fun k hk => ?_, fun k hk => (h.d k hk).keep hs (by omega) hτ, alK hs (by omega) h.lo h.al, ⟨by rw [hτ ab h.lo.2]; exact h.lo.1, Nat.lt_of_lt_of_le h.lo.2 hs.size⟩, (hs.block p h.z.lt (by rw [h.tz]; omega)).trans h.z, (hs.block q h.u.lt (by rw [h.tu]; omega)).trans h.u, by rw [hτ p h.z.lt]; exact h.tz, by rw [hτ q h.u.lt]; exact h.tu⟩
  by_cases e : k = i
  · subst e
    rw [upd_at, upd_at]
    have := (h.s k hk).app ha
    rwa [← List.replicate_succ'] at this
  · rw [upd_ne _ _ e, upd_ne _ _ e]
    exact (h.s k hk).keep hs (by omega) hτ
theorem Gs.appS (h : Gs w τ B ab p q sv dv X Y Z U b d) {i : Nat} (hi : i < 2) {v' : Value} (ha : Ap2 w w' B 9 1 (Y i) v' (d i + 1) (List.replicate (d i) (mS i) ++ [mS i])) : Gs w' (ex τ w.heap.size (4 + 2 * i)) B ab p q sv dv X (upd Y i v') Z U b (upd d i (d i + 1)) := by
  have hs := ha.stp (h.d i hi).tag
  have hτ : ∀ b, b < w.heap.size → ex τ w.heap.size (4 + 2 * i) b = τ b := fun b hb => ex_lt hb
  refine ⟨fun k hk => (h.s k hk).keep hs (by omega) hτ, fun k hk => ?_, alK hs (by omega) h.lo h.al, ⟨by rw [hτ ab h.lo.2]; exact h.lo.1, Nat.lt_of_lt_of_le h.lo.2 hs.size⟩, (hs.block p h.z.lt (by rw [h.tz]; omega)).trans h.z, (hs.block q h.u.lt (by rw [h.tu]; omega)).trans h.u, by rw [hτ p h.z.lt]; exact h.tz, by rw [hτ q h.u.lt]; exact h.tu⟩
  by_cases e : k = i
  · subst e
    rw [upd_at, upd_at]
    have := (h.d k hk).app ha
    rwa [← List.replicate_succ'] at this
  · rw [upd_ne _ _ e, upd_ne _ _ e]
    exact (h.d k hk).keep hs (by omega) hτ
end
/-- One of two. -/
def two {α : Type} (a b : α) : Nat → α := fun i => if i = 0 then a else b
/-- The marks as two proofs begin. -/
def t0 (s0 d0 s1 d1 : Value) : Nat → Nat := fun b => if s0.ownBlock = some b then 3 else if d0.ownBlock = some b then 4 else if s1.ownBlock = some b then 5 else if d1.ownBlock = some b then 6 else 0
theorem row_ne {w : World} {B B' e e' s s' n n' g : Nat} {v v' : Value} {xs xs' : List Value} (h : w.ownsRow B e s v n xs) (h' : w.ownsRow B' e' s' v' n' xs') (he : e ≠ e') (hg : v.ownBlock = some g) : v'.ownBlock ≠ some g := fun hg' => by
  obtain ⟨_, cur, hc⟩ := own_block h hg
  obtain ⟨_, cur', hc'⟩ := own_block h' hg'
  rw [hc] at hc'
  injection hc' with hc'
  injection hc' with _ h2 _
  exact he h2
theorem S0.start {w : World} {B B1 ab : Nat} {s0 d0 s1 d1 a0 b0 c0 e0 a1 b1 c1 e1 : Value} {x0 x1 y0 y1 : List Value} (o0 : w.ownsRow B 23 1 s0 x0.length x0) (o1 : w.ownsRow B 9 1 d0 y0.length y0) (o2 : w.ownsRow B1 23 1 s1 x1.length x1) (o3 : w.ownsRow B1 9 1 d1 y1.length y1) (l0 : ∀ g, s0.ownBlock = some g → g < B1) (l1 : ∀ g, d0.ownBlock = some g → g < B1) (hB : B ≤ B1)
    (hl : w.heap[ab]? = some (.cells #[a0, b0, c0, e0, s0, d0, a1, b1, c1, e1, s1, d1] 53 (0, 0))) : S0 w (t0 s0 d0 s1 d1) B 2 ab (two s0 s1) (two d0 d1) (two x0 x1) (two y0 y1) := by
  have z2 : ∀ {P : Nat → Prop}, P 0 → P 1 → ∀ i, i < 2 → P i := fun h0 h1 i hi => by
    match i, hi with
    | 0, _ => exact h0
    | 1, _ => exact h1
  have hab : ∀ {B e s n : Nat} {v : Value} {xs : List Value}, w.ownsRow B e s v n xs → e ≠ 53 → v.ownBlock ≠ some ab := fun h he hg => by
    obtain ⟨_, cur, hc⟩ := own_block h hg
    rw [hl] at hc
    injection hc with hc
    injection hc with _ h2 _
    exact he h2.symm
  refine ⟨z2 ⟨o0, fun g (hg : s0.ownBlock = some g) => by rw [t0, if_pos hg]⟩ ⟨o2.mono hB, fun g hg => ?_⟩, z2 ⟨o1, fun g hg => ?_⟩ ⟨o3.mono hB, fun g hg => ?_⟩, z2 ?_ ?_, fun _ => ⟨?_, (Array.getElem?_eq_some_iff.1 hl).1⟩⟩
  · have hg : s1.ownBlock = some g := hg
    have hge := (o2.lt g hg).1
    show t0 s0 d0 s1 d1 g = 5
    rw [t0, if_neg (fun h => by have := l0 g h; omega), if_neg (fun h => by have := l1 g h; omega), if_pos hg]
  · have hg : d0.ownBlock = some g := hg
    show t0 s0 d0 s1 d1 g = 4
    rw [t0, if_neg (row_ne o1 o0 (by decide) hg), if_pos hg]
  · have hg : d1.ownBlock = some g := hg
    have hge := (o3.lt g hg).1
    show t0 s0 d0 s1 d1 g = 6
    rw [t0, if_neg (fun h => by have := l0 g h; omega), if_neg (fun h => by have := l1 g h; omega), if_neg (row_ne o3 o2 (by decide) hg), if_pos hg]
  · exact ⟨by rw [cell_of_row w ab _ _ _ (0, 0) hl]; rfl, by rw [cell_of_row w ab _ _ _ (0, 0) hl]; rfl⟩
  · exact ⟨by rw [cell_of_row w ab _ _ _ (0, 0) hl]; rfl, by rw [cell_of_row w ab _ _ _ (0, 0) hl]; rfl⟩
  · rw [t0, if_neg (hab o0 (by decide)), if_neg (hab o1 (by decide)), if_neg (hab o2 (by decide)), if_neg (hab o3 (by decide))]
theorem Gs.start {w : World} {τ : Nat → Nat} {B ab : Nat} {sv dv : Nat → Value} {cs ds : Nat → List Value} {a c : Nat → Nat} (h : S0 w τ B 2 ab sv dv cs ds) (h1 : ∀ i, i < 2 → cs i = List.replicate (a i) (mU i)) (h2 : ∀ i, i < 2 → ds i = List.replicate (c i) (mS i)) :
    ∃ τ', Gs ((w.alloc (.cells #[.slice none 0 0, .slice none 0 0] 55)).alloc (.cells #[.slice none 0 0, .slice none 0 0] 56)) τ' B ab w.heap.size (w.heap.size + 1) sv dv sv dv (fun _ => .slice none 0 0) (fun _ => .slice none 0 0) a c := by
  have hb := bal (bal (Below.refl w.heap.size w) (.cells #[.slice none 0 0, .slice none 0 0] 55)) (.cells #[.slice none 0 0, .slice none 0 0] 56)
  obtain ⟨e1, e2⟩ := two_boxes w (.cells #[.slice none 0 0, .slice none 0 0] 55) (.cells #[.slice none 0 0, .slice none 0 0] 56)
  have hlo := h.lo (by decide)
  refine ⟨fun b => if b < w.heap.size then τ b else if b = w.heap.size then 1 else 2, fun i hi => ?_, fun i hi => ?_, (h.next hb).al, ⟨?_, ?_⟩, e1, e2, ?_, ?_⟩
  · have := (h.s i hi).keep (t' := 0) (stp_below hb) (by omega) (τ' := fun b => if b < w.heap.size then τ b else if b = w.heap.size then 1 else 2) fun b hb => if_pos hb
    rw [h1 i hi, List.length_replicate] at this
    exact this
  · have := (h.d i hi).keep (t' := 0) (stp_below hb) (by omega) (τ' := fun b => if b < w.heap.size then τ b else if b = w.heap.size then 1 else 2) fun b hb => if_pos hb
    rw [h2 i hi, List.length_replicate] at this
    exact this
  · show (if ab < w.heap.size then τ ab else _) = 0
    rw [if_pos hlo.2]; exact hlo.1
  · exact Nat.lt_of_lt_of_le hlo.2 hb.size
  · show (if w.heap.size < w.heap.size then _ else if w.heap.size = w.heap.size then 1 else 2) = 1
    rw [if_neg (Nat.lt_irrefl _), if_pos rfl]
  · show (if w.heap.size + 1 < w.heap.size then _ else if w.heap.size + 1 = w.heap.size then 1 else 2) = 2
    rw [if_neg (by omega), if_neg (by omega)]
/-- The first t have grown by 70. -/
def F4 (w0 wx : World) (B ab p q : Nat) (sv dv : Nat → Value) (al cl t : Nat) : Prop :=
  ∃ τ X Y Z U b d, Gs wx τ B ab p q sv dv X Y Z U b d ∧ (∀ k, k < 2 → (k < t → Z k = X k ∧ U k = Y k ∧ b k = al + 70 ∧ d k = cl + 70) ∧ (t ≤ k → X k = sv k ∧ Y k = dv k ∧ b k = al ∧ d k = cl)) ∧ Below B w0 wx
/-- The one at t is v, y (grown by h1, h2); z, u stand in the rows. -/
def F5 (w0 wx : World) (B ab p q : Nat) (sv dv : Nat → Value) (al cl t h1 h2 : Nat) (v y z u : Value) : Prop :=
  ∃ τ X Y Z U b d, Gs wx τ B ab p q sv dv X Y Z U b d ∧ (X t = v ∧ Y t = y ∧ Z t = z ∧ U t = u ∧ b t = al + h1 ∧ d t = cl + h2) ∧ (∀ k, k < 2 → (k < t → Z k = X k ∧ U k = Y k ∧ b k = al + 70 ∧ d k = cl + 70) ∧ (t < k → X k = sv k ∧ Y k = dv k ∧ b k = al ∧ d k = cl)) ∧ Below B w0 wx
section
variable {w0 wx w' : World} {B ab p q al cl t h1 h2 : Nat} {sv dv : Nat → Value} {v y z u : Value}
theorem F4.start {τ : Nat → Nat} {a c : Nat → Nat} (h : Gs wx τ B ab p q sv dv sv dv (fun _ => .slice none 0 0) (fun _ => .slice none 0 0) a c) (ha : ∀ k, a k = al) (hc : ∀ k, c k = cl) (hb : Below B w0 wx) : F4 w0 wx B ab p q sv dv al cl 0 :=
  ⟨τ, _, _, _, _, _, _, h, fun k _ => ⟨fun h => absurd h (Nat.not_lt_zero k), fun _ => ⟨rfl, rfl, ha k, hc k⟩⟩, hb⟩
theorem F4.open (h : F4 w0 wx B ab p q sv dv al cl t) (ht : t < 2) : ∃ z u, F5 w0 wx B ab p q sv dv al cl t 0 0 (sv t) (dv t) z u := by
  obtain ⟨τ, X, Y, Z, U, b, d, g, hk, hb⟩ := h
  obtain ⟨k1, k2, k3, k4⟩ := (hk t ht).2 (Nat.le_refl _)
  exact ⟨Z t, U t, τ, X, Y, Z, U, b, d, g, ⟨k1, k2, rfl, rfl, k3, k4⟩, fun k hk' => ⟨(hk k hk').1, fun h => (hk k hk').2 (by omega)⟩, hb⟩
theorem F5.shut (h : F5 w0 wx B ab p q sv dv al cl t 70 70 v y v y) : F4 w0 wx B ab p q sv dv al cl (t + 1) := by
  obtain ⟨τ, X, Y, Z, U, b, d, g, ⟨k1, k2, k3, k4, k5, k6⟩, hk, hb⟩ := h
  refine ⟨τ, X, Y, Z, U, b, d, g, fun k hk' => ⟨fun h => ?_, fun h => (hk k hk').2 (by omega)⟩, hb⟩
  by_cases e : k = t
  · subst e; exact ⟨by rw [k3, k1], by rw [k4, k2], k5, k6⟩
  · exact (hk k hk').1 (by omega)
theorem F5.next (h : F5 w0 wx B ab p q sv dv al cl t h1 h2 v y z u) (hb : Below wx.heap.size wx w') (hB : B ≤ w0.heap.size) : F5 w0 w' B ab p q sv dv al cl t h1 h2 v y z u := by
  obtain ⟨τ, X, Y, Z, U, b, d, g, k1, hk, hb0⟩ := h
  exact ⟨τ, X, Y, Z, U, b, d, g.next hb, k1, hk, hb0.trans (hb.mono (Nat.le_trans hB hb0.size))⟩
theorem F5.below (h : F5 w0 wx B ab p q sv dv al cl t h1 h2 v y z u) : Below B w0 wx := by
  obtain ⟨τ, X, Y, Z, U, b, d, g, k1, hk, hb0⟩ := h
  exact hb0
theorem F5.setZ (h : F5 w0 wx B ab p q sv dv al cl t h1 h2 v y z u) (ht : t < 2) (hp : B ≤ p) (x : Value) : F5 w0 (wx.setCell ⟨p, t, none⟩ x) B ab p q sv dv al cl t h1 h2 v y x u := by
  obtain ⟨τ, X, Y, Z, U, b, d, g, ⟨k1, k2, k3, k4, k5, k6⟩, hk, hb⟩ := h
  refine ⟨τ, X, Y, _, U, b, d, g.setZ ht x, ⟨k1, k2, upd_at _ _ _, k4, k5, k6⟩, fun k hk' => ⟨fun h => ?_, (hk k hk').2⟩, hb.setCell hp x⟩
  rw [upd_ne _ _ (by omega)]; exact (hk k hk').1 h
theorem F5.setU (h : F5 w0 wx B ab p q sv dv al cl t h1 h2 v y z u) (ht : t < 2) (hp : B ≤ q) (x : Value) : F5 w0 (wx.setCell ⟨q, t, none⟩ x) B ab p q sv dv al cl t h1 h2 v y z x := by
  obtain ⟨τ, X, Y, Z, U, b, d, g, ⟨k1, k2, k3, k4, k5, k6⟩, hk, hb⟩ := h
  refine ⟨τ, X, Y, Z, _, b, d, g.setU ht x, ⟨k1, k2, k3, upd_at _ _ _, k5, k6⟩, fun k hk' => ⟨fun h => ?_, (hk k hk').2⟩, hb.setCell hp x⟩
  rw [upd_ne _ _ (by omega)]; exact (hk k hk').1 h
theorem F5.ownU (h : F5 w0 wx B ab p q sv dv al cl t h1 h2 v y z u) (ht : t < 2) : wx.ownsRow B 23 1 v (al + h1) (List.replicate (al + h1) (mU t)) := by
  obtain ⟨τ, X, Y, Z, U, b, d, g, ⟨k1, k2, k3, k4, k5, k6⟩, hk, hb⟩ := h
  have := (g.s t ht).own
  rwa [k1, k5] at this
theorem F5.ownS (h : F5 w0 wx B ab p q sv dv al cl t h1 h2 v y z u) (ht : t < 2) : wx.ownsRow B 9 1 y (cl + h2) (List.replicate (cl + h2) (mS t)) := by
  obtain ⟨τ, X, Y, Z, U, b, d, g, ⟨k1, k2, k3, k4, k5, k6⟩, hk, hb⟩ := h
  have := (g.d t ht).own
  rwa [k2, k6] at this
theorem F5.cells (h : F5 w0 wx B ab p q sv dv al cl t h1 h2 v y z u) (ht : t < 2) : wx.cell? ⟨p, t, none⟩ = some z ∧ wx.frozen? ⟨p, t, none⟩ = false ∧ wx.cell? ⟨q, t, none⟩ = some u ∧ wx.frozen? ⟨q, t, none⟩ = false ∧ wx.cell? ⟨ab, t * 6 + 4, none⟩ = some (sv t) ∧ wx.cell? ⟨ab, t * 6 + 5, none⟩ = some (dv t) := by
  obtain ⟨τ, X, Y, Z, U, b, d, g, ⟨k1, k2, k3, k4, k5, k6⟩, hk, hb⟩ := h
  have c1 := g.z.at ht
  have c2 := g.u.at ht
  rw [k3] at c1
  rw [k4] at c2
  exact ⟨c1.1, c1.2, c2.1, c2.2, g.al t ht⟩
theorem F5.appU {v' : Value} (h : F5 w0 wx B ab p q sv dv al cl t h1 h2 v y z u) (ht : t < 2) (hB : B ≤ w0.heap.size) (ha : Ap2 wx w' B 23 1 v v' (al + h1 + 1) (List.replicate (al + h1) (mU t) ++ [mU t])) : F5 w0 w' B ab p q sv dv al cl t (h1 + 1) h2 v' y z u := by
  obtain ⟨τ, X, Y, Z, U, b, d, g, ⟨k1, k2, k3, k4, k5, k6⟩, hk, hb⟩ := h
  rw [← k1, ← k5] at ha
  refine ⟨_, _, Y, Z, U, _, d, g.appU ht ha, ⟨upd_at _ _ _, k2, k3, k4, by rw [upd_at, k5]; rfl, k6⟩, fun k hk' => ⟨fun h => ?_, fun h => ?_⟩, ha.below hb (g.s t ht).own (Nat.le_trans hB hb.size)⟩
  · rw [upd_ne _ _ (by omega), upd_ne _ _ (by omega)]; exact (hk k hk').1 h
  · rw [upd_ne _ _ (by omega), upd_ne _ _ (by omega)]; exact (hk k hk').2 h
theorem F5.appS {y' : Value} (h : F5 w0 wx B ab p q sv dv al cl t h1 h2 v y z u) (ht : t < 2) (hB : B ≤ w0.heap.size) (ha : Ap2 wx w' B 9 1 y y' (cl + h2 + 1) (List.replicate (cl + h2) (mS t) ++ [mS t])) : F5 w0 w' B ab p q sv dv al cl t h1 (h2 + 1) v y' z u := by
  obtain ⟨τ, X, Y, Z, U, b, d, g, ⟨k1, k2, k3, k4, k5, k6⟩, hk, hb⟩ := h
  rw [← k2, ← k6] at ha
  refine ⟨_, X, _, Z, U, b, _, g.appS ht ha, ⟨k1, upd_at _ _ _, k3, k4, k5, by rw [upd_at, k6]; rfl⟩, fun k hk' => ⟨fun h => ?_, fun h => ?_⟩, ha.below hb (g.d t ht).own (Nat.le_trans hB hb.size)⟩
  · rw [upd_ne _ _ (by omega), upd_ne _ _ (by omega)]; exact (hk k hk').1 h
  · rw [upd_ne _ _ (by omega), upd_ne _ _ (by omega)]; exact (hk k hk').2 h
/-- What is read in the end. -/
theorem F4.readU (h : F4 w0 wx B ab p q sv dv al cl 2) {i : Nat} (hi : i < 2) : ∃ gx cx, ∀ W, Below wx.heap.size wx W → W.cell? ⟨p, i, none⟩ = some (.slice (some ⟨gx, 0, none⟩) (al + 70) cx) ∧ ∀ j, j < al + 70 → W.cell? ⟨gx, j, none⟩ = some (mU i) := by
  obtain ⟨τ, X, Y, Z, U, b, d, g, hk, hb⟩ := h
  obtain ⟨k1, k2, k3, k4⟩ := (hk i hi).1 hi
  have ho := (g.s i hi).own
  rw [k3] at ho
  rcases row_form ho with ⟨h0, _⟩ | ⟨gx, cx, ex', _, lx⟩
  · omega
  refine ⟨gx, cx, fun W hW => ⟨?_, fun j hj => ?_⟩⟩
  · have := (g.z.at hi).1
    rw [k1, ex'] at this
    exact (World.cell?_of_block (a := ⟨p, i, none⟩) (hW.block p g.z.lt)).trans this
  · exact (World.cell?_of_block (a := ⟨gx, j, none⟩) (hW.block gx lx)).trans (row_at ho (by rw [ex']; rfl) (rep_at hj)).1
theorem F4.readS (h : F4 w0 wx B ab p q sv dv al cl 2) {i : Nat} (hi : i < 2) : ∃ gx cx, ∀ W, Below wx.heap.size wx W → W.cell? ⟨q, i, none⟩ = some (.slice (some ⟨gx, 0, none⟩) (cl + 70) cx) ∧ ∀ j, j < cl + 70 → W.cell? ⟨gx, j, none⟩ = some (mS i) := by
  obtain ⟨τ, X, Y, Z, U, b, d, g, hk, hb⟩ := h
  obtain ⟨k1, k2, k3, k4⟩ := (hk i hi).1 hi
  have ho := (g.d i hi).own
  rw [k4] at ho
  rcases row_form ho with ⟨h0, _⟩ | ⟨gx, cx, ex', _, lx⟩
  · omega
  refine ⟨gx, cx, fun W hW => ⟨?_, fun j hj => ?_⟩⟩
  · have := (g.u.at hi).1
    rw [k2, ex'] at this
    exact (World.cell?_of_block (a := ⟨q, i, none⟩) (hW.block q g.u.lt)).trans this
  · exact (World.cell?_of_block (a := ⟨gx, j, none⟩) (hW.block gx lx)).trans (row_at ho (by rw [ex']; rfl) (rep_at hj)).1
theorem F4.below (h : F4 w0 wx B ab p q sv dv al cl t) : Below B w0 wx := by
  obtain ⟨τ, X, Y, Z, U, b, d, g, hk, hb⟩ := h
  exact hb
end
end Go.Proofs.YtnbejijpmeklaaaDoor
/-
  BatchFresh: two proofs share nothing. Own work.
-/
namespace Go.Proofs.YtnbejijpmeklaaaDoor
open Go.RowKit
open Cv (RdC zl cU)
attribute [local go_sem ↓] Go.wp_at_zero Go.wp_at_succ
theorem conv_mk (w : World) (k : Nat) : (convert 54 9 (.slice (some ⟨w.heap.size, 0, none⟩) 2 2)).run Tryd.prog (w.alloc (.cells #[.int .u8 109, .int .u8 (k : Int)] 5)) = .ok (.string (mT k)) (w.alloc (.cells #[.int .u8 109, .int .u8 (k : Int)] 5)) :=
  conv_str _ _ [109, (k : Int)] 2 rfl (range_new w (cB [109, (k : Int)]) 5)
theorem conv_mkd (w : World) (k : Nat) : (convert 54 9 (.slice (some ⟨w.heap.size, 0, none⟩) 2 2)).run Tryd.prog (w.alloc (.cells #[.int .u8 109, .int .u8 (k : Int)] 5)).drew = .ok (.string (mT k)) (w.alloc (.cells #[.int .u8 109, .int .u8 (k : Int)] 5)).drew :=
  conv_str _ _ [109, (k : Int)] 2 rfl (by rw [World.rangeAt_drew]; exact range_new w (cB [109, (k : Int)]) 5)
theorem S0.drew {w : World} {τ : Nat → Nat} {B n ab : Nat} {sv dv : Nat → Value} {cs ds : Nat → List Value} (h : S0 w τ B n ab sv dv cs ds) : S0 w.drew τ B n ab sv dv cs ds := h.next ((Below.refl _ _).drew)
set_option maxRecDepth 100000 in
set_option maxHeartbeats 2000000 in
theorem fresh_no (w : World) (k : Int) (n : Nat) (la : Option Addr) (lb lo lc : Nat) (L : List ByteArray) (sa : Option Addr) (sb so sc : Nat) (S : List Nat) (h : Cs w k n la lb lo lc L sa sb so sc S) (hno : ¬ ((1 ≤ k ∧ k ≤ 32) ∧ ∀ s ∈ L.take 300, s.size ≤ 1048576)) :
    Calls Tryd.prog 6 #[vC k (.slice la L.length lc) n (.slice sa S.length sc)] w fun e w' => e = .returned (.bool true) ∧ Below w.heap.size w w' := by
  obtain ⟨o1, ho1⟩ : ∃ o1, oC k (.slice la L.length lc) n (.slice sa S.length sc) = o1 := ⟨_, rfl⟩
  have hb := bal (Below.refl w.heap.size w) o1
  have e1 : Cb (w.alloc o1) w.heap.size k (.slice la L.length lc) n (.slice sa S.length sc) := by rw [← ho1]; exact heap_alloc_new w _
  have HA := alive_any (w.alloc o1) (h.tb.next hb) (h.tr.next hb)
  have HH := hide (And.intro (h.next hb) (And.intro hb e1))
  rw [← ho1] at HA HH
  unfold oC at HA HH
  clear hb e1 ho1 h
  by_cases hk : 1 ≤ k ∧ k ≤ 32
  · have HF : Hid (∀ W, Below (w.alloc (oC k (.slice la L.length lc) n (.slice sa S.length sc))).heap.size (w.alloc (oC k (.slice la L.length lc) n (.slice sa S.length sc))) W → Calls Tryd.prog 9 #[vC k (.slice la L.length lc) n (.slice sa S.length sc)] W fun e w' => ∃ m, e = .returned (.pointer (some ⟨m + 1, 0, none⟩)) ∧ Below W.heap.size W w') := fun W hW => (cforest_ok W (HH.out.1.next hW).tb k hk.1 hk.2 la lb lo L.length lc L (HH.out.1.next hW).rl (by have := HH.out.1.lmax; omega) n sa S.length sc _ rfl).mono fun e w' ⟨m, h1, _, h3⟩ => ⟨m, h1, h3⟩
    have HG : Hid (∀ W, Below (w.alloc (oC k (.slice la L.length lc) n (.slice sa S.length sc))).heap.size (w.alloc (oC k (.slice la L.length lc) n (.slice sa S.length sc))) W → Calls Tryd.prog 10 #[vC k (.slice la L.length lc) n (.slice sa S.length sc)] W fun e w' => e = .returned (.bool false) ∧ Below W.heap.size W w') := fun W hW => cfit_any W k hk.1 hk.2 la lb lo L.length lc L (HH.out.1.next hW).rl (by have := HH.out.1.lmax; omega) n sa S.length sc false (decide_eq_false fun h => hno ⟨hk, h⟩)
    unfold oC vC at HF HG
    unfold vC
    clear hno hk
    go_enter Tryd.func6, Tryd.ntmps6
    go_wp2_with (first
      | (go_at_call 8; with_reducible refine HA.mono ?_; rintro e w1 ⟨rfl, hb1⟩; obtain ⟨c0, c1, c2, c3⟩ := (HH.out.2.2.next hb1).cells)
      | (go_at_call 9; with_reducible refine (HF.out _ hb1).mono ?_; rintro e w2 ⟨m, rfl, hb2⟩; obtain ⟨d0, d1, d2, d3⟩ := (HH.out.2.2.next (bnext hb1 hb2)).cells)
      | (go_at_call 10; with_reducible refine (HG.out _ (bnext hb1 hb2)).mono ?_; rintro e w3 ⟨rfl, hb3⟩))
    go_ret
    exact ⟨rfl, bnext (bnext (bnext HH.out.2.1 hb1) hb2) hb3⟩
  · have HF : Hid (∀ W, Calls Tryd.prog 9 #[vC k (.slice la L.length lc) n (.slice sa S.length sc)] W fun e w' => e = .returned (.pointer none) ∧ Below W.heap.size W w') := fun W => cforest_no W k (by omega) la L.length lc n sa S.length sc
    have HC : Hid (∀ W, Calls Tryd.prog 11 #[.int .i64 k] W fun e w' => e = .returned (.int .i64 70) ∧ W = w') := fun W => by
      have := refcheck_any W k
      rw [show chk k = 70 by rw [chk, if_pos (by omega)]] at this
      exact this.mono fun _ _ h => ⟨h.1, h.2.symm⟩
    unfold vC at HF
    unfold vC
    clear hno hk
    go_enter Tryd.func6, Tryd.ntmps6
    go_wp2_with (first
      | (go_at_call 8; with_reducible refine HA.mono ?_; rintro e w1 ⟨rfl, hb1⟩; obtain ⟨c0, c1, c2, c3⟩ := (HH.out.2.2.next hb1).cells)
      | (go_at_call 9; with_reducible refine (HF.out _).mono ?_; rintro e w2 ⟨rfl, hb2⟩; obtain ⟨d0, d1, d2, d3⟩ := (HH.out.2.2.next (bnext hb1 hb2)).cells)
      | (go_at_call 11; with_reducible refine (HC.out _).mono ?_; rintro e w3 ⟨rfl, rfl⟩))
    go_ret
    exact ⟨rfl, bnext (bnext HH.out.2.1 hb1) hb2⟩
set_option maxRecDepth 100000 in
set_option maxHeartbeats 8000000 in
theorem fresh_yes (w : World) (k : Int) (n : Nat) (la : Option Addr) (lb lo lc : Nat) (L : List ByteArray) (sa : Option Addr) (sb so sc : Nat) (S : List Nat) (h : Cs w k n la lb lo lc L sa sb so sc S) (hk : 1 ≤ k ∧ k ≤ 32) (hfit : ∀ s ∈ L.take 300, s.size ≤ 1048576) :
    Calls Tryd.prog 6 #[vC k (.slice la L.length lc) n (.slice sa S.length sc)] w fun e w' => e = .returned (.bool true) ∧ Below w.heap.size w w' := by
  obtain ⟨o1, ho1⟩ : ∃ o1, oC k (.slice la L.length lc) n (.slice sa S.length sc) = o1 := ⟨_, rfl⟩
  have hb := bal (Below.refl w.heap.size w) o1
  have e1 : Cb (w.alloc o1) w.heap.size k (.slice la L.length lc) n (.slice sa S.length sc) := by rw [← ho1]; exact heap_alloc_new w _
  have HA := alive_any (w.alloc o1) (h.tb.next hb) (h.tr.next hb)
  have HH := hide (And.intro (h.next hb) (And.intro hb e1))
  rw [← ho1] at HA HH
  clear hb e1 ho1 h
  obtain ⟨L', hL'⟩ : ∃ L', L.take 300 = L' := ⟨_, rfl⟩
  rw [hL'] at hfit
  have hl3 : L'.length = min L.length 300 := by rw [← hL', List.length_take, Nat.min_comm]
  have HF : Hid (∀ W, Below (w.alloc (oC k (.slice la L.length lc) n (.slice sa S.length sc))).heap.size (w.alloc (oC k (.slice la L.length lc) n (.slice sa S.length sc))) W → Calls Tryd.prog 9 #[vC k (.slice la L.length lc) n (.slice sa S.length sc)] W fun e w' => ∃ m, e = .returned (.pointer (some ⟨m + 1, 0, none⟩)) ∧ Frs w' m k L' ∧ Below W.heap.size W w') := fun W hW => cforest_ok W (HH.out.1.next hW).tb k hk.1 hk.2 la lb lo L.length lc L (HH.out.1.next hW).rl (by have := HH.out.1.lmax; omega) n sa S.length sc _ (by rw [hL']; exact tk_self hfit)
  have HG : Hid (∀ W, Below (w.alloc (oC k (.slice la L.length lc) n (.slice sa S.length sc))).heap.size (w.alloc (oC k (.slice la L.length lc) n (.slice sa S.length sc))) W → Calls Tryd.prog 10 #[vC k (.slice la L.length lc) n (.slice sa S.length sc)] W fun e w' => e = .returned (.bool true) ∧ Below W.heap.size W w') := fun W hW => cfit_any W k hk.1 hk.2 la lb lo L.length lc L (HH.out.1.next hW).rl (by have := HH.out.1.lmax; omega) n sa S.length sc true (decide_eq_true (by rw [hL']; exact hfit))
  have HRm : Hid (∀ W, Below (w.alloc (oC k (.slice la L.length lc) n (.slice sa S.length sc))).heap.size (w.alloc (oC k (.slice la L.length lc) n (.slice sa S.length sc))) W → Calls Tryd.prog 18 #[.slice sa S.length sc] W fun e w' => ∃ g c, e = .returned (.slice (some ⟨g, 0, none⟩) S.length c) ∧ Kp w' g c S ∧ Below W.heap.size W w') := fun W hW => (roomy_any W sa sb so sc S (HH.out.1.next hW).rs HH.out.1.snil HH.out.1.smax).mono fun e w' ⟨g, c, h1, h2, h3, h4⟩ => ⟨g, c, h1, kp_own h2 h3, h4⟩
  obtain ⟨kd, k', o, sz, S', D', e0, hS', hD', hDs, HP, HR⟩ := both k L' hfit (by omega) n S HH.out.1.smax
  have HPr := hide HP
  clear HP
  have HIt : Hid (∀ W, Calls Tryd.prog 13 #[vC k (.slice la L.length lc) n (.slice sa S.length sc)] W fun e w' => e = .returned (.slice la L'.length lc) ∧ Below W.heap.size W w') := fun W => citems_any W k la L.length lc n HH.out.1.lcap sa S.length sc L'.length hl3.symm
  have hLe : L.take L'.length = L' := by rw [hl3, Nat.min_comm, ← List.take_eq_take_min]; exact hL'
  have HRf : Hid (∀ W, Below (w.alloc (oC k (.slice la L.length lc) n (.slice sa S.length sc))).heap.size (w.alloc (oC k (.slice la L.length lc) n (.slice sa S.length sc))) W → Calls Tryd.prog 19 #[.int .i64 k, .slice la L'.length lc, .int .u64 (n : Int), .slice sa S.length sc] W (PfE W kd k' o sz S' D' e0)) := fun W hW => by
    have hC := HH.out.1.next hW
    have hc1 := HH.out.1.lcap
    exact HR W la lb lo lc sa sb so sc hC.tr (by have := hC.rl.take (n := L'.length) (by omega); rwa [hLe] at this) (by omega) hC.rs
  have HKe : Hid (∀ W g c, Kp W g c S → RdU W sa sb so S.length S → Calls Tryd.prog 21 #[.slice (some ⟨g, 0, none⟩) S.length c, .slice sa S.length sc] W fun e w' => e = .returned (.bool true) ∧ Below W.heap.size W w') := fun W g c h1 h2 => kept_any W g c sa sb so sc S h1 h2 HH.out.1.smax
  have HSm : Hid (∀ W ba bb bc bd be bf ca cb cc cd ce cf, RdU W ba bb 0 S'.length S' → RdU W ca cb 0 S'.length S' → RdS W bd be 0 D'.length D' → RdS W cd ce 0 D'.length D' → Calls Tryd.prog 20 #[.agg #[.int .i64 kd, .int .i64 k', .int .u64 (o : Int), .int .u64 (sz : Int), .slice ba S'.length bc, .slice bd D'.length bf], .agg #[.int .i64 kd, .int .i64 k', .int .u64 (o : Int), .int .u64 (sz : Int), .slice ca S'.length cc, .slice cd D'.length cf]] W fun e w' => e = .returned (.bool true) ∧ Below W.heap.size W w') := fun W ba bb bc bd be bf ca cb cc cd ce cf u1 u2 d1 d2 => same_yes W kd k' o sz ba bb 0 bc ca cb 0 cc S' u1 u2 (by omega) bd be 0 bf cd ce 0 cf D' d1 d2 (by omega)
  have HQ := hide (And.intro hS' (And.intro hD' hDs))
  unfold oC at HA HH
  unfold oC vC at HF HG
  unfold oC at HRm HRf
  unfold PfE at HPr HRf
  unfold vC at HIt
  unfold vC
  clear hk hfit hL' hl3 hLe hS' hD' hDs HR
  go_enter Tryd.func6, Tryd.ntmps6
  go_upto_region 6 with (first
    | (go_at_call 8; with_reducible refine HA.mono ?_; rintro e w1 ⟨rfl, hb1⟩; obtain ⟨c0, c1, c2, c3⟩ := (HH.out.2.2.next hb1).cells)
    | (go_at_call 9; with_reducible refine (HF.out _ hb1).mono ?_; rintro e w2 ⟨m, rfl, hF2, hb2⟩; obtain ⟨d0, d1, d2, d3⟩ := (HH.out.2.2.next (bnext hb1 hb2)).cells)
    | (go_at_call 10; with_reducible refine (HG.out _ (bnext hb1 hb2)).mono ?_; rintro e w6 ⟨rfl, hb3⟩; obtain ⟨f0, f1, f2, f3⟩ := (HH.out.2.2.next (bnext (bnext hb1 hb2) hb3)).cells))
  have hb16 := bnext (bnext hb1 hb2) hb3
  have HK : Hid (∀ W, Below w6.heap.size w6 W → Cs W k n la lb lo lc L sa sb so sc S ∧ Cb W w.heap.size k (.slice la L.length lc) n (.slice sa S.length sc) ∧ Frs W m k L' ∧ Below w.heap.size w W) := fun W hW =>
    ⟨HH.out.1.next (bnext hb16 hW), HH.out.2.2.next (bnext hb16 hW), hF2.next (bnext hb3 hW) (Nat.le_refl _), bnext HH.out.2.1 (bnext hb16 hW)⟩
  have HRg : Hid (∀ W, Below w6.heap.size w6 W → Calls Tryd.prog 19 #[.int .i64 k, .slice la L'.length lc, .int .u64 (n : Int), .slice sa S.length sc] W fun e w' => ∃ sa sb sc da db dc, e = .returned (.tuple #[.agg #[.int .i64 kd, .int .i64 k', .int .u64 (o : Int), .int .u64 (sz : Int), .slice sa S'.length sc, .slice da D'.length dc], .int .i64 (e0 : Int)]) ∧ RdU w' sa sb 0 S'.length S' ∧ RdS w' da db 0 D'.length D' ∧ Cv.Own w' W.heap.size (.slice sa S'.length sc) S' ∧ OwnS w' W.heap.size (.slice da D'.length dc) D' ∧ Below W.heap.size W w') := fun W hW => HRf.out W (bnext hb16 hW)
  have HRn : Hid (∀ W, Below w6.heap.size w6 W → Calls Tryd.prog 18 #[.slice sa S.length sc] W fun e w' => ∃ g c, e = .returned (.slice (some ⟨g, 0, none⟩) S.length c) ∧ Kp w' g c S ∧ Below W.heap.size W w') := fun W hW => HRm.out W (bnext hb16 hW)
  have HKd : Hid (∀ Z, Below w6.heap.size w6 Z → Z.cell? ⟨w.heap.size, 0, none⟩ = some (.int .i64 k) ∧ Z.cell? ⟨w.heap.size, 1, none⟩ = some (.slice la L.length lc) ∧ Z.cell? ⟨w.heap.size, 2, none⟩ = some (.int .u64 (n : Int)) ∧ Z.cell? ⟨w.heap.size, 3, none⟩ = some (.slice sa S.length sc)) := fun Z hZ => (HK.out Z hZ).2.1.cells
  clear hb16 hb1 hb2 hb3 c0 c1 c2 c3 d0 d1 d2 d3 f0 f1 f2 f3 hF2 HF HG HA HH HRm HRf
  obtain ⟨c0, c1, c2, c3⟩ := HKd.out w6 (Below.refl _ _)
  go_cut [4, 5] from 43 to 55 (fun x e wx => e = .int .i64 (e0 : Int) ∧ ∃ q7 ra rb rc ta tb tc, x = .pointer (some ⟨q7, 0, none⟩) ∧ Six wx q7 (.int .i64 kd) (.int .i64 k') (.int .u64 (o : Int)) (.int .u64 (sz : Int)) (.slice ra S'.length rc) (.slice ta D'.length tc) ∧ RdU wx ra rb 0 S'.length S' ∧ RdS wx ta tb 0 D'.length D' ∧ Below w6.heap.size w6 wx)
  case first =>
    go_region_held3 (fun Z => Z.cell? ⟨w.heap.size, 0, none⟩ = some (.int .i64 k) ∧ Z.cell? ⟨w.heap.size, 1, none⟩ = some (.slice la L.length lc) ∧ Z.cell? ⟨w.heap.size, 2, none⟩ = some (.int .u64 (n : Int)) ∧ Z.cell? ⟨w.heap.size, 3, none⟩ = some (.slice sa S.length sc))
      (exact HKd.out _ (by repeat (first | with_reducible refine below_put ?_ (by first | exact Nat.le_refl _ | exact s1) | with_reducible refine bal ?_ _ | with_reducible refine Below.drew ?_ | with_reducible exact Below.refl _ _ | with_reducible exact hbb6 | with_reducible exact hba6))) (first
      | (go_at_call 13; with_reducible refine (HIt.out _).mono ?_; rintro e wa ⟨rfl, hba⟩
         have hba6 : Below w6.heap.size w6 wa := by first | exact bnext (Below.refl _ _).drew hba | exact bnext (bal (Below.refl _ _) _).drew hba
         have s1 := hba6.size
         first | (have y1 := (six_newd w6 _ _ _ _ _ _).next hba) | skip)
      | (go_at_call 19; with_reducible refine (HRg.out _ (by repeat (first | with_reducible refine bal ?_ _ | with_reducible exact hba6))).mono ?_; rintro e wb ⟨ra, rb, rc, ta, tb, tc, rfl, hU7, hR7, hO7, hO8, hbb⟩
         have hbb6 : Below w6.heap.size w6 wb := by first | exact bnext hba6 hbb | exact bnext (bal hba6 _) hbb
         have s2 := hbb.size
         try rw [World.size_alloc] at s2
         first | (have x1 := y1.next hbb) | (have x1 := (six_new wa _ _ _ _ _ _).next hbb) | skip
         try have v1 := x1.lt
         try obtain ⟨k0, k1, k2, k3, k4, k5⟩ := x1.cells
         try have kf := x1.fz))
    all_goals
      go_wp2
      go_meet
      case rel =>
        go_light
        first
          | with_reducible exact ⟨rfl, _, ra, rb, rc, ta, tb, tc, rfl, six_new wb _ _ _ _ _ _, hU7.next (bal (Below.refl _ _) _), hR7.next (bal (Below.refl _ _) _) (Nat.le_refl _), bal hbb6 _⟩
          | (have hpp := pf_put x1 hO7 hO8 hR7.sz hbb6 (by first | exact Nat.le_refl _ | exact s1) (.int .i64 kd) (.int .i64 k') (.int .u64 (o : Int)) (.int .u64 (sz : Int)) (.slice ra S'.length rc) (.slice ta D'.length tc)
             unfold put6 at hpp
             obtain ⟨p1, ⟨rb', p2⟩, ⟨tb', p3⟩, p4⟩ := hpp
             with_reducible exact ⟨rfl, _, ra, rb', rc, ta, tb', tc, rfl, p1, p2, p3, p4⟩)
  case rest =>
    obtain ⟨rfl, q4, ra, rb, rc, ta, tb, tc, rfl, h4, hU4, hR4, hb4⟩ := hcut
    have hK := HK.out wc hb4
    obtain ⟨c0, c1, c2, c3⟩ := hK.2.1.cells
    clear HRg HIt
    go_upto_region 8 with (first
      | (go_at_call 18; with_reducible refine (HRn.out _ hb4).mono ?_; rintro e w7 ⟨g, c, rfl, hK7, hb7⟩))
    have HB : Hid (∀ W, Below w7.heap.size w7 W → Cs W k n la lb lo lc L sa sb so sc S ∧ Cb W w.heap.size k (.slice la L.length lc) n (.slice sa S.length sc) ∧ Frs W m k L' ∧ Six W q4 (.int .i64 kd) (.int .i64 k') (.int .u64 (o : Int)) (.int .u64 (sz : Int)) (.slice ra S'.length rc) (.slice ta D'.length tc) ∧ RdU W ra rb 0 S'.length S' ∧ RdS W ta tb 0 D'.length D' ∧ Kp W g c S ∧ Below w.heap.size w W) := fun W hW => by
      have hW4 := bnext hb7 hW
      obtain ⟨k1, k2, k3, k4⟩ := HK.out W (bnext hb4 hW4)
      exact ⟨k1, k2, k3, h4.next hW4, hU4.next hW4, hR4.next hW4 (Nat.le_refl _), hK7.next hW, k4⟩
    clear hK hb4 h4 hU4 hR4 c0 c1 c2 c3 hK7 hb7 HRn HK HKd
    obtain ⟨_, hc7, hf7, _, _, _, hk7, _⟩ := HB.out w7 (Below.refl _ _)
    obtain ⟨c0, c1, c2, c3⟩ := hc7.cells
    have HP7 := HPr.out w7 m (some ⟨g, 0, none⟩) g 0 c hf7 hk7.rd
    clear hc7 hf7 hk7
    go_upto_region 9 with (go_at_call 12; with_reducible refine (HP7).mono ?_; rintro e w8 ⟨pa, pb, pc, qa, qb, qc, rfl, hU8, hR8, hO8, hO8', hb8⟩)
    have h8 := six_new w8 (.int .i64 kd) (.int .i64 k') (.int .u64 (o : Int)) (.int .u64 (sz : Int)) (.slice pa S'.length pc) (.slice qa D'.length qc)
    have hb9 := bal (Below.refl w8.heap.size w8) (.cells #[.int .i64 kd, .int .i64 k', .int .u64 (o : Int), .int .u64 (sz : Int), .slice pa S'.length pc, .slice qa D'.length qc] 32)
    obtain ⟨w9, hw9⟩ : ∃ w9, w8.alloc (.cells #[.int .i64 kd, .int .i64 k', .int .u64 (o : Int), .int .u64 (sz : Int), .slice pa S'.length pc, .slice qa D'.length qc] 32) = w9 := ⟨_, rfl⟩
    rw [hw9] at h8 hb9 ⊢
    have hb79 := bnext hb8 hb9
    obtain ⟨_, hc9, hf9, _, _, _, hk9, _⟩ := HB.out w9 hb79
    obtain ⟨c0, c1, c2, c3⟩ := hc9.cells
    have HP9 := HPr.out w9 m (some ⟨g, 0, none⟩) g 0 c hf9 hk9.rd
    clear hc9 hf9 hk9 hw9 HP7
    have HL : Hid (RdU w9 pa pb 0 S'.length S' ∧ RdS w9 qa qb 0 D'.length D' ∧ Cv.Own w9 w7.heap.size (.slice pa S'.length pc) S' ∧ OwnS w9 w7.heap.size (.slice qa D'.length qc) D' ∧ Below w7.heap.size w7 w9 ∧ Six w9 w8.heap.size (.int .i64 kd) (.int .i64 k') (.int .u64 (o : Int)) (.int .u64 (sz : Int)) (.slice pa S'.length pc) (.slice qa D'.length qc)) := ⟨hU8.next hb9, hR8.next hb9 (Nat.le_refl _), row_next hO8 hb9, row_next hO8' hb9, hb79, h8⟩
    generalize w8.heap.size = q8 at *
    clear hU8 hR8 hO8 hO8' hb8 hb9 hb79 h8
    go_upto_region 10 with (go_at_call 12; with_reducible refine (HP9).mono ?_; rintro e w10 ⟨xa, xb, xc, ya, yb, yc, rfl, hU8, hR8, hO8, hO8', hb8⟩)
    have h8 := six_new w10 (.int .i64 kd) (.int .i64 k') (.int .u64 (o : Int)) (.int .u64 (sz : Int)) (.slice xa S'.length xc) (.slice ya D'.length yc)
    have hb9 := bal (Below.refl w10.heap.size w10) (.cells #[.int .i64 kd, .int .i64 k', .int .u64 (o : Int), .int .u64 (sz : Int), .slice xa S'.length xc, .slice ya D'.length yc] 32)
    obtain ⟨w11, hw11⟩ : ∃ w11, w10.alloc (.cells #[.int .i64 kd, .int .i64 k', .int .u64 (o : Int), .int .u64 (sz : Int), .slice xa S'.length xc, .slice ya D'.length yc] 32) = w11 := ⟨_, rfl⟩
    rw [hw11] at h8 hb9 ⊢
    have hb911 := bnext hb8 hb9
    have HM : Hid (∀ W, Below w11.heap.size w11 W → Cv.Own W w9.heap.size (.slice xa S'.length xc) S' ∧ OwnS W w9.heap.size (.slice ya D'.length yc) D' ∧ RdU W xa xb 0 S'.length S' ∧ RdS W ya yb 0 D'.length D' ∧ Six W w10.heap.size (.int .i64 kd) (.int .i64 k') (.int .u64 (o : Int)) (.int .u64 (sz : Int)) (.slice xa S'.length xc) (.slice ya D'.length yc) ∧ Cv.Own W w7.heap.size (.slice pa S'.length pc) S' ∧ OwnS W w7.heap.size (.slice qa D'.length qc) D' ∧ RdU W pa pb 0 S'.length S' ∧ RdS W qa qb 0 D'.length D' ∧ Six W q8 (.int .i64 kd) (.int .i64 k') (.int .u64 (o : Int)) (.int .u64 (sz : Int)) (.slice pa S'.length pc) (.slice qa D'.length qc) ∧ Below w7.heap.size w7 W) := fun W hW => by
      obtain ⟨l1, l2, l3, l4, l5, l6⟩ := HL.out
      have h9 := bnext hb9 hW
      have h11 := bnext hb911 hW
      exact ⟨row_next hO8 h9, row_next hO8' h9, hU8.next h9, hR8.next h9 (Nat.le_refl _), h8.next hW, row_next l3 h11, row_next l4 h11, l1.next h11, l2.next h11 (Nat.le_refl _), l6.next h11, bnext l5 h11⟩
    have HN : Hid ((∀ t, (Value.slice pa S'.length pc).ownBlock = some t → t < w9.heap.size) ∧ (∀ t, (Value.slice qa D'.length qc).ownBlock = some t → t < w9.heap.size) ∧ w7.heap.size ≤ w9.heap.size) := ⟨fun t ht => (World.ownsRow.lt HL.out.2.2.1 t ht).2, fun t ht => (World.ownsRow.lt HL.out.2.2.2.1 t ht).2, HL.out.2.2.2.2.1.size⟩
    generalize w10.heap.size = q10 at *
    clear hw11 hU8 hR8 hO8 hO8' hb8 hb9 hb911 h8 HL HP9 c0 c1 c2 c3
    obtain ⟨_, _, u3, u4, u5, _, _, u8, u9, u10, u11⟩ := HM.out w11 (Below.refl _ _)
    obtain ⟨_, _, _, b4, b5, b6, _, _⟩ := HB.out w11 u11
    obtain ⟨s0, s1, s2, s3, s4, s5⟩ := u10.cells
    obtain ⟨t0, t1, t2, t3, t4, t5⟩ := b4.cells
    have HS1 := HSm.out w11 pa pb pc qa qb qc ra rb rc ta tb tc u8 b5 u9 b6
    clear b4 b5 b6 u3 u4 u5 u8 u9 u10 u11
    go_upto_region 12 with (first
      | (go_at_call 20; with_reducible refine HS1.mono ?_; rintro e w12 ⟨rfl, hb12⟩
         obtain ⟨_, _, u3, u4, u5, _, _, u8, u9, u10, u11⟩ := HM.out w12 hb12
         obtain ⟨_, _, _, b4, b5, b6, _, _⟩ := HB.out w12 u11
         obtain ⟨s0, s1, s2, s3, s4, s5⟩ := u5.cells
         obtain ⟨t0, t1, t2, t3, t4, t5⟩ := b4.cells
         have HS2 := HSm.out w12 xa xb xc ya yb yc ra rb rc ta tb tc u3 b5 u4 b6)
      | (go_at_call 20; with_reducible refine HS2.mono ?_; rintro e w13 ⟨rfl, hb13⟩
         obtain ⟨s0, s1, s2, s3, s4, s5⟩ := (HM.out w13 (bnext hb12 hb13)).2.2.2.2.1.cells
         obtain ⟨t0, t1, t2, t3, t4, t5⟩ := (HM.out w13 (bnext hb12 hb13)).2.2.2.2.2.2.2.2.2.1.cells))
    have h13 := bnext hb12 hb13
    obtain ⟨m1, m2, _, _, _, m6, m7, _, _, _, m11⟩ := HM.out w13 h13
    clear HS1 HS2 HM hb12 hb13 h13 u3 u4 u5 u8 u9 u10 u11 b4 b5 b6
    go_upto_region 13 with (fail)
    have hl := heap_alloc_new w13 (.cells #[.int .i64 kd, .int .i64 k', .int .u64 (o : Int), .int .u64 (sz : Int), .slice pa S'.length pc, .slice qa D'.length qc, .int .i64 kd, .int .i64 k', .int .u64 (o : Int), .int .u64 (sz : Int), .slice xa S'.length xc, .slice ya D'.length yc] 53)
    have hbl := bal (Below.refl w13.heap.size w13) (.cells #[.int .i64 kd, .int .i64 k', .int .u64 (o : Int), .int .u64 (sz : Int), .slice pa S'.length pc, .slice qa D'.length qc, .int .i64 kd, .int .i64 k', .int .u64 (o : Int), .int .u64 (sz : Int), .slice xa S'.length xc, .slice ya D'.length yc] 53)
    obtain ⟨w14, hw14⟩ : ∃ w14, w13.alloc (.cells #[.int .i64 kd, .int .i64 k', .int .u64 (o : Int), .int .u64 (sz : Int), .slice pa S'.length pc, .slice qa D'.length qc, .int .i64 kd, .int .i64 k', .int .u64 (o : Int), .int .u64 (sz : Int), .slice xa S'.length xc, .slice ya D'.length yc] 53) = w14 := ⟨_, rfl⟩
    rw [hw14] at hl hbl ⊢
    have hS0 := S0.start (x0 := cU S') (x1 := cU S') (y0 := D'.map Value.string) (y1 := D'.map Value.string) (by rw [List.length_map]; exact row_next m6 hbl) (by rw [List.length_map]; exact row_next m7 hbl) (by rw [List.length_map]; exact row_next m1 hbl) (by rw [List.length_map]; exact row_next m2 hbl) HN.out.1 HN.out.2.1 HN.out.2.2 hl
    have HS0 : Hid (∃ τ sv dv cs ds, S0 w14 τ w7.heap.size 2 w13.heap.size sv dv cs ds ∧ (∀ k, k < 2 → (cs k).length = S'.length ∧ (ds k).length = D'.length) ∧ Below w7.heap.size w7 w14) := by
      refine ⟨_, _, _, _, _, hS0, fun k hk => ?_, bnext m11 hbl⟩
      match k, hk with
      | 0, _ => exact ⟨List.length_map _, List.length_map _⟩
      | 1, _ => exact ⟨List.length_map _, List.length_map _⟩
    generalize w13.heap.size = ab at *
    obtain ⟨τ, sv, dv, cs, ds, hS0'⟩ := HS0.out
    have HS1 := hide hS0'
    obtain ⟨al, hal⟩ : ∃ al, S'.length = al := ⟨_, rfl⟩
    obtain ⟨cl, hcl⟩ : ∃ cl, D'.length = cl := ⟨_, rfl⟩
    have hl3 : al ≤ 300 ∧ cl ≤ 24080 := by have := HQ.out; omega
    have hal3 : (al : Int) ≤ 300 := by omega
    have hcl3 : (cl : Int) ≤ 24080 := by omega
    have HL3 := hide hl3
    rw [hal, hcl] at HS1
    clear hS0' hS0 HS0 hl hbl hw14 m1 m2 m6 m7 m11 HN s0 s1 s2 s3 s4 s5 t0 t1 t2 t3 t4 t5 hl3 hal hcl
    obtain ⟨B, hB⟩ : ∃ B, w7.heap.size = B := ⟨_, rfl⟩
    rw [hB] at HS1
    have HBe := hide hB
    clear hB
    go_wp2
    go_loopg [12] 2 (fun gh ii wr => ∃ i : Nat, i ≤ 2 ∧ gh = 2 - i ∧ ii = .int .i64 (i : Int) ∧ Hid (∃ cs' ds', S0 wr τ B 2 ab sv dv cs' ds' ∧ (∀ k, k < 2 → (cs' k).length = al ∧ (ds' k).length = cl) ∧ (∀ k, k < i → cs' k = List.replicate al (mU k) ∧ ds' k = List.replicate cl (mS k)) ∧ Below B w7 wr))
    case atStart =>
      go_light
      exact ⟨0, Nat.zero_le _, rfl, rfl, cs, ds, HS1.out.1, HS1.out.2.1, fun k hk => absurd hk (Nat.not_lt_zero k), HS1.out.2.2⟩
    case round =>
      obtain ⟨i, hi, rfl, rfl, HI⟩ := hrel
      by_cases hlt : i < 2
      · have hz : (i : Int) < 2 := by omega
        have hz0 : (0 : Int) ≤ (i : Int) := Int.natCast_nonneg _
        obtain ⟨cs1, ds1, h1, h2, h3, hb⟩ := HI.out
        have hs1 := h1.s i hlt
        have hd1 := h1.d i hlt
        obtain ⟨l1, l2⟩ := h2 i hlt
        rw [l1] at hs1
        rw [l2] at hd1
        obtain ⟨va, vc, hsv, hsp⟩ := hs1.form
        obtain ⟨da, dc, hdv, hdp⟩ := hd1.form
        have e1 : IntKind.u64.wrap (900 + (i : Int)) = 900 + (i : Int) := by rw [IntKind.wrap_u64]; omega
        have e8 : IntKind.u8.wrap (i : Int) = (i : Int) := by simp [IntKind.wrap, IntKind.signed, IntKind.bits]; omega
        have HV : Hid (sv i = .slice va al vc ∧ (0 < al → ∃ g, va = some ⟨g, 0, none⟩ ∧ B ≤ g) ∧ dv i = .slice da cl dc ∧ (0 < cl → ∃ g, da = some ⟨g, 0, none⟩ ∧ B ≤ g) ∧ (cs1 i).length = al ∧ (ds1 i).length = cl ∧ i < 2) := ⟨hsv, hsp, hdv, hdp, l1, l2, hlt⟩
        have H1 : Hid (S0 wr τ B 2 ab sv dv cs1 ds1 ∧ (∀ k, k < 2 → (cs1 k).length = al ∧ (ds1 k).length = cl) ∧ (∀ k, k < i → cs1 k = List.replicate al (mU k) ∧ ds1 k = List.replicate cl (mS k)) ∧ Below B w7 wr) := ⟨h1, h2, h3, hb⟩
        clear h1 h2 h3 hb hs1 hd1 l1 l2 hsv hsp hdv hdp HI
        go_wp2
        go_loopg [13] al (fun gh jj wx => ∃ j : Nat, j ≤ al ∧ gh = al - j ∧ jj = .int .i64 (j : Int) ∧ Hid (S0 wx τ B 2 ab sv dv (upd cs1 i (List.replicate j (mU i) ++ (cs1 i).drop j)) ds1 ∧ Below B w7 wx))
        case atStart =>
          go_light
          exact ⟨0, Nat.zero_le _, rfl, rfl, by rw [List.replicate_zero, List.drop_zero, List.nil_append, upd_self]; exact H1.out.1, H1.out.2.2.2⟩
        case round =>
          obtain ⟨j, hj, rfl, rfl, HJ⟩ := hrel
          have q0 := (HJ.out.1.al i HV.out.2.2.2.2.2.2).1
          rw [HV.out.1] at q0
          by_cases hjl : j < al
          · have hjz : (j : Int) < (al : Int) := by omega
            have hj0 : (0 : Int) ≤ (j : Int) := Int.natCast_nonneg _
            obtain ⟨g', rfl, hgB⟩ := HV.out.2.1 (by omega)
            have hlen : (List.replicate j (mU i) ++ (cs1 i).drop j).length = al := by rw [List.length_append, List.length_replicate, List.length_drop, HV.out.2.2.2.2.1]; omega
            have hat := HJ.out.1.s i HV.out.2.2.2.2.2.2
            rw [upd_at] at hat
            obtain ⟨y, hy⟩ : ∃ y, (List.replicate j (mU i) ++ (cs1 i).drop j)[j]? = some y := ⟨_, List.getElem?_eq_getElem (by rw [hlen]; exact hjl)⟩
            obtain ⟨x1, x2⟩ := row_at hat.own (g := g') (by rw [HV.out.1]; rfl) hy
            have HN : Hid (S0 (wr.setCell ⟨g', j, none⟩ (.int .u64 (900 + (i : Int)))) τ B 2 ab sv dv (upd cs1 i (List.replicate (j + 1) (mU i) ++ (cs1 i).drop (j + 1))) ds1 ∧ Below B w7 (wr.setCell ⟨g', j, none⟩ (.int .u64 (900 + (i : Int)))) ∧ j < al) := by
              refine ⟨(HJ.out.1.setU (i := i) HV.out.2.2.2.2.2.2 HV.out.1 (j := j) (by rw [upd_at, hlen]; exact hjl) (mU i)).same ?_ rfl, HJ.out.2.setCell hgB _, hjl⟩
              rw [upd_upd, upd_at, mark_set _ _ _ (by rw [HV.out.2.2.2.2.1]; exact hjl)]
            clear hat hlen hgB hy hjl hj HJ
            go_wp2
            go_roundg (al - (j + 1))
            case rel =>
              go_light
              exact ⟨j + 1, HN.out.2.2, rfl, by go_num, HN.out.1, HN.out.2.1⟩
            case measure => go_light; have := HN.out.2.2; omega
          · obtain rfl : j = al := by omega
            have hjz : ¬ ((j : Int) < (j : Int)) := by omega
            have H2 : Hid (S0 wr τ B 2 ab sv dv (upd cs1 i (List.replicate j (mU i))) ds1 ∧ Below B w7 wr) := by
              refine ⟨HJ.out.1.same ?_ rfl, HJ.out.2⟩
              rw [List.drop_eq_nil_of_le (by rw [HV.out.2.2.2.2.1]; exact Nat.le_refl _), List.append_nil]
            clear HJ hjl hj
            go_wp2
            go_loopg [14] cl (fun gh jj wx => ∃ t : Nat, t ≤ cl ∧ gh = cl - t ∧ jj = .int .i64 (t : Int) ∧ Hid (S0 wx τ B 2 ab sv dv (upd cs1 i (List.replicate j (mU i))) (upd ds1 i (List.replicate t (mS i) ++ (ds1 i).drop t)) ∧ Below B w7 wx))
            case atStart =>
              go_light
              exact ⟨0, Nat.zero_le _, rfl, rfl, by rw [List.replicate_zero, List.drop_zero, List.nil_append, upd_self]; exact H2.out.1, H2.out.2⟩
            case round =>
              obtain ⟨t, ht, rfl, rfl, HJ⟩ := hrel
              have q1 := (HJ.out.1.al i HV.out.2.2.2.2.2.2).2
              rw [HV.out.2.2.1] at q1
              by_cases htl : t < cl
              · have htz : (t : Int) < (cl : Int) := by omega
                have ht0 : (0 : Int) ≤ (t : Int) := Int.natCast_nonneg _
                obtain ⟨g', rfl, hgB⟩ := HV.out.2.2.2.1 (by omega)
                have hlen : (List.replicate t (mS i) ++ (ds1 i).drop t).length = cl := by rw [List.length_append, List.length_replicate, List.length_drop, HV.out.2.2.2.2.2.1]; omega
                have HC : Hid (∀ W, Below wr.heap.size wr W → W.cell? ⟨ab, i * 6 + 5, none⟩ = some (.slice (some ⟨g', 0, none⟩) cl dc) ∧ (∃ y, W.cell? ⟨g', t, none⟩ = some y) ∧ W.frozen? ⟨g', t, none⟩ = false ∧ S0 (W.setCell ⟨g', t, none⟩ (.string (mT i))) τ B 2 ab sv dv (upd cs1 i (List.replicate j (mU i))) (upd ds1 i (List.replicate (t + 1) (mS i) ++ (ds1 i).drop (t + 1))) ∧ Below B w7 (W.setCell ⟨g', t, none⟩ (.string (mT i)))) := fun W hW => by
                  have hJ := HJ.out.1.next hW
                  have hat := hJ.d i HV.out.2.2.2.2.2.2
                  rw [upd_at] at hat
                  obtain ⟨x1, x2⟩ := row_at hat.own (g := g') (by rw [HV.out.2.2.1]; rfl) (List.getElem?_eq_getElem (show t < _ by rw [hlen]; exact htl))
                  refine ⟨by have := (hJ.al i HV.out.2.2.2.2.2.2).2; rw [HV.out.2.2.1] at this; exact this, ⟨_, x1⟩, x2, (hJ.setS (i := i) HV.out.2.2.2.2.2.2 HV.out.2.2.1 (j := t) (by rw [upd_at, hlen]; exact htl) (mS i)).same rfl ?_, (HJ.out.2.trans (hW.mono (Nat.le_trans (by rw [← HBe.out]; exact Nat.le_refl _) HJ.out.2.size))).setCell hgB _⟩
                  rw [upd_upd, upd_at, mark_set _ _ _ (by rw [HV.out.2.2.2.2.2.1]; exact htl)]
                have hd : Below wr.heap.size wr (wr.alloc (.cells #[.int .u8 109, .int .u8 (i : Int)] 5)) := bal (Below.refl _ _) _
                obtain ⟨p0, ⟨y0, p1⟩, p2, _, _⟩ := HC.out _ (Below.refl _ _)
                obtain ⟨r0, ⟨y1, r1⟩, r2, r3, r4⟩ := HC.out _ hd
                have HX := hide (And.intro r3.drew (And.intro r4.drew htl))
                have cv := fun W => conv_mkd W i
                clear hlen hgB HJ r3 r4 hd HC H2 q1 htl ht
                go_upto_region 23 with (fail)
                go_region
                go_wp2
                go_roundg (cl - (t + 1))
                case rel =>
                  go_light
                  exact ⟨t + 1, HX.out.2.2, rfl, by go_num, HX.out.1, HX.out.2.1⟩
                case measure => go_light; have := HX.out.2.2; omega
              · obtain rfl : t = cl := by omega
                have htz : ¬ ((t : Int) < (t : Int)) := by omega
                have H3 : Hid (∃ cs' ds', S0 wr τ B 2 ab sv dv cs' ds' ∧ (∀ k, k < 2 → (cs' k).length = j ∧ (ds' k).length = t) ∧ (∀ k, k < i + 1 → cs' k = List.replicate j (mU k) ∧ ds' k = List.replicate t (mS k)) ∧ Below B w7 wr) := by
                  obtain ⟨v1, v2, v3, v4, v5, v6, v9⟩ := HV.out
                  refine ⟨_, _, HJ.out.1, fun k hk => ?_, fun k hk => ?_, HJ.out.2⟩
                  · by_cases e : k = i
                    · subst e
                      rw [upd_at, upd_at, List.length_replicate, List.length_append, List.length_replicate, List.length_drop]
                      omega
                    · rw [upd_ne _ _ e, upd_ne _ _ e]; exact H1.out.2.1 k hk
                  · by_cases e : k = i
                    · subst e
                      rw [upd_at, upd_at, List.drop_eq_nil_of_le (by omega), List.append_nil]
                      exact ⟨rfl, rfl⟩
                    · rw [upd_ne _ _ e, upd_ne _ _ e]; exact H1.out.2.2.1 k (by omega)
                clear H1 H2 HV HJ htl ht
                go_wp2
                go_roundg (2 - (i + 1))
                case rel =>
                  go_light
                  exact ⟨i + 1, hlt, rfl, by go_num, H3.out⟩
                case measure => go_light; omega
      · obtain rfl : i = 2 := by omega
        have hz : ¬ (((2 : Nat) : Int) < 2) := by decide
        obtain ⟨cs1, ds1, h1, h2, h3, hb⟩ := HI.out
        obtain ⟨τ', hG⟩ := Gs.start (a := fun _ => al) (c := fun _ => cl) h1 (fun k hk => (h3 k hk).1) (fun k hk => (h3 k hk).2)
        have hbA := bal (bal (Below.refl wr.heap.size wr) (.cells #[.slice none 0 0, .slice none 0 0] 55)) (.cells #[.slice none 0 0, .slice none 0 0] 56)
        have hBw : B ≤ w7.heap.size := by rw [HBe.out]; exact Nat.le_refl _
        have hF := F4.start hG (fun _ => rfl) (fun _ => rfl) (hb.trans (hbA.mono (Nat.le_trans hBw hb.size)))
        have HB7 := hide hBw
        have HPq : Hid (B ≤ wr.heap.size ∧ B ≤ wr.heap.size + 1) := ⟨Nat.le_trans hBw hb.size, Nat.le_succ_of_le (Nat.le_trans hBw hb.size)⟩
        obtain ⟨W5, hW5⟩ : ∃ W5, (wr.alloc (.cells #[.slice none 0 0, .slice none 0 0] 55)).alloc (.cells #[.slice none 0 0, .slice none 0 0] 56) = W5 := ⟨_, rfl⟩
        rw [hW5] at hF
        have HF4 := hide hF
        clear h1 h2 h3 hb hG hbA hBw hF HI hlt hi
        go_upto_region 26 with (fail)
        try rw [hW5]
        clear hW5
        obtain ⟨pz, hpz⟩ : ∃ pz, wr.heap.size = pz := ⟨_, rfl⟩
        rw [hpz] at HF4 HPq ⊢
        clear hpz
        go_wp2
        go_loopg [17] 2 (fun gh ii wx => ∃ t : Nat, t ≤ 2 ∧ gh = 2 - t ∧ ii = .int .i64 (t : Int) ∧ Hid (F4 w7 wx B ab pz (pz + 1) sv dv al cl t))
        case atStart =>
          go_light
          exact ⟨0, Nat.zero_le _, rfl, rfl, HF4.out⟩
        case round =>
          obtain ⟨t, ht, rfl, rfl, HI⟩ := hrel
          clear HF4
          by_cases htl : t < 2
          · have htz : (t : Int) < 2 := by omega
            have ht0 : (0 : Int) ≤ (t : Int) := Int.natCast_nonneg _
            have HT := hide htl
            obtain ⟨z5, u5, hF5⟩ := HI.out.open htl
            obtain ⟨p0, f0, p1, f1, m4, m5⟩ := hF5.cells htl
            obtain ⟨va, vm, vc, hsv⟩ := Cv.own_slice (hF5.ownU htl)
            obtain ⟨da, dm, dc, hdv⟩ := Cv.own_slice (hF5.ownS htl)
            rw [hsv] at m4
            rw [hdv] at m5
            have hF6 := hF5.setZ htl HPq.out.1 (.slice va vm vc)
            obtain ⟨_, _, n1, g1, n4, n5⟩ := hF6.cells htl
            rw [hdv] at n5
            have hF7 := hF6.setU htl HPq.out.2 (.slice da dm dc)
            rw [hsv, hdv] at hF7
            have HF7 := hide hF7
            have e1 : IntKind.u64.wrap (900 + (t : Int)) = 900 + (t : Int) := by rw [IntKind.wrap_u64]; omega
            have e8 : IntKind.u8.wrap (t : Int) = (t : Int) := by simp [IntKind.wrap, IntKind.signed, IntKind.bits]; omega
            clear HI hF5 hF6 hF7 hsv hdv htl ht n4
            go_wp2
            go_loopg [18] 70 (fun gh hh wx => ∃ (h : Nat) (v y : Value), h ≤ 70 ∧ gh = 70 - h ∧ hh = .int .i64 (h : Int) ∧ Hid (F5 w7 wx B ab pz (pz + 1) sv dv al cl t h h v y v y))
            case atStart =>
              go_light
              exact ⟨0, _, _, by omega, rfl, rfl, HF7.out⟩
            case round =>
              obtain ⟨h, v, y, hh, rfl, rfl, HJ⟩ := hrel
              clear HF7 p0 f0 p1 f1 m4 m5 n1 g1 n5
              by_cases hhl : h < 70
              · have hhz : (h : Int) < 70 := by omega
                have hhz0 : (0 : Int) ≤ (h : Int) := Int.natCast_nonneg _
                obtain ⟨xa', xm, xc', rfl⟩ := Cv.own_slice (HJ.out.ownU HT.out)
                obtain ⟨ya', ym, yc', rfl⟩ := Cv.own_slice (HJ.out.ownS HT.out)
                obtain ⟨p0, f0, p1, f1, _, _⟩ := HJ.out.cells HT.out
                have HJ1 := hide (HJ.out.next (bal (Below.refl _ _) (.cells #[.int .u64 (900 + (t : Int))] 23)) HB7.out)
                clear HJ
                go_upto_region 35 with (at_builtin; refine wpList_app_U _ rfl _ _ rfl B _ (al + h) _ rfl (HJ1.out.ownU HT.out) (.slice (some ⟨wr.heap.size, 0, none⟩) 1 1) (mU t) rfl (rdc_one wr (mU t) 23) rfl ?c1 ?c2 ?_)
                case c1 => have := HL3.out; omega
                case c2 => exact Nat.le_trans HB7.out HJ1.out.below.size
                intro v9 w5 ha5
                have hJ2 := HJ1.out.appU HT.out HB7.out ha5
                obtain ⟨xa9, xm9, xc9, rfl⟩ := Cv.own_slice (hJ2.ownU HT.out)
                obtain ⟨p0, f0, _, _, _, _⟩ := hJ2.cells HT.out
                have hJ3 := hJ2.setZ HT.out HPq.out.1 (.slice xa9 xm9 xc9)
                have HJ3 := hide hJ3
                obtain ⟨w6', hw6'⟩ : ∃ w6', w5.setCell ⟨pz, t, none⟩ (.slice xa9 xm9 xc9) = w6' := ⟨_, rfl⟩
                rw [hw6'] at HJ3
                clear HJ1 ha5 hJ2 hJ3
                go_upto_region 35 with (fail)
                try rw [hw6']
                clear hw6' p0 f0 p1 f1
                have HJ4 : Hid (∀ W, Below w6'.heap.size w6' W → F5 w7 W B ab pz (pz + 1) sv dv al cl t (h + 1) h (.slice xa9 xm9 xc9) (.slice ya' ym yc') (.slice xa9 xm9 xc9) (.slice ya' ym yc')) := fun W hW => HJ3.out.next hW HB7.out
                obtain ⟨_, _, p1, f1, _, _⟩ := HJ3.out.cells HT.out
                obtain ⟨_, _, p2, f2, _, _⟩ := (HJ4.out _ ((Below.refl _ _).drew)).cells HT.out
                obtain ⟨_, _, p3, f3, _, _⟩ := (HJ4.out _ (bal (Below.refl _ _) (.cells #[.int .u8 109, .int .u8 (t : Int)] 5))).cells HT.out
                obtain ⟨_, _, p4, f4, _, _⟩ := (HJ4.out _ (bal (Below.refl _ _) (.cells #[.int .u8 109, .int .u8 (t : Int)] 5)).drew).cells HT.out
                have cv := conv_mkd w6' t
                have cv2 := conv_mk w6' t
                obtain ⟨_, _, p6, f6, _, _⟩ := (HJ4.out _ (bal (bal (Below.refl _ _) (.cells #[.int .u8 109, .int .u8 (t : Int)] 5)) (.cells #[.string (mT t)] 9))).cells HT.out
                have hb8 : Below w6'.heap.size w6' ((w6'.alloc (.cells #[.int .u8 109, .int .u8 (t : Int)] 5)).alloc (.cells #[.string (mT t)] 9)).drew := (bal (bal (Below.refl _ _) _) _).drew
                have HO : Hid (F5 w7 ((w6'.alloc (.cells #[.int .u8 109, .int .u8 (t : Int)] 5)).alloc (.cells #[.string (mT t)] 9)).drew B ab pz (pz + 1) sv dv al cl t (h + 1) h (.slice xa9 xm9 xc9) (.slice ya' ym yc') (.slice xa9 xm9 xc9) (.slice ya' ym yc') ∧ h < 70) := ⟨HJ4.out _ hb8, hhl⟩
                have hcl' : ((w6'.alloc (.cells #[.int .u8 109, .int .u8 (t : Int)] 5)).alloc (.cells #[.string (mT t)] 9)).drew.cell? ⟨w6'.heap.size + 1, 0, none⟩ = some (mS t) := by
                  have h1 := heap_alloc_new (w6'.alloc (.cells #[.int .u8 109, .int .u8 (t : Int)] 5)) (.cells #[.string (mT t)] 9)
                  rw [World.size_alloc] at h1
                  rw [cell_of_row ((w6'.alloc (.cells #[.int .u8 109, .int .u8 (t : Int)] 5)).alloc (.cells #[.string (mT t)] 9)).drew _ _ _ _ (0, 0) h1]; rfl
                have HCl := hide hcl'
                clear hcl' hb8 HJ4 HJ3 hhl hh
                go_region_law (first
                  | (refine step_app_S _ (by rfl) _ _ (by rfl) B _ (cl + h) (List.replicate (cl + h) (mS t)) (by rfl) (HO.out.1.ownS HT.out) ⟨w6'.heap.size + 1, 0, none⟩ 1 (mS t) (by rfl) HCl.out rfl (by have := HL3.out; have := HO.out.2; omega) (Nat.le_trans HB7.out HO.out.1.below.size) ?_; intro v' w8 ha; have hJ5 := HO.out.1.appS HT.out HB7.out ha; obtain ⟨ya9, ym9, yc9, rfl⟩ := Cv.own_slice (hJ5.ownS HT.out); obtain ⟨_, _, p5, f5, _, _⟩ := hJ5.cells HT.out; have HJ6 := hide (hJ5.setU HT.out HPq.out.2 (.slice ya9 ym9 yc9)); clear hJ5 ha))
                all_goals
                  go_wp2
                  go_simp
                  go_roundg (70 - (h + 1))
                  case rel =>
                    go_light
                    exact ⟨h + 1, _, _, HO.out.2, rfl, by go_num, HJ6.out⟩
                  case measure => go_light; have := HO.out.2; omega
              · obtain rfl : h = 70 := by omega
                have hhz : ¬ (((70 : Nat) : Int) < 70) := by decide
                have HJ4 := hide HJ.out.shut
                clear HJ hhl hh
                go_wp2
                go_roundg (2 - (t + 1))
                case rel =>
                  go_light
                  exact ⟨t + 1, HT.out, rfl, by go_num, HJ4.out⟩
                case measure => go_light; have := HT.out; omega
          · obtain rfl : t = 2 := by omega
            have htz : ¬ (((2 : Nat) : Int) < 2) := by decide
            obtain ⟨w3, hw3⟩ : ∃ w3, w3 = wr := ⟨_, rfl⟩
            subst hw3
            have HB3 : Hid (Below w7.heap.size w7 w3) := by have := HI.out.below; rw [← HBe.out] at this; exact this
            clear htl ht
            go_wp2
            go_loopg [19] 2 (fun gh ii wx => ∃ p : Nat, p ≤ 2 ∧ gh = 2 - p ∧ ii = .int .i64 (p : Int) ∧ Hid (Below w3.heap.size w3 wx))
            case atStart =>
              go_light
              exact ⟨0, Nat.zero_le _, rfl, rfl, Below.refl _ _⟩
            case round =>
              obtain ⟨p, hp, rfl, rfl, Hb⟩ := hrel
              by_cases hpl : p < 2
              · have hpz : (p : Int) < 2 := by omega
                have hp0 : (0 : Int) ≤ (p : Int) := Int.natCast_nonneg _
                obtain ⟨gx, cx, hR⟩ := HI.out.readU hpl
                obtain ⟨gy, cy, hR7⟩ := HI.out.readS hpl
                obtain ⟨bi, hbi⟩ : ∃ bi, al + 70 = bi := ⟨_, rfl⟩
                obtain ⟨di, hdi⟩ : ∃ di, cl + 70 = di := ⟨_, rfl⟩
                rw [hbi] at hR
                rw [hdi] at hR7
                have HU := hide hR
                have HD := hide hR7
                have e1 : IntKind.u64.wrap (900 + (p : Int)) = 900 + (p : Int) := by rw [IntKind.wrap_u64]; omega
                have e8 : IntKind.u8.wrap (p : Int) = (p : Int) := by simp [IntKind.wrap, IntKind.signed, IntKind.bits]; omega
                have hb60 : (bi : Int) ≤ 400 := by have := HL3.out; omega
                have hd60 : (di : Int) ≤ 24150 := by have := HL3.out; omega
                have HT := hide hpl
                clear hR hR7 hbi hdi hpl hp
                go_wp2
                go_loopg [20] bi (fun gh jj wx => ∃ j : Nat, j ≤ bi ∧ gh = bi - j ∧ jj = .int .i64 (j : Int) ∧ Hid (Below w3.heap.size w3 wx))
                case atStart =>
                  go_light
                  exact ⟨0, Nat.zero_le _, rfl, rfl, Hb.out⟩
                case round =>
                  obtain ⟨j, hj, rfl, rfl, Hbj⟩ := hrel
                  obtain ⟨q6, qx⟩ := HU.out wr Hbj.out
                  clear Hb
                  by_cases hjl : j < bi
                  · have hjz : (j : Int) < (bi : Int) := by omega
                    have hj0 : (0 : Int) ≤ (j : Int) := Int.natCast_nonneg _
                    have cxj := qx j hjl
                    rw [mU] at cxj
                    clear qx
                    go_wp2
                    go_roundg (bi - (j + 1))
                    case rel =>
                      go_light
                      exact ⟨j + 1, hjl, rfl, by go_num, Hbj.out⟩
                    case measure => go_light; omega
                  · obtain rfl : j = bi := by omega
                    have hjz : ¬ ((j : Int) < (j : Int)) := by omega
                    clear qx hjl hj
                    go_wp2
                    go_loopg [21] di (fun gh jj wx => ∃ r : Nat, r ≤ di ∧ gh = di - r ∧ jj = .int .i64 (r : Int) ∧ Hid (Below w3.heap.size w3 wx))
                    case atStart =>
                      go_light
                      exact ⟨0, Nat.zero_le _, rfl, rfl, Hbj.out⟩
                    case round =>
                      obtain ⟨r, hr, rfl, rfl, Hbr⟩ := hrel
                      obtain ⟨q7, qy⟩ := HD.out wr Hbr.out
                      clear Hbj q6
                      by_cases hrl : r < di
                      · have hrz : (r : Int) < (di : Int) := by omega
                        have hr0 : (0 : Int) ≤ (r : Int) := Int.natCast_nonneg _
                        have cyr := qy r hrl
                        rw [mS] at cyr
                        have hd : Below w3.heap.size w3 (wr.alloc (.cells #[.int .u8 109, .int .u8 (p : Int)] 5)) := bnext Hbr.out (bal (Below.refl _ _) _)
                        obtain ⟨q8, qy8⟩ := HD.out _ hd
                        have cyr8 := qy8 r hrl
                        rw [mS] at cyr8
                        have cv := fun W => conv_mkd W p
                        have HX := hide (And.intro hd.drew hrl)
                        generalize mT p = tx at *
                        clear qy qy8 hd HD HU hrl hr
                        go_upto_region 47 with (fail)
                        go_region
                        go_wp2
                        go_roundg (di - (r + 1))
                        case rel =>
                          go_light
                          exact ⟨r + 1, HX.out.2, rfl, by go_num, HX.out.1⟩
                        case measure => go_light; have := HX.out.2; omega
                      · obtain rfl : r = di := by omega
                        have hrz : ¬ ((r : Int) < (r : Int)) := by omega
                        clear qy hrl hr HU HD
                        go_wp2
                        go_roundg (2 - (p + 1))
                        case rel =>
                          go_light
                          exact ⟨p + 1, HT.out, rfl, by go_num, Hbr.out⟩
                        case measure => go_light; have := HT.out; omega
              · obtain rfl : p = 2 := by omega
                have hpz : ¬ (((2 : Nat) : Int) < 2) := by decide
                have hbw := bnext HB3.out Hb.out
                obtain ⟨_, hc9, hf9, _, _, _, hk9, _⟩ := HB.out wr hbw
                obtain ⟨c0, c1, c2, c3⟩ := hc9.cells
                have HP9 := HPr.out wr m (some ⟨g, 0, none⟩) g 0 c hf9 hk9.rd
                have HBw := hide hbw
                clear hc9 hf9 hk9 hbw hp hpl HI HL3 HB7 HPq HBe
                go_upto_region 50 with (go_at_call 12; with_reducible refine (HP9).mono ?_; rintro e w20 ⟨fa, fb, fc, ha, hb', hc, rfl, hU8, hR8, _, _, hb8⟩)
                have h8 := six_new w20 (.int .i64 kd) (.int .i64 k') (.int .u64 (o : Int)) (.int .u64 (sz : Int)) (.slice fa S'.length fc) (.slice ha D'.length hc)
                have hb9 := bal (Below.refl w20.heap.size w20) (.cells #[.int .i64 kd, .int .i64 k', .int .u64 (o : Int), .int .u64 (sz : Int), .slice fa S'.length fc, .slice ha D'.length hc] 32)
                obtain ⟨w21, hw21⟩ : ∃ w21, w20.alloc (.cells #[.int .i64 kd, .int .i64 k', .int .u64 (o : Int), .int .u64 (sz : Int), .slice fa S'.length fc, .slice ha D'.length hc] 32) = w21 := ⟨_, rfl⟩
                rw [hw21] at h8 hb9 ⊢
                have hb21 := bnext HBw.out (bnext hb8 hb9)
                obtain ⟨k1, k2, _, k4, k5, k6, k7, k8⟩ := HB.out w21 hb21
                obtain ⟨c0, c1, c2, c3⟩ := k2.cells
                obtain ⟨s0, s1, s2, s3, s4, s5⟩ := h8.cells
                obtain ⟨t0, t1, t2, t3, t4, t5⟩ := k4.cells
                have HS1 := HSm.out w21 fa fb fc ha hb' hc ra rb rc ta tb tc (hU8.next hb9) k5 (hR8.next hb9 (Nat.le_refl _)) k6
                have HB21 := hide hb21
                clear hw21 hU8 hR8 hb8 hb9 hb21 k1 k2 k4 k5 k6 k7 k8 h8 HSm HP9
                go_wp2_with (first
                  | (go_at_call 20; with_reducible refine HS1.mono ?_; rintro e w22 ⟨rfl, hb22⟩; have hK8 := HB.out w22 (bnext HB21.out hb22); obtain ⟨d0, d1, d2, d3⟩ := hK8.2.1.cells)
                  | (go_at_call 21; with_reducible refine (HKe.out _ _ _ hK8.2.2.2.2.2.2.1 hK8.1.rs).mono ?_; rintro e w23 ⟨rfl, hb23⟩))
                go_ret
                exact ⟨rfl, (HB.out w23 (bnext (bnext HB21.out hb22) hb23)).2.2.2.2.2.2.2⟩
theorem fresh_walk (w : World) (k : Int) (n : Nat) (la : Option Addr) (lb lo lc : Nat) (L : List ByteArray) (sa : Option Addr) (sb so sc : Nat) (S : List Nat) (h : Cs w k n la lb lo lc L sa sb so sc S) :
    Calls Tryd.prog 6 #[vC k (.slice la L.length lc) n (.slice sa S.length sc)] w fun e w' => e = .returned (.bool true) ∧ Below w.heap.size w w' := by
  by_cases h1 : (1 ≤ k ∧ k ≤ 32) ∧ ∀ s ∈ L.take 300, s.size ≤ 1048576
  · exact fresh_yes w k n la lb lo lc L sa sb so sc S h h1.1 h1.2
  · exact fresh_no w k n la lb lo lc L sa sb so sc S h h1
end Go.Proofs.YtnbejijpmeklaaaDoor
/-
  BatchFresh, as its row asks. Own work.
-/
namespace Go.Proofs.YtnbejijpmeklaaaDoor
theorem fresh_row (w : World) (ht : Tb w) (hr : Tr w) (k : Int) (n : Nat) (la : Option Addr) (lb lo lc : Nat) (L : List ByteArray) (rl : RdS w la lb lo L.length L) (hlc : L.length ≤ lc) (hL : L.length ≤ 8796093021952) (sa : Option Addr) (sb so sc : Nat) (S : List Nat) (rs : RdU w sa sb so S.length S) (hsc : S.length ≤ sc) (hS : S.length ≤ 17592186043904) (hns : sa = none → sc = 0) :
    Calls Tryd.prog 6 #[.agg #[.int .i64 k, .slice la L.length lc, .int .u64 (n : Int), .slice sa S.length sc]] w fun e w' => e = .returned (.bool true) ∧ Go.RowKit.Below w.heap.size w w' :=
  fresh_walk w k n la lb lo lc L sa sb so sc S ⟨ht, hr, rl, hlc, hL, rs, hsc, hS, hns⟩
end Go.Proofs.YtnbejijpmeklaaaDoor
