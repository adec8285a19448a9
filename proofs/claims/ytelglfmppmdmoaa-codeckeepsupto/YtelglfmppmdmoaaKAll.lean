/-
  KTag, KKeep, KGrow, KWalkA, KWalkB in one text. Own work.
-/
import Derived.Test.YtelglfmppmdmoaaGTail
import Derived.Test.YtelglfmppmdmoaaCoTail
import Derived.Deep.CutRange
import Derived.Test.YtelglfmppmdmoaaSWalkA
/-
  CodecKeeps: lists of one's own, each in blocks marked as its own (off batch's); the proofs while they are written over and grown. Own work.
-/
namespace Go.Proofs.Ytelglfmppmdmoaa
open Go.RowKit
open Cv (RdC cU)
attribute [local go_sem ↓] Go.wp_at_zero Go.wp_at_succ
theorem own_block {w : World} {B T s n : Nat} {y : Value} {cs : List Value} (h : w.ownsRow B T s y n cs) {g : Nat} (hg : y.ownBlock = some g) : B ≤ g ∧ ∃ cur, w.heap[g]? = some (.cells cur T (0, 0)) := by
  obtain ⟨_, h2⟩ := h
  rcases h2 with ⟨rfl, _⟩ | ⟨g', cap, cur, rfl, hb, hh, _⟩
  · cases hg
  · cases hg
    exact ⟨hb, cur, hh⟩
theorem row_ne {w : World} {B B' e e' s s' n n' g : Nat} {v v' : Value} {xs xs' : List Value} (h : w.ownsRow B e s v n xs) (h' : w.ownsRow B' e' s' v' n' xs') (he : e ≠ e') (hg : v.ownBlock = some g) : v'.ownBlock ≠ some g := fun hg' => by
  obtain ⟨_, cur, hc⟩ := own_block h hg
  obtain ⟨_, cur', hc'⟩ := own_block h' hg'
  rw [hc] at hc'
  injection hc' with hc'
  injection hc' with _ h2 _
  exact he h2
/-- What an append leaves: in its place, or in a new one. -/
structure Ap2 (w w' : World) (B e s : Nat) (v v' : Value) (n : Nat) (xs : List Value) : Prop where
  own : w'.ownsRow B e s v' n xs
  how : (v'.ownBlock = v.ownBlock ∧ w.grownBy w' v.ownBlock) ∨ (w.grownBy w' none ∧ ∀ g, v'.ownBlock = some g → w.heap.size ≤ g)
theorem wpList_append_tag (w : World) {ops : Array Oper} {rest : List Oper} {o : Oper} {a : Act} {Q : Exit → Act → World → Prop}
    (hg : o.guard = none) (s x : Operand) (t : TypeId) (hop : o.op = Op.call { callee := Callee.builtin Builtin.append, args := #[s, x], argTypes := #[t, t] })
    (B : Nat) (e : TypeId) (i : TypeInfo) (z : Value) (size bytes : Nat) (h1 : Try.prog.underlying t = some (.slice e)) (h2 : Try.prog.info? e = some i) (h3 : i.zero = some z) (h4 : i.size = size) (h5 : i.bytes = bytes) (h6 : z.cells.size = size) (h7 : 0 < size)
    (v : Value) (n : Nat) (xs : List Value) (hs : a.eval s = v) (hown : w.ownsRow B e size v n xs) (u : Value) (m : Nat) (news : List Value) (hx : a.eval x = u) (hr : RdC w u m news) (hn : news.length = m * size) (h1c : ∀ u ∈ news, u.oneCell' = true)
    (b1 : n + m ≤ maxLen) (b2 : (n + m) * bytes ≤ 140737488355328) (hB : B ≤ w.heap.size)
    (hK : ∀ v' w', Ap2 w w' B e size v v' (n + m) (xs ++ news) → wpList Try.prog ops Q rest (a.put o.dst v') w') : wpList Try.prog ops Q (o :: rest) a w := by
  obtain ⟨ao, cap, rfl, hnone, hcells⟩ := hr
  cases ao with
  | none =>
    obtain ⟨rfl, rfl⟩ := hnone rfl
    have hnil : news = [] := List.length_eq_zero_iff.1 (by rw [hn]; omega)
    subst hnil
    exact wpList_append_own_none hg s x _ hop B e i size h1 h2 v n xs hs hown hx (hK _ w ⟨by simpa using hown, .inl ⟨rfl, World.grownBy.refl w _⟩⟩)
  | some ad =>
    have hown0 := hown
    obtain ⟨g1, g2⟩ := hown
    rcases g2 with ⟨rfl, rfl⟩ | ⟨g, cp, cur, rfl, hgb, hh, hc⟩
    · have hxs : xs = [] := List.length_eq_zero_iff.1 (by omega)
      subst hxs
      refine wpList_append_own w hg s x _ hop w.heap.size e i z size bytes h1 h2 h3 h4 h5 h6 h7 _ 0 [] hs (World.ownsRow_nil _ _ _ _) ad m cap news hx hn (hcells ad rfl) h1c b1 b2 (Nat.le_refl _) ?_
      intro v' w' r1 r2 _
      exact hK v' w' ⟨r1.mono hB, .inr ⟨r2, fun k hk => (r1.lt k hk).1⟩⟩
    · by_cases hfit : n + m ≤ cp
      · refine wpList_append_fits w hg s x _ hop B e i size h1 h2 h4 g n cp xs hs hown0 ad m cap news hx hn (hcells ad rfl) h1c hfit ?_
        intro w' r1 r2
        exact hK _ w' ⟨r1, .inl ⟨rfl, r2⟩⟩
      · refine wpList_append_grows w hg s x _ hop e i z size bytes h1 h2 h3 h4 h5 h6 h7 (some ⟨g, 0, none⟩) n cp xs hs (fun h => by cases h) g1 (fun b hb => by cases hb; exact hown0.cells rfl) ad m cap news hx hn (hcells ad rfl) h1c (by omega) b1 b2 ?_
        intro v' w' r1 r2
        exact hK v' w' ⟨r1.mono hB, .inr ⟨r2, fun k hk => (r1.lt k hk).1⟩⟩
/-- Marks of blocks, with new blocks marked t. -/
def ex (τ : Nat → Nat) (z t : Nat) : Nat → Nat := fun b => if b < z then τ b else t
theorem ex_lt {τ : Nat → Nat} {z t b : Nat} (h : b < z) : ex τ z t b = τ b := by rw [ex, if_pos h]
theorem ex_ge {τ : Nat → Nat} {z t b : Nat} (h : z ≤ b) : ex τ z t b = t := by rw [ex, if_neg (by omega)]
/-- Nothing has changed but blocks marked t. -/
structure Stp (τ : Nat → Nat) (t : Nat) (w w' : World) : Prop where
  size : w.heap.size ≤ w'.heap.size
  block : ∀ b, b < w.heap.size → τ b ≠ t → w'.heap[b]? = w.heap[b]?
theorem stp_below {τ : Nat → Nat} {t : Nat} {w w' : World} (h : Below w.heap.size w w') : Stp τ t w w' := ⟨h.size, fun b hb _ => h.block b hb⟩
theorem Ap2.stp {w w' : World} {B e s n t : Nat} {v v' : Value} {xs : List Value} {τ : Nat → Nat} (h : Ap2 w w' B e s v v' n xs) (ht : ∀ g, v.ownBlock = some g → τ g = t) : Stp τ t w w' := by
  rcases h.how with ⟨_, hg⟩ | ⟨hg, _⟩
  · exact ⟨hg.size, fun b hb hne => hg.block b hb (fun e => hne (ht b e.symm))⟩
  · exact ⟨hg.size, fun b hb _ => hg.block b hb (by simp)⟩
theorem Ap2.below {w0 w w' : World} {B e s n m : Nat} {v v' : Value} {xs ys : List Value} (h : Ap2 w w' B e s v v' n xs) (hb : Below B w0 w) (ho : w.ownsRow B e s v m ys) (hB : B ≤ w.heap.size) : Below B w0 w' := by
  rcases h.how with ⟨_, hg⟩ | ⟨hg, _⟩
  · exact hb.grown hg hB (fun k hk => (ho.lt k hk).1)
  · exact hb.grown hg hB (fun k hk => by cases hk)
/-- A list of one's own in blocks marked t. -/
structure Ow (w : World) (τ : Nat → Nat) (B t e s : Nat) (v : Value) (n : Nat) (xs : List Value) : Prop where
  own : w.ownsRow B e s v n xs
  tag : ∀ g, v.ownBlock = some g → τ g = t
section
variable {w w' : World} {τ τ' : Nat → Nat} {B t t' e s n n' : Nat} {u v v' : Value} {xs xs' : List Value}
theorem Ow.keep (h : Ow w τ B t e s v n xs) (hs : Stp τ t' w w') (hne : t ≠ t') (hτ : ∀ b, b < w.heap.size → τ' b = τ b) : Ow w' τ' B t e s v n xs :=
  ⟨keep_row h.own fun g hg _ => hs.block g (h.own.lt g hg).2 (by rw [h.tag g hg]; exact hne), fun g hg => by rw [hτ g (h.own.lt g hg).2]; exact h.tag g hg⟩
theorem Ow.next (h : Ow w τ B t e s v n xs) (hb : Below w.heap.size w w') : Ow w' τ B t e s v n xs :=
  ⟨keep_row h.own fun g hg _ => hb.block g (h.own.lt g hg).2, h.tag⟩
theorem Ow.app (h : Ow w τ B t e s v n xs) (ha : Ap2 w w' B e s v v' n' xs') : Ow w' (ex τ w.heap.size t) B t e s v' n' xs' :=
  ⟨ha.own, fun g hg => by
    rcases ha.how with ⟨h1, _⟩ | ⟨_, h2⟩
    · rw [h1] at hg; rw [ex_lt (h.own.lt g hg).2]; exact h.tag g hg
    · exact ex_ge (h2 g hg)⟩
end
theorem row_at {w : World} {B e s n g : Nat} {v : Value} {xs : List Value} (h : w.ownsRow B e s v n xs) (hv : v.ownBlock = some g) {j : Nat} {c : Value} (hj : xs[j]? = some c) : w.cell? ⟨g, j, none⟩ = some c ∧ w.frozen? ⟨g, j, none⟩ = false := by
  rcases h.2 with ⟨rfl, _⟩ | ⟨g', cap, cur, rfl, hg, hh, hc, hm, hz, ht⟩
  · cases hv
  · obtain rfl : g' = g := by simpa [Value.ownBlock] using hv
    refine ⟨?_, frozen_of_row w g' j _ _ hh⟩
    rw [cell_of_row w g' j cur e (0, 0) hh]
    rw [← ht, List.getElem?_take] at hj
    split at hj
    · simpa using hj
    · cases hj
theorem row_form {w : World} {B e s n : Nat} {v : Value} {xs : List Value} (h : w.ownsRow B e s v n xs) : (n = 0 ∧ v = .slice none 0 0) ∨ ∃ g cap, v = .slice (some ⟨g, 0, none⟩) n cap ∧ B ≤ g ∧ g < w.heap.size := by
  rcases h.2 with ⟨rfl, h0⟩ | ⟨g', cap, cur, rfl, hg, hh, hc, hm, hz, ht⟩
  · exact .inl ⟨h0, rfl⟩
  · exact .inr ⟨g', cap, rfl, hg, (Array.getElem?_eq_some_iff.1 hh).1⟩
theorem row_len {w : World} {B e n : Nat} {v : Value} {xs : List Value} (h : w.ownsRow B e 1 v n xs) : xs.length = n := by have := h.1; omega
theorem rep_at {b j : Nat} {x : Value} (h : j < b) : (List.replicate b x)[j]? = some x := by rw [List.getElem?_replicate, if_pos h]
/-- One of many is another now. -/
def upd {α : Type} (f : Nat → α) (i : Nat) (x : α) : Nat → α := fun k => if k = i then x else f k
theorem upd_at {α : Type} (f : Nat → α) (i : Nat) (x : α) : upd f i x i = x := by rw [upd, if_pos rfl]
theorem upd_ne {α : Type} (f : Nat → α) {i k : Nat} (x : α) (h : k ≠ i) : upd f i x k = f k := by rw [upd, if_neg h]
theorem upd_upd {α : Type} (f : Nat → α) (i : Nat) (x y : α) : upd (upd f i x) i y = upd f i y := by
  funext k
  by_cases h : k = i
  · rw [h, upd_at, upd_at]
  · rw [upd_ne _ _ h, upd_ne _ _ h, upd_ne _ _ h]
theorem upd_self {α : Type} (f : Nat → α) (i : Nat) : upd f i (f i) = f := by
  funext k
  by_cases h : k = i
  · rw [h, upd_at]
  · rw [upd_ne _ _ h]
section
variable {w w' : World} {τ τ' : Nat → Nat} {B n ab t : Nat} {sv dv : Nat → Value} {cs ds : Nat → List Value}
theorem stp_set {w : World} {τ : Nat → Nat} {g t : Nat} (ht : τ g = t) (j : Nat) (x : Value) : Stp τ t w (w.setCell ⟨g, j, none⟩ x) :=
  ⟨by simp, fun b hb hne => Below.heap_setCell _ _ _ _ (by show b ≠ g; rintro rfl; exact hne ht)⟩
theorem Ow.set {e g m cap j : Nat} {xs : List Value} (h : Ow w τ B t e 1 (.slice (some ⟨g, 0, none⟩) m cap) xs.length xs) (x : Value) : Ow (w.setCell ⟨g, j, none⟩ x) τ B t e 1 (.slice (some ⟨g, 0, none⟩) m cap) (xs.set j x).length (xs.set j x) := by
  refine ⟨?_, h.tag⟩
  obtain ⟨h1, h2⟩ := h.own
  refine ⟨by simp, .inr ?_⟩
  rcases h2 with ⟨h2, h3⟩ | ⟨g', cap', cur, hv, hg, hh, h3, h4, h5, h6⟩
  · cases h2
  · obtain ⟨e1, e2, e3⟩ := Value.slice.inj hv
    cases e1
    have s1 : (w.setCell ⟨g, j, none⟩ x).heap[g]? = _ := heap_setCell_same w g j cur _ _ hh
    refine ⟨g, cap, _, by rw [e2]; simp, hg, s1, by simpa [e3] using h3, by omega, by simpa [e3] using h5, ?_⟩
    rw [List.length_set, Array.toList_setIfInBounds, List.take_set, h6]
end
/-- The form of a list of one's own. -/
theorem Ow.form {w : World} {τ : Nat → Nat} {B t e n : Nat} {v : Value} {xs : List Value} (h : Ow w τ B t e 1 v n xs) : ∃ sa sc, v = .slice sa n sc ∧ (0 < n → ∃ g, sa = some ⟨g, 0, none⟩ ∧ B ≤ g) := by
  rcases row_form h.own with ⟨h0, h1⟩ | ⟨g, cap, h1, h2, h3⟩
  · exact ⟨none, 0, by rw [h1, h0], fun h => by omega⟩
  · exact ⟨_, cap, h1, fun _ => ⟨g, rfl, h2⟩⟩
theorem rdc_one (w : World) (x : Value) (t : Nat) : RdC (w.alloc (.cells #[x] t)) (.slice (some ⟨w.heap.size, 0, none⟩) 1 1) 1 [x] := by
  refine ⟨some ⟨w.heap.size, 0, none⟩, 1, rfl, (fun h => by cases h), fun ad ha j c hj => ?_⟩
  cases ha
  match j, hj with
  | 0, hj => simp at hj; subst hj; simp [Addr.add, World.cell?_alloc_at]
end Go.Proofs.Ytelglfmppmdmoaa
/-
  CodecKeeps: what stands in memory while proofs are read, written over and grown. Own work.
-/
namespace Go.Proofs.Ytelglfmppmdmoaa
open Go.RowKit
open Cv (RdC cU)
/-- The proof that a text is, or none. -/
def dp (s : ByteArray) : PV := (dec s.data.toList).getD noV
/-- A proof's six cells. -/
def row6 (P : PV) (sv dv : Value) : List Value := [.int .i64 P.kd, .int .i64 P.k, .int .u64 (P.old : Int), .int .u64 (P.size : Int), sv, dv]
def rows (P : Nat → PV) (sv dv : Nat → Value) : Nat → List Value
  | 0 => []
  | n + 1 => rows P sv dv n ++ row6 (P n) (sv n) (dv n)
section
variable {P : Nat → PV} {sv dv sv' dv' : Nat → Value}
theorem rows_len : ∀ n, (rows P sv dv n).length = n * 6 := by
  intro n
  induction n with
  | zero => rfl
  | succ n ih => rw [rows, List.length_append, ih]; show _ + 6 = _; omega
theorem rows_at {i j : Nat} (hj : j < 6) : ∀ {n : Nat}, i < n → (rows P sv dv n)[i * 6 + j]? = (row6 (P i) (sv i) (dv i))[j]? := by
  intro n
  induction n with
  | zero => intro h; omega
  | succ n ih =>
    intro h
    rw [rows]
    by_cases e : i = n
    · subst e
      rw [List.getElem?_append_right (by rw [rows_len]; omega), rows_len, Nat.add_sub_cancel_left]
    · rw [List.getElem?_append_left (by rw [rows_len]; omega)]
      exact ih (by omega)
theorem rows_congr : ∀ {n : Nat}, (∀ i, i < n → sv i = sv' i ∧ dv i = dv' i) → rows P sv dv n = rows P sv' dv' n := by
  intro n
  induction n with
  | zero => intro _; rfl
  | succ n ih => intro h; rw [rows, rows, ih (fun i hi => h i (by omega)), (h n (by omega)).1, (h n (by omega)).2]
end
/-- The marks. -/
def mU (i : Nat) : Value := .int .u64 (1125899906842624 + (i : Int))
def mT (i : Nat) : ByteArray := ⟨#[109, UInt8.ofNat (48 + i)]⟩
def mS (i : Nat) : Value := .string (mT i)
/-- The proofs and their lists. -/
structure K0 (w0 w : World) (τ : Nat → Nat) (lv : Value) (n : Nat) (P : Nat → PV) (sv dv : Nat → Value) (cs ds : Nat → List Value) : Prop where
  s : ∀ i, i < n → Ow w τ w0.heap.size (3 + 2 * i) 22 1 (sv i) (cs i).length (cs i)
  d : ∀ i, i < n → Ow w τ w0.heap.size (4 + 2 * i) 9 1 (dv i) (ds i).length (ds i)
  l : Ow w τ w0.heap.size 0 26 6 lv n (rows P sv dv n)
  be : Below w0.heap.size w0 w
section
variable {w0 w w' : World} {τ : Nat → Nat} {lv : Value} {n : Nat} {P : Nat → PV} {sv dv : Nat → Value} {cs ds : Nat → List Value}
theorem k0_start (w0 : World) (P : Nat → PV) (sv dv : Nat → Value) (cs ds : Nat → List Value) : K0 w0 w0 (fun _ => 0) (.slice none 0 0) 0 P sv dv cs ds :=
  ⟨fun i hi => by omega, fun i hi => by omega, ⟨World.ownsRow_nil _ _ _ _, fun g hg => by cases hg⟩, Below.refl _ _⟩
theorem K0.next (h : K0 w0 w τ lv n P sv dv cs ds) (hb : Below w.heap.size w w') : K0 w0 w' τ lv n P sv dv cs ds :=
  ⟨fun i hi => (h.s i hi).next hb, fun i hi => (h.d i hi).next hb, h.l.next hb, bnext h.be hb⟩
/-- One proof more. -/
theorem K0.add (h : K0 w0 w τ lv n P sv dv cs ds) {w1 w2 w3 : World} (hb : Below w.heap.size w w1) {s1 d1 lv' : Value} {xs ys : List Value} (o1 : w1.ownsRow w.heap.size 22 1 s1 xs.length xs) (o2 : w1.ownsRow w.heap.size 9 1 d1 ys.length ys) (hb2 : Below w1.heap.size w1 w2)
    (ha : Ap2 w2 w3 w0.heap.size 26 6 lv lv' (n + 1) (rows P sv dv n ++ row6 (P n) s1 d1)) : ∃ τ', K0 w0 w3 τ' lv' (n + 1) P (upd sv n s1) (upd dv n d1) (upd cs n xs) (upd ds n ys) := by
  have hbb : Below w.heap.size w w2 := bnext hb hb2
  have hB := h.be.size
  obtain ⟨τ1, hτ1⟩ : ∃ τ1 : Nat → Nat, τ1 = fun b => if b < w.heap.size then τ b else if s1.ownBlock = some b then 3 + 2 * n else if d1.ownBlock = some b then 4 + 2 * n else 0 := ⟨_, rfl⟩
  have e1 : ∀ b, b < w.heap.size → τ1 b = τ b := fun b hb => by rw [hτ1]; exact if_pos hb
  have x1 : Ow w2 τ1 w0.heap.size (3 + 2 * n) 22 1 s1 xs.length xs := by
    refine ⟨(keep_row o1 fun g hg _ => hb2.block g (o1.lt g hg).2).mono hB, fun g hg => ?_⟩
    have hge := (o1.lt g hg).1
    rw [hτ1]
    show (if g < w.heap.size then _ else _) = _
    rw [if_neg (by omega), if_pos hg]
  have x2 : Ow w2 τ1 w0.heap.size (4 + 2 * n) 9 1 d1 ys.length ys := by
    refine ⟨(keep_row o2 fun g hg _ => hb2.block g (o2.lt g hg).2).mono hB, fun g hg => ?_⟩
    have hge := (o2.lt g hg).1
    rw [hτ1]
    show (if g < w.heap.size then _ else _) = _
    rw [if_neg (by omega), if_neg (row_ne o2 o1 (by decide) hg), if_pos hg]
  have xl : Ow w2 τ1 w0.heap.size 0 26 6 lv n (rows P sv dv n) := h.l.keep (t' := 1) (stp_below hbb) (by omega) e1
  have hs := ha.stp xl.tag
  have hτ : ∀ b, b < w2.heap.size → ex τ1 w2.heap.size 0 b = τ1 b := fun b hb => ex_lt hb
  have hr : rows P (upd sv n s1) (upd dv n d1) (n + 1) = rows P sv dv n ++ row6 (P n) s1 d1 := by
    rw [rows, upd_at, upd_at, rows_congr (sv' := sv) (dv' := dv) fun i hi => ⟨upd_ne _ _ (by omega), upd_ne _ _ (by omega)⟩]
  refine ⟨ex τ1 w2.heap.size 0, fun i hi => ?_, fun i hi => ?_, by rw [hr]; exact xl.app ha, ha.below (bnext h.be hbb) xl.own (Nat.le_trans hB hbb.size)⟩
  · by_cases e : i = n
    · subst e
      rw [upd_at, upd_at]
      exact x1.keep hs (by omega) hτ
    · rw [upd_ne _ _ e, upd_ne _ _ e]
      exact ((h.s i (by omega)).keep (t' := 0) (stp_below hbb) (by omega) e1).keep hs (by omega) hτ
  · by_cases e : i = n
    · subst e
      rw [upd_at, upd_at]
      exact x2.keep hs (by omega) hτ
    · rw [upd_ne _ _ e, upd_ne _ _ e]
      exact ((h.d i (by omega)).keep (t' := 0) (stp_below hbb) (by omega) e1).keep hs (by omega) hτ
/-- A proof's cells. -/
theorem rows_cell {B t i : Nat} (h : Ow w τ B t 26 6 lv n (rows P sv dv n)) (hi : i < n) : ∃ g cap, lv = .slice (some ⟨g, 0, none⟩) n cap ∧ w.cell? ⟨g, i * 6, none⟩ = some (.int .i64 (P i).kd) ∧ w.cell? ⟨g, i * 6 + 1, none⟩ = some (.int .i64 (P i).k) ∧ w.cell? ⟨g, i * 6 + 2, none⟩ = some (.int .u64 ((P i).old : Int)) ∧ w.cell? ⟨g, i * 6 + 3, none⟩ = some (.int .u64 ((P i).size : Int)) ∧ w.cell? ⟨g, i * 6 + 4, none⟩ = some (sv i) ∧ w.cell? ⟨g, i * 6 + 5, none⟩ = some (dv i) := by
  rcases row_form h.own with ⟨h0, _⟩ | ⟨g, cap, hv, _, _⟩
  · omega
  refine ⟨g, cap, hv, ?_⟩
  have hg : lv.ownBlock = some g := by rw [hv]; rfl
  have c : ∀ {j : Nat} {x : Value}, j < 6 → (row6 (P i) (sv i) (dv i))[j]? = some x → w.cell? ⟨g, i * 6 + j, none⟩ = some x := fun hj hx => (row_at h.own hg ((rows_at hj hi).trans hx)).1
  exact ⟨c (j := 0) (by decide) rfl, c (by decide) rfl, c (by decide) rfl, c (by decide) rfl, c (by decide) rfl, c (by decide) rfl⟩
end
/-- Marks that can be read. -/
def Mr (w : World) (τ : Nat → Nat) (bm : Nat) : Prop := τ bm = 1 ∧ bm < w.heap.size ∧ ∀ i, i < 6 → w.cell? ⟨bm, i, none⟩ = some (mS i)
theorem Mr.next {w w' : World} {τ : Nat → Nat} {bm : Nat} (h : Mr w τ bm) (hb : Below w.heap.size w w') : Mr w' τ bm :=
  ⟨h.1, Nat.lt_of_lt_of_le h.2.1 hb.size, fun i hi => (World.cell?_of_block (a := ⟨bm, i, none⟩) (hb.block bm h.2.1)).trans (h.2.2 i hi)⟩
theorem Mr.keep {w w' : World} {τ τ' : Nat → Nat} {bm t : Nat} (h : Mr w τ bm) (hs : Stp τ t w w') (hne : t ≠ 1) (hτ : ∀ b, b < w.heap.size → τ' b = τ b) : Mr w' τ' bm :=
  ⟨by rw [hτ bm h.2.1]; exact h.1, Nat.lt_of_lt_of_le h.2.1 hs.size, fun i hi => (World.cell?_of_block (a := ⟨bm, i, none⟩) (hs.block bm h.2.1 (by rw [h.1]; exact fun e => hne e.symm))).trans (h.2.2 i hi)⟩
abbrev mkO : Obj := .cells #[.string ⟨#[109, 48]⟩, .string ⟨#[109, 49]⟩, .string ⟨#[109, 50]⟩, .string ⟨#[109, 51]⟩, .string ⟨#[109, 52]⟩, .string ⟨#[109, 53]⟩] 9
section
variable {w0 w w' : World} {τ : Nat → Nat} {lv : Value} {bm : Nat} {P : Nat → PV} {sv dv : Nat → Value} {cs ds : Nat → List Value}
theorem k2_start {n : Nat} (h : K0 w0 w τ lv n P sv dv cs ds) : ∃ τ', K0 w0 (w.alloc mkO) τ' lv n P sv dv cs ds ∧ Mr (w.alloc mkO) τ' w.heap.size := by
  have hb := bal (Below.refl w.heap.size w) mkO
  have e1 : ∀ b, b < w.heap.size → (fun b => if b < w.heap.size then τ b else 1) b = τ b := fun b hb => if_pos hb
  refine ⟨fun b => if b < w.heap.size then τ b else 1, ⟨fun i hi => (h.s i hi).keep (t' := 0) (stp_below hb) (by omega) e1, fun i hi => (h.d i hi).keep (t' := 0) (stp_below hb) (by omega) e1, h.l.keep (t' := 1) (stp_below hb) (by omega) e1, bnext h.be hb⟩, ?_, ?_, ?_⟩
  · show (if w.heap.size < w.heap.size then _ else 1) = 1
    rw [if_neg (Nat.lt_irrefl _)]
  · simp
  · intro i hi
    rw [cell_of_row (w.alloc mkO) w.heap.size i _ _ (0, 0) (heap_alloc_new w _)]
    match i, hi with
    | 0, _ => rfl
    | 1, _ => rfl
    | 2, _ => rfl
    | 3, _ => rfl
    | 4, _ => rfl
    | 5, _ => rfl
theorem K0.setU {n : Nat} (h : K0 w0 w τ lv n P sv dv cs ds) {i g m cap j : Nat} (hi : i < n) (hv : sv i = .slice (some ⟨g, 0, none⟩) m cap) (x : Value) : K0 w0 (w.setCell ⟨g, j, none⟩ x) τ lv n P sv dv (upd cs i ((cs i).set j x)) ds ∧ Stp τ (3 + 2 * i) w (w.setCell ⟨g, j, none⟩ x) := by
  have hg : τ g = 3 + 2 * i := (h.s i hi).tag g (by rw [hv]; rfl)
  have hge : w0.heap.size ≤ g := ((h.s i hi).own.lt g (by rw [hv]; rfl)).1
  have hs := stp_set (w := w) hg j x
  refine ⟨⟨fun k hk => ?_, fun k hk => (h.d k hk).keep hs (by omega) fun _ _ => rfl, h.l.keep hs (by omega) fun _ _ => rfl, h.be.setCell hge x⟩, hs⟩
  by_cases e : k = i
  · subst e
    rw [upd_at, hv]
    have := h.s k hk
    rw [hv] at this
    exact this.set x
  · rw [upd_ne _ _ e]
    exact (h.s k hk).keep hs (by omega) fun _ _ => rfl
theorem K0.setS {n : Nat} (h : K0 w0 w τ lv n P sv dv cs ds) {i g m cap j : Nat} (hi : i < n) (hv : dv i = .slice (some ⟨g, 0, none⟩) m cap) (x : Value) : K0 w0 (w.setCell ⟨g, j, none⟩ x) τ lv n P sv dv cs (upd ds i ((ds i).set j x)) ∧ Stp τ (4 + 2 * i) w (w.setCell ⟨g, j, none⟩ x) := by
  have hg : τ g = 4 + 2 * i := (h.d i hi).tag g (by rw [hv]; rfl)
  have hge : w0.heap.size ≤ g := ((h.d i hi).own.lt g (by rw [hv]; rfl)).1
  have hs := stp_set (w := w) hg j x
  refine ⟨⟨fun k hk => (h.s k hk).keep hs (by omega) fun _ _ => rfl, fun k hk => ?_, h.l.keep hs (by omega) fun _ _ => rfl, h.be.setCell hge x⟩, hs⟩
  by_cases e : k = i
  · subst e
    rw [upd_at, hv]
    have := h.d k hk
    rw [hv] at this
    exact this.set x
  · rw [upd_ne _ _ e]
    exact (h.d k hk).keep hs (by omega) fun _ _ => rfl
end
/-- How far the marks stand: all lists of those before k, and j of the one at k. -/
def Mk (a : Nat → Nat) (x : Nat → Value) (cs : Nat → List Value) (k j : Nat) : Prop := ∀ i, i < 6 → (cs i).length = a i ∧ (i < k → cs i = List.replicate (a i) (x i)) ∧ (i = k → ∀ t, t < j → (cs i)[t]? = some (x i))
theorem Mk.step {a : Nat → Nat} {x : Nat → Value} {cs : Nat → List Value} {k j : Nat} (h : Mk a x cs k j) (hj : j < a k) : Mk a x (upd cs k ((cs k).set j (x k))) k (j + 1) := by
  intro i hi
  obtain ⟨h1, h2, h3⟩ := h i hi
  by_cases e : i = k
  · subst e
    rw [upd_at]
    refine ⟨by rw [List.length_set]; exact h1, fun h => absurd h (Nat.lt_irrefl _), fun _ t ht => ?_⟩
    rw [List.getElem?_set]
    by_cases e2 : j = t
    · rw [if_pos e2, if_pos (by omega)]
    · rw [if_neg e2]; exact h3 rfl t (by omega)
  · rw [upd_ne _ _ e]
    exact ⟨h1, h2, fun h => absurd h e⟩
theorem Mk.shut {a : Nat → Nat} {x : Nat → Value} {cs : Nat → List Value} {k : Nat} (h : Mk a x cs k (a k)) : Mk a x cs (k + 1) 0 := by
  intro i hi
  obtain ⟨h1, h2, h3⟩ := h i hi
  refine ⟨h1, fun h => ?_, fun _ t ht => by omega⟩
  by_cases e : i = k
  · subst e
    apply List.ext_getElem?
    intro t
    by_cases ht : t < a i
    · rw [h3 rfl t ht, List.getElem?_replicate, if_pos ht]
    · rw [List.getElem?_eq_none (by omega), List.getElem?_replicate, if_neg ht]
  · exact h2 (by omega)
end Go.Proofs.Ytelglfmppmdmoaa
/-
  CodecKeeps: lists that grow, each in blocks of its own. Own work.
-/
namespace Go.Proofs.Ytelglfmppmdmoaa
open Go.RowKit
open Cv (RdC cU)
/-- A list of n times x that can be read, in blocks marked t. -/
def Rc (w : World) (τ : Nat → Nat) (t : Nat) (v : Value) (n : Nat) (x : Value) : Prop := ∃ sa sc, v = .slice sa n sc ∧ ∀ j, j < n → ∃ g, sa = some ⟨g, 0, none⟩ ∧ τ g = t ∧ g < w.heap.size ∧ w.cell? ⟨g, j, none⟩ = some x
section
variable {w w' : World} {τ τ' : Nat → Nat} {t t' n e B : Nat} {v x : Value}
theorem rc_own (h : Ow w τ B t e 1 v n (List.replicate n x)) : Rc w τ t v n x := by
  rcases row_form h.own with ⟨h0, h1⟩ | ⟨g, cap, h1, _, h3⟩
  · exact ⟨none, 0, by rw [h1, h0], fun j hj => by omega⟩
  · exact ⟨_, cap, h1, fun j hj => ⟨g, rfl, h.tag g (by rw [h1]; rfl), h3, (row_at h.own (by rw [h1]; rfl) (rep_at hj)).1⟩⟩
theorem Rc.keep (h : Rc w τ t v n x) (hs : Stp τ t' w w') (hne : t ≠ t') (hτ : ∀ b, b < w.heap.size → τ' b = τ b) : Rc w' τ' t v n x := by
  obtain ⟨sa, sc, hv, hc⟩ := h
  refine ⟨sa, sc, hv, fun j hj => ?_⟩
  obtain ⟨g, h1, h2, h3, h4⟩ := hc j hj
  exact ⟨g, h1, by rw [hτ g h3]; exact h2, Nat.lt_of_lt_of_le h3 hs.size, (World.cell?_of_block (a := ⟨g, j, none⟩) (hs.block g h3 (by rw [h2]; exact hne))).trans h4⟩
theorem Rc.next (h : Rc w τ t v n x) (hb : Below w.heap.size w w') : Rc w' τ t v n x := h.keep (t' := t + 1) (stp_below hb) (by omega) fun _ _ => rfl
theorem Rc.app {X X' : Value} {b : Nat} (h : Rc w τ t v n x) (hn : n ≤ b) (ha : Ap2 w w' B e 1 X X' (b + 1) (List.replicate b x ++ [x])) (hτ : ∀ b, b < w.heap.size → τ' b = τ b) : Rc w' τ' t v n x := by
  obtain ⟨sa, sc, hv, hc⟩ := h
  refine ⟨sa, sc, hv, fun j hj => ?_⟩
  obtain ⟨g, h1, h2, h3, h4⟩ := hc j hj
  have hz : w.heap.size ≤ w'.heap.size := by
    rcases ha.how with ⟨_, hg⟩ | ⟨hg, _⟩ <;> exact hg.size
  refine ⟨g, h1, by rw [hτ g h3]; exact h2, Nat.lt_of_lt_of_le h3 hz, ?_⟩
  have same : w'.heap[g]? = w.heap[g]? → w'.cell? ⟨g, j, none⟩ = some x := fun hb => (World.cell?_of_block (a := ⟨g, j, none⟩) hb).trans h4
  rcases ha.how with ⟨e1, hg⟩ | ⟨hg, _⟩
  · by_cases e2 : some g = X.ownBlock
    · refine (row_at ha.own (by rw [e1]; exact e2.symm) ?_).1
      rw [← List.replicate_succ']; exact rep_at (by omega)
    · exact same (hg.block g h3 e2)
  · exact same (hg.block g h3 (by simp))
end
/-- The proofs, the marks, the lists that grow, the rows of them. -/
structure G (w0 w : World) (τ : Nat → Nat) (lv : Value) (bm : Nat) (P : Nat → PV) (sv dv X Y : Nat → Value) (b d : Nat → Nat) (zv uv : Value) (Z U : List Value) : Prop where
  l : Ow w τ w0.heap.size 0 26 6 lv 6 (rows P sv dv 6)
  m : Mr w τ bm
  rs : ∀ i, i < 6 → Rc w τ (3 + 2 * i) (sv i) (P i).S.length (mU i)
  rd : ∀ i, i < 6 → Rc w τ (4 + 2 * i) (dv i) (P i).D.length (mS i)
  x : ∀ i, i < 6 → Ow w τ w0.heap.size (3 + 2 * i) 22 1 (X i) (b i) (List.replicate (b i) (mU i))
  y : ∀ i, i < 6 → Ow w τ w0.heap.size (4 + 2 * i) 9 1 (Y i) (d i) (List.replicate (d i) (mS i))
  ab : ∀ i, i < 6 → (P i).S.length ≤ b i ∧ (P i).D.length ≤ d i
  z : Ow w τ w0.heap.size 20 23 1 zv Z.length Z
  u : Ow w τ w0.heap.size 21 24 1 uv U.length U
  be : Below w0.heap.size w0 w
section
variable {w0 w w' : World} {τ τ' : Nat → Nat} {lv : Value} {bm : Nat} {P : Nat → PV} {sv dv X Y : Nat → Value} {b d : Nat → Nat} {zv uv : Value} {Z U : List Value} {cs ds : Nat → List Value}
theorem g_start (h : K0 w0 w τ lv 6 P sv dv cs ds) (hm : Mr w τ bm) (h1 : ∀ i, i < 6 → cs i = List.replicate (P i).S.length (mU i)) (h2 : ∀ i, i < 6 → ds i = List.replicate (P i).D.length (mS i)) : G w0 w τ lv bm P sv dv sv dv (fun i => (P i).S.length) (fun i => (P i).D.length) (.slice none 0 0) (.slice none 0 0) [] [] := by
  have x : ∀ i, i < 6 → Ow w τ w0.heap.size (3 + 2 * i) 22 1 (sv i) (P i).S.length (List.replicate (P i).S.length (mU i)) := fun i hi => by
    have := h.s i hi
    rw [h1 i hi, List.length_replicate] at this
    exact this
  have y : ∀ i, i < 6 → Ow w τ w0.heap.size (4 + 2 * i) 9 1 (dv i) (P i).D.length (List.replicate (P i).D.length (mS i)) := fun i hi => by
    have := h.d i hi
    rw [h2 i hi, List.length_replicate] at this
    exact this
  exact ⟨h.l, hm, fun i hi => rc_own (x i hi), fun i hi => rc_own (y i hi), x, y, fun i _ => ⟨Nat.le_refl _, Nat.le_refl _⟩, ⟨World.ownsRow_nil _ _ _ _, fun g hg => by cases hg⟩, ⟨World.ownsRow_nil _ _ _ _, fun g hg => by cases hg⟩, h.be⟩
theorem G.next (h : G w0 w τ lv bm P sv dv X Y b d zv uv Z U) (hb : Below w.heap.size w w') : G w0 w' τ lv bm P sv dv X Y b d zv uv Z U :=
  ⟨h.l.next hb, h.m.next hb, fun i hi => (h.rs i hi).next hb, fun i hi => (h.rd i hi).next hb, fun i hi => (h.x i hi).next hb, fun i hi => (h.y i hi).next hb, h.ab, h.z.next hb, h.u.next hb, bnext h.be hb⟩
theorem G.appU (h : G w0 w τ lv bm P sv dv X Y b d zv uv Z U) {i : Nat} (hi : i < 6) {v' : Value} (ha : Ap2 w w' w0.heap.size 22 1 (X i) v' (b i + 1) (List.replicate (b i) (mU i) ++ [mU i])) : ∃ τ', G w0 w' τ' lv bm P sv dv (upd X i v') Y (upd b i (b i + 1)) d zv uv Z U := by
  have hs := ha.stp (h.x i hi).tag
  have hτ : ∀ c, c < w.heap.size → ex τ w.heap.size (3 + 2 * i) c = τ c := fun c hc => ex_lt hc
  refine ⟨ex τ w.heap.size (3 + 2 * i), h.l.keep hs (by omega) hτ, h.m.keep hs (by omega) hτ, fun k hk => ?_, fun k hk => (h.rd k hk).keep hs (by omega) hτ, fun k hk => ?_, fun k hk => (h.y k hk).keep hs (by omega) hτ, fun k hk => ?_, h.z.keep hs (by omega) hτ, h.u.keep hs (by omega) hτ, ha.below h.be (h.x i hi).own h.be.size⟩
  · by_cases e : k = i
    · subst e; exact (h.rs k hk).app (h.ab k hk).1 ha hτ
    · exact (h.rs k hk).keep hs (by omega) hτ
  · by_cases e : k = i
    · subst e
      rw [upd_at, upd_at]
      have := (h.x k hk).app ha
      rwa [← List.replicate_succ'] at this
    · rw [upd_ne _ _ e, upd_ne _ _ e]
      exact (h.x k hk).keep hs (by omega) hτ
  · by_cases e : k = i
    · subst e; rw [upd_at]; exact ⟨Nat.le_succ_of_le (h.ab k hk).1, (h.ab k hk).2⟩
    · rw [upd_ne _ _ e]; exact h.ab k hk
theorem G.appS (h : G w0 w τ lv bm P sv dv X Y b d zv uv Z U) {i : Nat} (hi : i < 6) {v' : Value} (ha : Ap2 w w' w0.heap.size 9 1 (Y i) v' (d i + 1) (List.replicate (d i) (mS i) ++ [mS i])) : ∃ τ', G w0 w' τ' lv bm P sv dv X (upd Y i v') b (upd d i (d i + 1)) zv uv Z U := by
  have hs := ha.stp (h.y i hi).tag
  have hτ : ∀ c, c < w.heap.size → ex τ w.heap.size (4 + 2 * i) c = τ c := fun c hc => ex_lt hc
  refine ⟨ex τ w.heap.size (4 + 2 * i), h.l.keep hs (by omega) hτ, h.m.keep hs (by omega) hτ, fun k hk => (h.rs k hk).keep hs (by omega) hτ, fun k hk => ?_, fun k hk => (h.x k hk).keep hs (by omega) hτ, fun k hk => ?_, fun k hk => ?_, h.z.keep hs (by omega) hτ, h.u.keep hs (by omega) hτ, ha.below h.be (h.y i hi).own h.be.size⟩
  · by_cases e : k = i
    · subst e; exact (h.rd k hk).app (h.ab k hk).2 ha hτ
    · exact (h.rd k hk).keep hs (by omega) hτ
  · by_cases e : k = i
    · subst e
      rw [upd_at, upd_at]
      have := (h.y k hk).app ha
      rwa [← List.replicate_succ'] at this
    · rw [upd_ne _ _ e, upd_ne _ _ e]
      exact (h.y k hk).keep hs (by omega) hτ
  · by_cases e : k = i
    · subst e; rw [upd_at]; exact ⟨(h.ab k hk).1, Nat.le_succ_of_le (h.ab k hk).2⟩
    · rw [upd_ne _ _ e]; exact h.ab k hk
theorem G.appZ (h : G w0 w τ lv bm P sv dv X Y b d zv uv Z U) {v' q : Value} (ha : Ap2 w w' w0.heap.size 23 1 zv v' (Z.length + 1) (Z ++ [q])) : ∃ τ', G w0 w' τ' lv bm P sv dv X Y b d v' uv (Z ++ [q]) U := by
  have hs := ha.stp h.z.tag
  have hτ : ∀ c, c < w.heap.size → ex τ w.heap.size 20 c = τ c := fun c hc => ex_lt hc
  refine ⟨ex τ w.heap.size 20, h.l.keep hs (by omega) hτ, h.m.keep hs (by omega) hτ, fun k hk => (h.rs k hk).keep hs (by omega) hτ, fun k hk => (h.rd k hk).keep hs (by omega) hτ, fun k hk => (h.x k hk).keep hs (by omega) hτ, fun k hk => (h.y k hk).keep hs (by omega) hτ, h.ab, ?_, h.u.keep hs (by omega) hτ, ha.below h.be h.z.own h.be.size⟩
  rw [List.length_append]; exact h.z.app ha
theorem G.appW (h : G w0 w τ lv bm P sv dv X Y b d zv uv Z U) {v' q : Value} (ha : Ap2 w w' w0.heap.size 24 1 uv v' (U.length + 1) (U ++ [q])) : ∃ τ', G w0 w' τ' lv bm P sv dv X Y b d zv v' Z (U ++ [q]) := by
  have hs := ha.stp h.u.tag
  have hτ : ∀ c, c < w.heap.size → ex τ w.heap.size 21 c = τ c := fun c hc => ex_lt hc
  refine ⟨ex τ w.heap.size 21, h.l.keep hs (by omega) hτ, h.m.keep hs (by omega) hτ, fun k hk => (h.rs k hk).keep hs (by omega) hτ, fun k hk => (h.rd k hk).keep hs (by omega) hτ, fun k hk => (h.x k hk).keep hs (by omega) hτ, fun k hk => (h.y k hk).keep hs (by omega) hτ, h.ab, h.z.keep hs (by omega) hτ, ?_, ha.below h.be h.u.own h.be.size⟩
  rw [List.length_append]; exact h.u.app ha
end
/-- How far the growing stands: those before k are grown and stand in the rows, those behind k are as they were, the one at k has grown by j1, j2. -/
def Lk (P : Nat → PV) (sv dv X Y : Nat → Value) (b d : Nat → Nat) (Z U : List Value) (k j1 j2 : Nat) : Prop :=
  Z.length = k ∧ U.length = k ∧ ∀ i, i < 6 → (i < k → b i = (P i).S.length + 40 ∧ d i = (P i).D.length + 40 ∧ Z[i]? = some (X i) ∧ U[i]? = some (Y i)) ∧ (k < i → X i = sv i ∧ Y i = dv i ∧ b i = (P i).S.length ∧ d i = (P i).D.length) ∧ (i = k → b i = (P i).S.length + j1 ∧ d i = (P i).D.length + j2)
section
variable {P : Nat → PV} {sv dv X Y : Nat → Value} {b d : Nat → Nat} {Z U : List Value} {k j1 j2 : Nat}
theorem lk_start (P : Nat → PV) (sv dv : Nat → Value) : Lk P sv dv sv dv (fun i => (P i).S.length) (fun i => (P i).D.length) [] [] 0 0 0 :=
  ⟨rfl, rfl, fun i _ => ⟨fun h => by omega, fun _ => ⟨rfl, rfl, rfl, rfl⟩, fun _ => ⟨rfl, rfl⟩⟩⟩
theorem Lk.stepU (h : Lk P sv dv X Y b d Z U k j1 j2) (v : Value) : Lk P sv dv (upd X k v) Y (upd b k (b k + 1)) d Z U k (j1 + 1) j2 := by
  refine ⟨h.1, h.2.1, fun i hi => ?_⟩
  obtain ⟨h1, h2, h3⟩ := h.2.2 i hi
  by_cases e : i = k
  · subst e
    refine ⟨fun h => by omega, fun h => by omega, fun _ => ?_⟩
    rw [upd_at]
    have := h3 rfl
    exact ⟨by omega, this.2⟩
  · rw [upd_ne _ _ e, upd_ne _ _ e]
    exact ⟨h1, h2, fun h => absurd h e⟩
theorem Lk.stepS (h : Lk P sv dv X Y b d Z U k j1 j2) (v : Value) : Lk P sv dv X (upd Y k v) b (upd d k (d k + 1)) Z U k j1 (j2 + 1) := by
  refine ⟨h.1, h.2.1, fun i hi => ?_⟩
  obtain ⟨h1, h2, h3⟩ := h.2.2 i hi
  by_cases e : i = k
  · subst e
    refine ⟨fun h => by omega, fun h => by omega, fun _ => ?_⟩
    rw [upd_at]
    have := h3 rfl
    exact ⟨this.1, by omega⟩
  · rw [upd_ne _ _ e, upd_ne _ _ e]
    exact ⟨h1, h2, fun h => absurd h e⟩
theorem Lk.shut (h : Lk P sv dv X Y b d Z U k 40 40) : Lk P sv dv X Y b d (Z ++ [X k]) (U ++ [Y k]) (k + 1) 0 0 ∧ (k + 1 < 6 → X (k + 1) = sv (k + 1) ∧ Y (k + 1) = dv (k + 1)) := by
  obtain ⟨hz, hu, h0⟩ := h
  refine ⟨⟨by rw [List.length_append, hz]; rfl, by rw [List.length_append, hu]; rfl, fun i hi => ?_⟩, fun hk => ?_⟩
  · obtain ⟨h1, h2, h3⟩ := h0 i hi
    refine ⟨fun h => ?_, fun h => h2 (by omega), fun h => ?_⟩
    · by_cases e : i = k
      · subst e
        have := h3 rfl
        exact ⟨this.1, this.2, by rw [List.getElem?_append_right (by omega), hz, Nat.sub_self]; rfl, by rw [List.getElem?_append_right (by omega), hu, Nat.sub_self]; rfl⟩
      · have := h1 (by omega)
        exact ⟨this.1, this.2.1, by rw [List.getElem?_append_left (by omega)]; exact this.2.2.1, by rw [List.getElem?_append_left (by omega)]; exact this.2.2.2⟩
    · have := h2 (by omega)
      exact ⟨this.2.2.1, this.2.2.2⟩
  · have := (h0 (k + 1) hk).2.1 (by omega)
    exact ⟨this.1, this.2.1⟩
end
/-- What is read in the end, of numbers. -/
theorem G.readU {w0 w : World} {τ : Nat → Nat} {lv : Value} {bm : Nat} {P : Nat → PV} {sv dv X Y : Nat → Value} {b d : Nat → Nat} {zv uv : Value} {Z U : List Value} (h : G w0 w τ lv bm P sv dv X Y b d zv uv Z U) (hk : Lk P sv dv X Y b d Z U 6 0 0) {i : Nat} (hi : i < 6) :
    ∃ gl cl gz cz gx cx sa sc, lv = .slice (some ⟨gl, 0, none⟩) 6 cl ∧ zv = .slice (some ⟨gz, 0, none⟩) 6 cz ∧ w.cell? ⟨gz, i, none⟩ = some (.slice (some ⟨gx, 0, none⟩) ((P i).S.length + 40) cx) ∧ (∀ j, j < (P i).S.length + 40 → w.cell? ⟨gx, j, none⟩ = some (mU i)) ∧ w.cell? ⟨gl, i * 6 + 4, none⟩ = some (.slice sa (P i).S.length sc) ∧ ∀ j, j < (P i).S.length → ∃ g, sa = some ⟨g, 0, none⟩ ∧ w.cell? ⟨g, j, none⟩ = some (mU i) := by
  obtain ⟨hz, hu, h0⟩ := hk
  obtain ⟨e1, e2, e3, e4⟩ := (h0 i hi).1 hi
  obtain ⟨gl, cl, hl, _, _, _, _, l4, l5⟩ := rows_cell h.l hi
  have ho := (h.x i hi).own
  rw [e1] at ho
  rcases row_form ho with ⟨h0, _⟩ | ⟨gx, cx, ex', _, _⟩
  · omega
  have hzo := h.z.own
  rw [hz] at hzo
  rcases row_form hzo with ⟨h0, _⟩ | ⟨gz, cz, ez, _, _⟩
  · omega
  obtain ⟨sa, sc, hs, hc⟩ := h.rs i hi
  refine ⟨gl, cl, gz, cz, gx, cx, sa, sc, hl, ez, ?_, fun j hj => (row_at ho (by rw [ex']; rfl) (rep_at hj)).1, by rw [l4, hs], fun j hj => ?_⟩
  · rw [(row_at hzo (by rw [ez]; rfl) e3).1, ex']
  · obtain ⟨g, g1, _, _, g4⟩ := hc j hj
    exact ⟨g, g1, g4⟩
/-- Of texts. -/
theorem G.readS {w0 w : World} {τ : Nat → Nat} {lv : Value} {bm : Nat} {P : Nat → PV} {sv dv X Y : Nat → Value} {b d : Nat → Nat} {zv uv : Value} {Z U : List Value} (h : G w0 w τ lv bm P sv dv X Y b d zv uv Z U) (hk : Lk P sv dv X Y b d Z U 6 0 0) {i : Nat} (hi : i < 6) :
    ∃ gl cl gz cz gx cx sa sc, lv = .slice (some ⟨gl, 0, none⟩) 6 cl ∧ uv = .slice (some ⟨gz, 0, none⟩) 6 cz ∧ w.cell? ⟨gz, i, none⟩ = some (.slice (some ⟨gx, 0, none⟩) ((P i).D.length + 40) cx) ∧ (∀ j, j < (P i).D.length + 40 → w.cell? ⟨gx, j, none⟩ = some (mS i)) ∧ w.cell? ⟨gl, i * 6 + 5, none⟩ = some (.slice sa (P i).D.length sc) ∧ ∀ j, j < (P i).D.length → ∃ g, sa = some ⟨g, 0, none⟩ ∧ w.cell? ⟨g, j, none⟩ = some (mS i) := by
  obtain ⟨hz, hu, h0⟩ := hk
  obtain ⟨e1, e2, e3, e4⟩ := (h0 i hi).1 hi
  obtain ⟨gl, cl, hl, _, _, _, _, l4, l5⟩ := rows_cell h.l hi
  have ho := (h.y i hi).own
  rw [e2] at ho
  rcases row_form ho with ⟨h0, _⟩ | ⟨gx, cx, ex', _, _⟩
  · omega
  have hzo := h.u.own
  rw [hu] at hzo
  rcases row_form hzo with ⟨h0, _⟩ | ⟨gz, cz, ez, _, _⟩
  · omega
  obtain ⟨sa, sc, hs, hc⟩ := h.rd i hi
  refine ⟨gl, cl, gz, cz, gx, cx, sa, sc, hl, ez, ?_, fun j hj => (row_at ho (by rw [ex']; rfl) (rep_at hj)).1, by rw [l5, hs], fun j hj => ?_⟩
  · rw [(row_at hzo (by rw [ez]; rfl) e4).1, ex']
  · obtain ⟨g, g1, _, _, g4⟩ := hc j hj
    exact ⟨g, g1, g4⟩
end Go.Proofs.Ytelglfmppmdmoaa
/-
  CodecKeeps: what its calls and appends answer. Own work.
-/
namespace Go.Proofs.Ytelglfmppmdmoaa
open Go.RowKit
open Cv (RdC cU)
attribute [local go_sem ↓] Go.wp_at_zero Go.wp_at_succ
theorem Try.infoP : (Try.prog.info? 26).map (fun i => (i.zero, i.size, i.bytes)) = some (some noP, 6, 80) := by kernel_rfl
theorem Try.infoZ : (Try.prog.info? 23).map (fun i => (i.zero, i.size, i.bytes)) = some (some (.slice none 0 0), 1, 24) := by kernel_rfl
theorem Try.infoW : (Try.prog.info? 24).map (fun i => (i.zero, i.size, i.bytes)) = some (some (.slice none 0 0), 1, 24) := by kernel_rfl
theorem decode_uni (w : World) (s : ByteArray) (hs : s.size ≤ 1048576) : Calls Try.prog 10 #[.string s] w fun e w' => ∃ (sa : Option Addr) (sl sc : Nat) (da : Option Addr) (dl dc : Nat) (c : Int), e = .returned (.tuple #[.agg #[.int .i64 (dp s).kd, .int .i64 (dp s).k, .int .u64 ((dp s).old : Int), .int .u64 ((dp s).size : Int), .slice sa sl sc, .slice da dl dc], .int .i64 c]) ∧ w'.ownsRow w.heap.size 22 1 (.slice sa sl sc) (cU (dp s).S).length (cU (dp s).S) ∧ w'.ownsRow w.heap.size 9 1 (.slice da dl dc) ((dp s).D.map Value.string).length ((dp s).D.map Value.string) ∧ Below w.heap.size w w' := by
  refine (decode_any w s (by omega)).mono ?_
  rintro e w' (⟨P, sv, dv, h1, h2, h3, h4, h5⟩ | ⟨h1, h2, h3⟩)
  · have hd : dp s = P := by rw [dp, h1]; rfl
    rw [hd]
    obtain ⟨sa, sl, sc, rfl⟩ := Cv.own_slice h3
    obtain ⟨da, dl, dc, rfl⟩ := Cv.own_slice h4
    exact ⟨sa, sl, sc, da, dl, dc, 0, h2, by rw [cU, List.length_map]; exact h3, by rw [List.length_map]; exact h4, h5⟩
  · have hd : dp s = noV := by rw [dp, h1]; rfl
    rw [hd]
    exact ⟨none, 0, 0, none, 0, 0, 140, h2, World.ownsRow_nil _ _ _ _, World.ownsRow_nil _ _ _ _, h3⟩
theorem rdecode_uni (w : World) (s : ByteArray) (hr : ∀ w, Calls Try.prog 41 #[.string s] w (RdQ w s)) : Calls Try.prog 19 #[.string s] w fun e w' => ∃ (sa : Option Addr) (sb sc : Nat) (da : Option Addr) (db dc : Nat) (c : Int), e = .returned (.tuple #[.agg #[.int .i64 (dp s).kd, .int .i64 (dp s).k, .int .u64 ((dp s).old : Int), .int .u64 ((dp s).size : Int), .slice sa (dp s).S.length sc, .slice da (dp s).D.length dc], .int .i64 c]) ∧ RdP w' sa sb 0 sc da db 0 dc (dp s) ∧ Below w.heap.size w w' := by
  refine (rdecode_of s hr w).mono ?_
  rintro e w' (⟨h1, h2, h3⟩ | ⟨P, sa, sb, sc, da, db, dc, h1, h2, h3, h4⟩)
  · have hd : dp s = noV := by rw [dp, h1]; rfl
    rw [hd]
    exact ⟨none, 0, 0, none, 0, 0, 140, h2, rdp_no w', h3⟩
  · have hd : dp s = P := by rw [dp, h1]; rfl
    rw [hd]
    exact ⟨sa, sb, sc, da, db, dc, 0, h2, h3, h4⟩
/-- Its lists are short. -/
theorem dp_small (s : ByteArray) (hs : s.size ≤ 1048576) : (dp s).S.length ≤ 1048576 ∧ (dp s).D.length ≤ 1048576 ∧ (dp s).old < 18446744073709551616 ∧ (dp s).size < 18446744073709551616 ∧ ∀ d ∈ (dp s).D, d.size ≤ 32 := by
  cases hd : dec s.data.toList with
  | none =>
    have e : dp s = noV := by rw [dp, hd]; rfl
    rw [e]
    exact ⟨by decide, by decide, by decide, by decide, fun d h => by cases h⟩
  | some P =>
    have e : dp s = P := by rw [dp, hd]; rfl
    rw [e]
    obtain ⟨hw, he, _⟩ := enc_dec hd
    have ho := cnt_ok hw.1
    have i1 := ho.hsz
    have i2 := ho.hold
    have i3 := ho.k32
    have i4 := ho.k1
    have hl := congrArg List.length he
    rw [enc_pre ho, size_list, List.length_append, List.length_append] at hl
    have h1 := laidL_len P.S 0
    have h2 := flat_mul (y1 := P.k.toNat) hw (by omega) 0
    rw [List.drop_zero, Nat.sub_zero] at h2
    have h3 : P.D.length * 1 ≤ P.D.length * P.k.toNat := Nat.mul_le_mul_left _ (by omega)
    exact ⟨by omega, by omega, by omega, by omega, fun d hd => by have := hw.2 d hd; omega⟩
theorem dp_rdp {w : World} {B : Nat} {s : ByteArray} (hs : s.size ≤ 1048576) {sa : Option Addr} {sl sc : Nat} {da : Option Addr} {dl dc : Nat} (o1 : w.ownsRow B 22 1 (.slice sa sl sc) (cU (dp s).S).length (cU (dp s).S)) (o2 : w.ownsRow B 9 1 (.slice da dl dc) ((dp s).D.map Value.string).length ((dp s).D.map Value.string)) :
    sl = (dp s).S.length ∧ dl = (dp s).D.length ∧ ∃ sb db, RdP w sa sb 0 sc da db 0 dc (dp s) := by
  obtain ⟨b1, b2, b3, b4, b5⟩ := dp_small s hs
  have p1 : Cv.Own w B (.slice sa sl sc) (dp s).S := by rw [cU, List.length_map] at o1; exact o1
  have p2 : OwnS w B (.slice da dl dc) (dp s).D := by rw [List.length_map] at o2; exact o2
  obtain ⟨ao, b, c, h1, r1, _⟩ := own_read p1
  obtain ⟨bo, b', c', h2, r2, r3, _⟩ := owns_rds p2 (fun d hd => by have := b5 d hd; omega)
  obtain ⟨e1, e2, e3⟩ := Value.slice.inj h1
  obtain ⟨e4, e5, e6⟩ := Value.slice.inj h2
  subst e1 e3 e4 e6
  exact ⟨e2, e5, b, b', r1, r2, b3, b4, by omega, by omega, r3⟩
theorem rdc_six (w : World) (P : PV) (sv dv : Value) : RdC (w.alloc (.cells #[.int .i64 P.kd, .int .i64 P.k, .int .u64 (P.old : Int), .int .u64 (P.size : Int), sv, dv] 26)) (.slice (some ⟨w.heap.size, 0, none⟩) 1 1) 1 (row6 P sv dv) := by
  refine ⟨some ⟨w.heap.size, 0, none⟩, 1, rfl, (fun h => by cases h), fun ad ha j c hj => ?_⟩
  cases ha
  rw [Addr.add_mid]
  exact range_new w (row6 P sv dv) 26 j c hj
theorem wpList_append_P (w : World) {ops : Array Oper} {rest : List Oper} {o : Oper} {a : Act} {Q : Exit → Act → World → Prop}
    (hg : o.guard = none) (s x : Operand) (hop : o.op = Op.call { callee := Callee.builtin Builtin.append, args := #[s, x], argTypes := #[41, 41] })
    (B : Nat) (v : Value) (n : Nat) (xs : List Value) (hs : a.eval s = v) (hown : w.ownsRow B 26 6 v n xs) (P : PV) (sa : Option Addr) (sl sc : Nat) (da : Option Addr) (dl dc : Nat) (u : Value) (hx : a.eval x = u) (hr : RdC w u 1 (row6 P (.slice sa sl sc) (.slice da dl dc))) (hn : n ≤ 1000) (hB : B ≤ w.heap.size)
    (hK : ∀ v' w', Ap2 w w' B 26 6 v v' (n + 1) (xs ++ row6 P (.slice sa sl sc) (.slice da dl dc)) → wpList Try.prog ops Q rest (a.put o.dst v') w') : wpList Try.prog ops Q (o :: rest) a w := by
  obtain ⟨i0, hi, hz0, hz1, hz2⟩ := info_parts Try.infoP
  exact wpList_append_tag w hg s x _ hop B 26 i0 noP 6 80 Try.underlying41 hi hz0 hz1 hz2 rfl (by decide) v n xs hs hown u 1 _ hx hr rfl (by intro u hu; simp [row6] at hu; rcases hu with rfl | rfl | rfl | rfl | rfl | rfl <;> rfl) (by unfold maxLen; omega) (by omega) hB hK
theorem wpList_append_U1 (w : World) {ops : Array Oper} {rest : List Oper} {o : Oper} {a : Act} {Q : Exit → Act → World → Prop}
    (hg : o.guard = none) (s x : Operand) (hop : o.op = Op.call { callee := Callee.builtin Builtin.append, args := #[s, x], argTypes := #[23, 23] })
    (B : Nat) (v : Value) (n : Nat) (xs : List Value) (hs : a.eval s = v) (hown : w.ownsRow B 22 1 v n xs) (c : Int) (u : Value) (hx : a.eval x = u) (hr : RdC w u 1 [.int .u64 c]) (hn : n ≤ 2097152) (hB : B ≤ w.heap.size)
    (hK : ∀ v' w', Ap2 w w' B 22 1 v v' (n + 1) (xs ++ [.int .u64 c]) → wpList Try.prog ops Q rest (a.put o.dst v') w') : wpList Try.prog ops Q (o :: rest) a w := by
  obtain ⟨i0, hi, hz0, hz1, hz2⟩ := info_parts Cv.Try.infoU
  exact wpList_append_tag w hg s x _ hop B 22 i0 (.int .u64 0) 1 8 Try.underlying23 hi hz0 hz1 hz2 rfl (by decide) v n xs hs hown u 1 _ hx hr rfl (by intro u hu; simp at hu; subst hu; rfl) (by unfold maxLen; omega) (by omega) hB hK
theorem wpList_append_S1 (w : World) {ops : Array Oper} {rest : List Oper} {o : Oper} {a : Act} {Q : Exit → Act → World → Prop}
    (hg : o.guard = none) (s x : Operand) (hop : o.op = Op.call { callee := Callee.builtin Builtin.append, args := #[s, x], argTypes := #[24, 24] })
    (B : Nat) (v : Value) (n : Nat) (xs : List Value) (hs : a.eval s = v) (hown : w.ownsRow B 9 1 v n xs) (c : ByteArray) (u : Value) (hx : a.eval x = u) (hr : RdC w u 1 [.string c]) (hn : n ≤ 2097152) (hB : B ≤ w.heap.size)
    (hK : ∀ v' w', Ap2 w w' B 9 1 v v' (n + 1) (xs ++ [.string c]) → wpList Try.prog ops Q rest (a.put o.dst v') w') : wpList Try.prog ops Q (o :: rest) a w := by
  obtain ⟨i0, hi, hz0, hz1, hz2⟩ := info_parts Try.infoS
  exact wpList_append_tag w hg s x _ hop B 9 i0 (.string ByteArray.empty) 1 16 Try.underlying24 hi hz0 hz1 hz2 rfl (by decide) v n xs hs hown u 1 _ hx hr rfl (by intro u hu; simp at hu; subst hu; rfl) (by unfold maxLen; omega) (by omega) hB hK
theorem wpList_append_Z1 (w : World) {ops : Array Oper} {rest : List Oper} {o : Oper} {a : Act} {Q : Exit → Act → World → Prop}
    (hg : o.guard = none) (s x : Operand) (hop : o.op = Op.call { callee := Callee.builtin Builtin.append, args := #[s, x], argTypes := #[42, 42] })
    (B : Nat) (v : Value) (n : Nat) (xs : List Value) (hs : a.eval s = v) (hown : w.ownsRow B 23 1 v n xs) (qa : Option Addr) (ql qc : Nat) (u : Value) (hx : a.eval x = u) (hr : RdC w u 1 [.slice qa ql qc]) (hn : n ≤ 1000) (hB : B ≤ w.heap.size)
    (hK : ∀ v' w', Ap2 w w' B 23 1 v v' (n + 1) (xs ++ [.slice qa ql qc]) → wpList Try.prog ops Q rest (a.put o.dst v') w') : wpList Try.prog ops Q (o :: rest) a w := by
  obtain ⟨i0, hi, hz0, hz1, hz2⟩ := info_parts Try.infoZ
  exact wpList_append_tag w hg s x _ hop B 23 i0 (.slice none 0 0) 1 24 Try.underlying42 hi hz0 hz1 hz2 rfl (by decide) v n xs hs hown u 1 _ hx hr rfl (by intro u hu; simp at hu; subst hu; rfl) (by unfold maxLen; omega) (by omega) hB hK
theorem wpList_append_W1 (w : World) {ops : Array Oper} {rest : List Oper} {o : Oper} {a : Act} {Q : Exit → Act → World → Prop}
    (hg : o.guard = none) (s x : Operand) (hop : o.op = Op.call { callee := Callee.builtin Builtin.append, args := #[s, x], argTypes := #[43, 43] })
    (B : Nat) (v : Value) (n : Nat) (xs : List Value) (hs : a.eval s = v) (hown : w.ownsRow B 24 1 v n xs) (qa : Option Addr) (ql qc : Nat) (u : Value) (hx : a.eval x = u) (hr : RdC w u 1 [.slice qa ql qc]) (hn : n ≤ 1000) (hB : B ≤ w.heap.size)
    (hK : ∀ v' w', Ap2 w w' B 24 1 v v' (n + 1) (xs ++ [.slice qa ql qc]) → wpList Try.prog ops Q rest (a.put o.dst v') w') : wpList Try.prog ops Q (o :: rest) a w := by
  obtain ⟨i0, hi, hz0, hz1, hz2⟩ := info_parts Try.infoW
  exact wpList_append_tag w hg s x _ hop B 24 i0 (.slice none 0 0) 1 24 Try.underlying43 hi hz0 hz1 hz2 rfl (by decide) v n xs hs hown u 1 _ hx hr rfl (by intro u hu; simp at hu; subst hu; rfl) (by unfold maxLen; omega) (by omega) hB hK
/-- The texts. -/
def tx (s t : ByteArray) (i : Nat) : ByteArray := if i = 0 ∨ i = 2 then s else if i = 1 ∨ i = 4 then t else ⟨#[2, 1, 3, 2, 0, 1, 120]⟩
theorem tx_small {s t : ByteArray} (hs : s.size ≤ 1048576) (ht : t.size ≤ 1048576) (i : Nat) : (tx s t i).size ≤ 1048576 := by
  rw [tx]
  split
  · exact hs
  · split
    · exact ht
    · decide
abbrev txO (s t : ByteArray) : Obj := .cells #[.string s, .string t, .string s, .string ⟨#[2, 1, 3, 2, 0, 1, 120]⟩, .string t, .string ⟨#[2, 1, 3, 2, 0, 1, 120]⟩] 9
theorem tx_cell (w W : World) (s t : ByteArray) (hb : Below (w.alloc (txO s t)).heap.size (w.alloc (txO s t)) W) {i : Nat} (hi : i < 6) : W.cell? ⟨w.heap.size, i, none⟩ = some (.string (tx s t i)) := by
  refine (World.cell?_of_block (a := ⟨w.heap.size, i, none⟩) (hb.block w.heap.size (by simp))).trans ?_
  rw [cell_of_row (w.alloc (txO s t)) w.heap.size i _ _ (0, 0) (heap_alloc_new w _)]
  match i, hi with
  | 0, _ => rfl
  | 1, _ => rfl
  | 2, _ => rfl
  | 3, _ => rfl
  | 4, _ => rfl
  | 5, _ => rfl
end Go.Proofs.Ytelglfmppmdmoaa
/-
  CodecKeeps. Own work.
-/
namespace Go.Proofs.Ytelglfmppmdmoaa
open Go.RowKit
open Cv (RdC cU)
attribute [local go_sem ↓] Go.wp_at_zero Go.wp_at_succ
theorem rows_cell2 {w : World} {τ : Nat → Nat} {g cap n : Nat} {P : Nat → PV} {sv dv : Nat → Value} {B t i : Nat} (h : Ow w τ B t 26 6 (.slice (some ⟨g, 0, none⟩) n cap) n (rows P sv dv n)) (hi : i < n) : w.cell? ⟨g, i * 6, none⟩ = some (.int .i64 (P i).kd) ∧ w.cell? ⟨g, i * 6 + 1, none⟩ = some (.int .i64 (P i).k) ∧ w.cell? ⟨g, i * 6 + 2, none⟩ = some (.int .u64 ((P i).old : Int)) ∧ w.cell? ⟨g, i * 6 + 3, none⟩ = some (.int .u64 ((P i).size : Int)) ∧ w.cell? ⟨g, i * 6 + 4, none⟩ = some (sv i) ∧ w.cell? ⟨g, i * 6 + 5, none⟩ = some (dv i) := by
  obtain ⟨g', c', hv, hc⟩ := rows_cell h hi
  obtain ⟨e1, _, _⟩ := Value.slice.inj hv
  cases e1
  exact hc
theorem Ow.getf {w : World} {τ : Nat → Nat} {B t e g m c j : Nat} {xs : List Value} (h : Ow w τ B t e 1 (.slice (some ⟨g, 0, none⟩) m c) xs.length xs) (hj : j < xs.length) : (∃ x, w.cell? ⟨g, j, none⟩ = some x) ∧ w.frozen? ⟨g, j, none⟩ = false := by
  have := row_at h.own (g := g) rfl (List.getElem?_eq_getElem hj)
  exact ⟨⟨_, this.1⟩, this.2⟩
theorem G.readU2 {w0 w : World} {τ : Nat → Nat} {bm : Nat} {P : Nat → PV} {sv dv A C : Nat → Value} {b d : Nat → Nat} {Z U : List Value} {gl cl gz cz : Nat} {uv : Value} (h : G w0 w τ (.slice (some ⟨gl, 0, none⟩) 6 cl) bm P sv dv A C b d (.slice (some ⟨gz, 0, none⟩) 6 cz) uv Z U) (hk : Lk P sv dv A C b d Z U 6 0 0) {i : Nat} (hi : i < 6) :
    ∃ gx cx sa sc, w.cell? ⟨gz, i, none⟩ = some (.slice (some ⟨gx, 0, none⟩) ((P i).S.length + 40) cx) ∧ (∀ j, j < (P i).S.length + 40 → w.cell? ⟨gx, j, none⟩ = some (mU i)) ∧ w.cell? ⟨gl, i * 6 + 4, none⟩ = some (.slice sa (P i).S.length sc) ∧ ∀ j, j < (P i).S.length → ∃ g, sa = some ⟨g, 0, none⟩ ∧ w.cell? ⟨g, j, none⟩ = some (mU i) := by
  obtain ⟨gl', cl', gz', cz', gx, cx, sa, sc, h1, h2, h3, h4, h5, h6⟩ := h.readU hk hi
  obtain ⟨e1, _, _⟩ := Value.slice.inj h1
  obtain ⟨e2, _, _⟩ := Value.slice.inj h2
  cases e1
  cases e2
  exact ⟨gx, cx, sa, sc, h3, h4, h5, h6⟩
theorem G.readS2 {w0 w : World} {τ : Nat → Nat} {bm : Nat} {P : Nat → PV} {sv dv A C : Nat → Value} {b d : Nat → Nat} {Z U : List Value} {gl cl gz cz : Nat} {zv : Value} (h : G w0 w τ (.slice (some ⟨gl, 0, none⟩) 6 cl) bm P sv dv A C b d zv (.slice (some ⟨gz, 0, none⟩) 6 cz) Z U) (hk : Lk P sv dv A C b d Z U 6 0 0) {i : Nat} (hi : i < 6) :
    ∃ gx cx sa sc, w.cell? ⟨gz, i, none⟩ = some (.slice (some ⟨gx, 0, none⟩) ((P i).D.length + 40) cx) ∧ (∀ j, j < (P i).D.length + 40 → w.cell? ⟨gx, j, none⟩ = some (mS i)) ∧ w.cell? ⟨gl, i * 6 + 5, none⟩ = some (.slice sa (P i).D.length sc) ∧ ∀ j, j < (P i).D.length → ∃ g, sa = some ⟨g, 0, none⟩ ∧ w.cell? ⟨g, j, none⟩ = some (mS i) := by
  obtain ⟨gl', cl', gz', cz', gx, cx, sa, sc, h1, h2, h3, h4, h5, h6⟩ := h.readS hk hi
  obtain ⟨e1, _, _⟩ := Value.slice.inj h1
  obtain ⟨e2, _, _⟩ := Value.slice.inj h2
  cases e1
  cases e2
  exact ⟨gx, cx, sa, sc, h3, h4, h5, h6⟩
set_option maxRecDepth 100000 in
set_option maxHeartbeats 32000000 in
theorem keeps_of (w : World) (s t : ByteArray) (hs : s.size ≤ 1048576) (ht : t.size ≤ 1048576) (hr : ∀ x : ByteArray, x.size ≤ 1048576 → ∀ w, Calls Try.prog 41 #[.string x] w (RdQ w x)) :
    Calls Try.prog 6 #[.string s, .string t] w fun e w' => e = .returned (.bool true) ∧ Below w.heap.size w w' := by
  have HD : Hid (∀ (W : World) (i : Nat), Calls Try.prog 10 #[.string (tx s t i)] W fun e w' => ∃ (sa : Option Addr) (sl sc : Nat) (da : Option Addr) (dl dc : Nat) (c : Int), e = .returned (.tuple #[.agg #[.int .i64 (dp (tx s t i)).kd, .int .i64 (dp (tx s t i)).k, .int .u64 ((dp (tx s t i)).old : Int), .int .u64 ((dp (tx s t i)).size : Int), .slice sa sl sc, .slice da dl dc], .int .i64 c]) ∧ w'.ownsRow W.heap.size 22 1 (.slice sa sl sc) (cU (dp (tx s t i)).S).length (cU (dp (tx s t i)).S) ∧ w'.ownsRow W.heap.size 9 1 (.slice da dl dc) ((dp (tx s t i)).D.map Value.string).length ((dp (tx s t i)).D.map Value.string) ∧ Below W.heap.size W w') := fun W i => decode_uni W _ (tx_small hs ht i)
  have HE : Hid (∀ (W : World) (i : Nat), Calls Try.prog 19 #[.string (tx s t i)] W fun e w' => ∃ (sa : Option Addr) (sb sc : Nat) (da : Option Addr) (db dc : Nat) (c : Int), e = .returned (.tuple #[.agg #[.int .i64 (dp (tx s t i)).kd, .int .i64 (dp (tx s t i)).k, .int .u64 ((dp (tx s t i)).old : Int), .int .u64 ((dp (tx s t i)).size : Int), .slice sa (dp (tx s t i)).S.length sc, .slice da (dp (tx s t i)).D.length dc], .int .i64 c]) ∧ RdP w' sa sb 0 sc da db 0 dc (dp (tx s t i)) ∧ Below W.heap.size W w') := fun W i => rdecode_uni W _ (hr _ (tx_small hs ht i))
  have HSm : Hid (∀ i, (tx s t i).size ≤ 1048576) := fun i => tx_small hs ht i
  obtain ⟨X, hX⟩ : ∃ X : Nat → ByteArray, X = tx s t := ⟨_, rfl⟩
  have HTx : Hid (∀ w1 W : World, Below (w1.alloc (txO s t)).heap.size (w1.alloc (txO s t)) W → ∀ i, i < 6 → W.cell? ⟨w1.heap.size, i, none⟩ = some (.string (X i))) := fun w1 W hb i hi => by rw [hX]; exact tx_cell w1 W s t hb hi
  rw [← hX] at HD HE HSm
  clear hs ht hr hX
  go_enter Try.func6, Try.ntmps6
  go_upto_region 3 with (go_at_call 9; with_reducible refine (fixed_any _).mono ?_; rintro x w1 ⟨rfl, hb1⟩)
  go_upto_region 5 with (fail)
  obtain ⟨w0, hw0⟩ : ∃ w0, w1.alloc (txO s t) = w0 := ⟨_, rfl⟩
  have HB0 : Hid (Below w.heap.size w w0) := by rw [← hw0]; exact bal hb1 _
  have HTc : Hid (∀ W : World, Below w0.heap.size w0 W → ∀ i, i < 6 → W.cell? ⟨w1.heap.size, i, none⟩ = some (.string (X i))) := by rw [← hw0]; exact HTx.out w1
  rw [hw0]
  clear HTx hw0 hb1
  obtain ⟨P, hP⟩ : ∃ P : Nat → PV, P = fun i => dp (X i) := ⟨_, rfl⟩
  have HP : Hid (∀ i, dp (X i) = P i) := fun i => by rw [hP]
  clear hP
  go_wp2
  go_loopg [6, 7, 8, 9] 6 (fun g lv iv pv ev wr => ∃ (n : Nat) (τ : Nat → Nat) (sv dv : Nat → Value), g = 6 - n ∧ n ≤ 6 ∧ iv = .int .i64 (n : Int) ∧ K0 w0 wr τ lv n P sv dv (fun i => cU (P i).S) (fun i => (P i).D.map Value.string))
  case atStart =>
    go_light
    exact ⟨0, _, _, _, rfl, Nat.zero_le _, rfl, k0_start w0 P (fun _ => .slice none 0 0) (fun _ => .slice none 0 0) _ _⟩
  case round =>
    obtain ⟨n, τ, sv, dv, rfl, hn, rfl, hK⟩ := hrel
    have hn0 : (0 : Int) ≤ (n : Int) := Int.natCast_nonneg _
    by_cases hlt : n < 6
    · have hlt' : (n : Int) < 6 := by omega
      obtain ⟨la, ln, lc, rfl⟩ := Cv.own_slice hK.l.own
      have hx := HTc.out wr hK.be n hlt
      have HN : Hid (n < 6) := hlt
      have HK := hide hK
      clear hK hlt hn
      go_upto_region 9 with (go_at_call 10; (refine (HD.out _ n).mono ?_); rintro x w2 ⟨sa, sl, sc, da, dl, dc, c, rfl, o1, o2, hb2⟩)
      obtain ⟨F, hF, h6, hb3, -⟩ := box6 w2 (.int .i64 (dp (X n)).kd) (.int .i64 (dp (X n)).k) (.int .u64 ((dp (X n)).old : Int)) (.int .u64 ((dp (X n)).size : Int)) (.slice sa sl sc) (.slice da dl dc)
      try rw [hF]
      clear hF hx
      rw [HP.out n] at h6 o1 o2
      try rw [HP.out n]
      obtain ⟨e0, e1, e2, e3, e4, e5⟩ := h6.cells
      have HO := hide (And.intro o1 (And.intro o2 (And.intro hb2 hb3)))
      have hl : F.ownsRow w0.heap.size 26 6 (.slice la ln lc) n (rows P sv dv n) := (HK.out.next (bnext hb2 hb3)).l.own
      have hB : w0.heap.size ≤ F.heap.size := (HK.out.next (bnext hb2 hb3)).be.size
      have HBF := hide hB
      clear o1 o2 hb2 hb3 h6 hB
      go_wp2_with (at_builtin; refine wpList_append_P _ rfl _ _ rfl w0.heap.size _ n (rows P sv dv n) rfl (hl.alloc _) (P n) sa sl sc da dl dc (.slice (some ⟨F.heap.size, 0, none⟩) 1 1) rfl (rdc_six F (P n) _ _) (by have := HN.out; omega) (by have := HBF.out; simp; omega) ?_; intro lv' w4 ha)
      have HF := hide (K0.add HK.out HO.out.2.2.1 HO.out.1 HO.out.2.1 (bal HO.out.2.2.2 _) ha)
      clear ha hl e0 e1 e2 e3 e4 e5
      try go_wp2
      go_roundg (6 - (n + 1))
      case rel =>
        go_light
        obtain ⟨τ', h⟩ := HF.out
        have e1 : upd (fun i => cU (P i).S) n (cU (P n).S) = fun i => cU (P i).S := upd_self (fun i => cU (P i).S) n
        have e2 : upd (fun i => (P i).D.map Value.string) n ((P n).D.map Value.string) = fun i => (P i).D.map Value.string := upd_self (fun i => (P i).D.map Value.string) n
        rw [e1, e2] at h
        exact ⟨n + 1, τ', _, _, rfl, HN.out, by first | rfl | (congr 1), h⟩
      case measure => go_light; have := HN.out; omega
    · obtain rfl : n = 6 := by omega
      clear hlt hn hn0
      obtain ⟨gl, cl, rfl⟩ : ∃ gl cl, u6 = .slice (some ⟨gl, 0, none⟩) 6 cl := by
        rcases row_form hK.l.own with ⟨h0, _⟩ | ⟨g, cap, hv, _, _⟩
        · omega
        · exact ⟨g, cap, hv⟩
      have HK1 := hide hK
      clear hK HD
      go_wp2
      go_loopg [10, 11, 12] 6 (fun g iv bx ev wr => ∃ n : Nat, g = 6 - n ∧ n ≤ 6 ∧ iv = .int .i64 (n : Int) ∧ K0 w0 wr τ (.slice (some ⟨gl, 0, none⟩) 6 cl) 6 P sv dv (fun i => cU (P i).S) (fun i => (P i).D.map Value.string))
      case atStart =>
        go_light
        exact ⟨0, rfl, Nat.zero_le _, rfl, HK1.out⟩
      case round =>
        clear HK1
        obtain ⟨n, rfl, hn, rfl, hK⟩ := hrel
        have hn0 : (0 : Int) ≤ (n : Int) := Int.natCast_nonneg _
        by_cases hlt : n < 6
        · have hlt' : (n : Int) < 6 := by omega
          have hx := HTc.out wr hK.be n hlt
          have HN : Hid (n < 6) := hlt
          obtain ⟨sa, sl, sc, hsv⟩ := Cv.own_slice (hK.s n hlt).own
          obtain ⟨da, dl, dc, hdv⟩ := Cv.own_slice (hK.d n hlt).own
          have o1 := (hK.s n hlt).own
          have o2 := (hK.d n hlt).own
          rw [hsv] at o1
          rw [hdv] at o2
          try dsimp only at o1 o2
          rw [← HP.out n] at o1 o2
          obtain ⟨e1, e2, sb, db, q1⟩ := dp_rdp (HSm.out n) o1 o2
          rw [HP.out n] at q1 e1 e2
          subst e1 e2
          have HK := hide hK
          have HQ1 := hide q1
          have HV := hide (And.intro hsv hdv)
          clear hK hlt hn o1 o2 q1 hsv hdv
          go_upto_region 14 with (go_at_call 19; (refine (HE.out _ n).mono ?_); rintro x w2 ⟨ca, cb, cc, ea, eb, ec, c, rfl, q2, hb2⟩)
          obtain ⟨F, hF, h6, hb3, -⟩ := box6 w2 (.int .i64 (dp (X n)).kd) (.int .i64 (dp (X n)).k) (.int .u64 ((dp (X n)).old : Int)) (.int .u64 ((dp (X n)).size : Int)) (.slice ca (dp (X n)).S.length cc) (.slice ea (dp (X n)).D.length ec)
          try rw [hF]
          rw [HP.out n] at h6 q2
          try rw [HP.out n]
          have hKF := HK.out.next (bnext hb2 hb3)
          obtain ⟨l0, l1, l2, l3, l4, l5⟩ := rows_cell2 hKF.l HN.out
          rw [HV.out.1] at l4
          rw [HV.out.2] at l5
          obtain ⟨e0, e1, e2, e3, e4, e5⟩ := h6.cells
          have HS : Hid (∀ W, Below F.heap.size F W → Calls Try.prog 13 #[.agg #[.int .i64 (P n).kd, .int .i64 (P n).k, .int .u64 ((P n).old : Int), .int .u64 ((P n).size : Int), .slice sa (P n).S.length sc, .slice da (P n).D.length dc], .agg #[.int .i64 (P n).kd, .int .i64 (P n).k, .int .u64 ((P n).old : Int), .int .u64 ((P n).size : Int), .slice ca (P n).S.length cc, .slice ea (P n).D.length ec]] W fun e w' => e = .returned (.bool true) ∧ Below W.heap.size W w') := fun W hW => same_yes W _ _ _ _ _ _ _ _ _ _ _ _ _ _ _ _ (P n) ((HQ1.out.next (bnext hb2 hb3)).next hW) ((q2.next hb3).next hW)
          have HKF := hide hKF
          clear hF hx hKF h6 q2 hb2 hb3 HK HQ1 HV
          have hbF : Below F.heap.size F F := Below.refl _ _
          go_region_with (first | (go_at_call 13; with_reducible refine (HS.out _ (by first | exact hbF | exact hbF.drew)).mono ?_; rintro x w5 ⟨rfl, hb5⟩))
          all_goals
            try go_wp2
            go_roundg (6 - (n + 1))
            case rel =>
              go_light
              refine ⟨n + 1, rfl, HN.out, by first | rfl | (congr 1), HKF.out.next ?_⟩
              first | exact hb5 | exact bnext hbF.drew hb5
            case measure => go_light; have := HN.out; omega
        · obtain rfl : n = 6 := by omega
          clear hlt hn hn0
          have HK1 := hide hK
          have HBd : Hid (∀ i, (P i).S.length ≤ 1048576 ∧ (P i).D.length ≤ 1048576) := fun i => by have := dp_small _ (HSm.out i); rw [HP.out i] at this; exact ⟨this.1, this.2.1⟩
          clear hK HE HTc HSm HP
          go_upto_region 17 with (fail)
          obtain ⟨τ2, k2, m2⟩ := k2_start HK1.out
          obtain ⟨wm, hwm⟩ : ∃ wm, wr.alloc mkO = wm := ⟨_, rfl⟩
          rw [hwm] at k2 m2
          rw [hwm]
          obtain ⟨bm, hbm⟩ : ∃ bm, wr.heap.size = bm := ⟨_, rfl⟩
          rw [hbm] at m2
          rw [hbm]
          have HM : Hid (K0 w0 wm τ2 (.slice (some ⟨gl, 0, none⟩) 6 cl) 6 P sv dv (fun i => cU (P i).S) (fun i => (P i).D.map Value.string) ∧ Mr wm τ2 bm ∧ Mk (fun i => (P i).S.length) mU (fun i => cU (P i).S) 0 0 ∧ Mk (fun i => (P i).D.length) mS (fun i => (P i).D.map Value.string) 0 0) :=
            ⟨k2, m2, fun i _ => ⟨by simp [cU], fun h => by omega, fun _ t ht => by omega⟩, fun i _ => ⟨by simp, fun h => by omega, fun _ t ht => by omega⟩⟩
          clear k2 m2 hwm hbm HK1
          go_wp2
          go_loopg [14, 15, 16] 6 (fun g iv j1 j2 wr => ∃ (k : Nat) (cs ds : Nat → List Value), g = 6 - k ∧ k ≤ 6 ∧ iv = .int .i64 (k : Int) ∧ K0 w0 wr τ2 (.slice (some ⟨gl, 0, none⟩) 6 cl) 6 P sv dv cs ds ∧ Mr wr τ2 bm ∧ Mk (fun i => (P i).S.length) mU cs k 0 ∧ Mk (fun i => (P i).D.length) mS ds k 0)
          case atStart =>
            go_light
            exact ⟨0, _, _, rfl, Nat.zero_le _, rfl, HM.out.1, HM.out.2.1, HM.out.2.2.1, HM.out.2.2.2⟩
          case round =>
            clear HM
            obtain ⟨k, cs, ds, rfl, hk, rfl, hK, hM, hU, hS⟩ := hrel
            have hk0 : (0 : Int) ≤ (k : Int) := Int.natCast_nonneg _
            by_cases hlt : k < 6
            · have hlt' : (k : Int) < 6 := by omega
              obtain ⟨sa, sc, hsv, hsa⟩ := (hK.s k hlt).form
              obtain ⟨da, dc, hdv, hda⟩ := (hK.d k hlt).form
              rw [(hU k hlt).1] at hsv hsa
              rw [(hS k hlt).1] at hdv hda
              have HV : Hid (sv k = .slice sa (P k).S.length sc ∧ (0 < (P k).S.length → ∃ g, sa = some ⟨g, 0, none⟩ ∧ w0.heap.size ≤ g) ∧ dv k = .slice da (P k).D.length dc ∧ (0 < (P k).D.length → ∃ g, da = some ⟨g, 0, none⟩ ∧ w0.heap.size ≤ g) ∧ k < 6) := ⟨hsv, hsa, hdv, hda, hlt⟩
              have HI : Hid (K0 w0 wr τ2 (.slice (some ⟨gl, 0, none⟩) 6 cl) 6 P sv dv cs ds ∧ Mr wr τ2 bm ∧ Mk (fun i => (P i).S.length) mU cs k 0 ∧ Mk (fun i => (P i).D.length) mS ds k 0) := ⟨hK, hM, hU, hS⟩
              obtain ⟨sn, hsn⟩ : ∃ sn, (P k).S.length = sn := ⟨_, rfl⟩
              obtain ⟨dn, hdn⟩ : ∃ dn, (P k).D.length = dn := ⟨_, rfl⟩
              have HSN : Hid ((P k).S.length = sn ∧ (P k).D.length = dn) := ⟨hsn, hdn⟩
              rw [hsn, hdn] at HV
              have bsn : (sn : Int) ≤ 1048576 := by have := (HBd.out k).1; omega
              have bdn : (dn : Int) ≤ 1048576 := by have := (HBd.out k).2; omega
              have ewk : IntKind.u64.wrap (k : Int) = (k : Int) := by rw [IntKind.wrap_u64]; omega
              clear hK hM hU hS hsv hsa hdv hda hlt hk hsn hdn
              go_wp2
              go_loopg [15] sn (fun g jv wr => ∃ (j : Nat) (cs : Nat → List Value), g = sn - j ∧ j ≤ sn ∧ jv = .int .i64 (j : Int) ∧ K0 w0 wr τ2 (.slice (some ⟨gl, 0, none⟩) 6 cl) 6 P sv dv cs ds ∧ Mr wr τ2 bm ∧ Mk (fun i => (P i).S.length) mU cs k j)
              case atStart =>
                go_light
                exact ⟨0, _, rfl, Nat.zero_le _, rfl, HI.out.1, HI.out.2.1, HI.out.2.2.1⟩
              case round =>
                obtain ⟨j, cs, rfl, hj, rfl, hK, hM, hU⟩ := hrel
                have hj0 : (0 : Int) ≤ (j : Int) := Int.natCast_nonneg _
                obtain ⟨l0, l1, l2, l3, l4, l5⟩ := rows_cell2 hK.l HV.out.2.2.2.2
                rw [HV.out.1] at l4
                clear l0 l1 l2 l3 l5
                by_cases hjl : j < sn
                · have hj' : (j : Int) < (sn : Int) := by omega
                  obtain ⟨g, rfl, -⟩ := HV.out.2.1 (by omega)
                  have hsv := HV.out.1
                  have ho := hK.s k HV.out.2.2.2.2
                  rw [hsv] at ho
                  obtain ⟨⟨x, cx⟩, cf⟩ := ho.getf (j := j) (by rw [(hU k HV.out.2.2.2.2).1]; show j < (P k).S.length; rw [HSN.out.1]; exact hjl)
                  have HN : Hid (j < sn) := hjl
                  have hst := K0.setU hK HV.out.2.2.2.2 hsv (j := j) (mU k)
                  have HF : Hid (K0 w0 (wr.setCell ⟨g, j, none⟩ (mU k)) τ2 (.slice (some ⟨gl, 0, none⟩) 6 cl) 6 P sv dv (upd cs k ((cs k).set j (mU k))) ds ∧ Mr (wr.setCell ⟨g, j, none⟩ (mU k)) τ2 bm ∧ Mk (fun i => (P i).S.length) mU (upd cs k ((cs k).set j (mU k))) k (j + 1)) := ⟨hst.1, hM.keep hst.2 (by omega) (fun _ _ => rfl), hU.step (by have := HSN.out.1; show j < (P k).S.length; omega)⟩
                  unfold mU at HF
                  clear hst ho hsv hK hM hU hjl hj
                  go_wp2
                  go_roundg (sn - (j + 1))
                  case rel =>
                    go_light
                    exact ⟨j + 1, _, rfl, HN.out, by first | rfl | (congr 1), HF.out.1, HF.out.2.1, HF.out.2.2⟩
                  case measure => go_light; have := HN.out; omega
                · obtain rfl : j = sn := by omega
                  have hj' : ¬ (j : Int) < (j : Int) := by omega
                  clear hjl hj
                  have HI2 : Hid (K0 w0 wr τ2 (.slice (some ⟨gl, 0, none⟩) 6 cl) 6 P sv dv cs ds ∧ Mr wr τ2 bm ∧ Mk (fun i => (P i).S.length) mU cs (k + 1) 0 ∧ Mk (fun i => (P i).D.length) mS ds k 0) := ⟨hK, hM, Mk.shut (by show Mk _ _ _ _ (P k).S.length; rw [HSN.out.1]; exact hU), HI.out.2.2.2⟩
                  clear hK hM hU HI
                  go_wp2
                  go_loopg [16] dn (fun g jv wr => ∃ (j : Nat) (ds : Nat → List Value), g = dn - j ∧ j ≤ dn ∧ jv = .int .i64 (j : Int) ∧ K0 w0 wr τ2 (.slice (some ⟨gl, 0, none⟩) 6 cl) 6 P sv dv cs ds ∧ Mr wr τ2 bm ∧ Mk (fun i => (P i).D.length) mS ds k j)
                  case atStart =>
                    go_light
                    exact ⟨0, _, rfl, Nat.zero_le _, rfl, HI2.out.1, HI2.out.2.1, HI2.out.2.2.2⟩
                  case round =>
                    clear l4
                    obtain ⟨q, ds, rfl, hq, rfl, hK, hM, hS⟩ := hrel
                    have hq0 : (0 : Int) ≤ (q : Int) := Int.natCast_nonneg _
                    obtain ⟨l0, l1, l2, l3, l4, l5⟩ := rows_cell2 hK.l HV.out.2.2.2.2
                    rw [HV.out.2.2.1] at l5
                    clear l0 l1 l2 l3 l4
                    by_cases hql : q < dn
                    · have hq' : (q : Int) < (dn : Int) := by omega
                      obtain ⟨g, rfl, -⟩ := HV.out.2.2.2.1 (by omega)
                      have hdv := HV.out.2.2.1
                      have ho := hK.d k HV.out.2.2.2.2
                      rw [hdv] at ho
                      obtain ⟨⟨x, cx⟩, cf⟩ := ho.getf (j := q) (by rw [(hS k HV.out.2.2.2.2).1]; show q < (P k).D.length; rw [HSN.out.2]; exact hql)
                      have hmk := hM.2.2 k HV.out.2.2.2.2
                      have HN : Hid (q < dn) := hql
                      have hst := K0.setS hK HV.out.2.2.2.2 hdv (j := q) (mS k)
                      have HF : Hid (K0 w0 (wr.setCell ⟨g, q, none⟩ (mS k)) τ2 (.slice (some ⟨gl, 0, none⟩) 6 cl) 6 P sv dv cs (upd ds k ((ds k).set q (mS k))) ∧ Mr (wr.setCell ⟨g, q, none⟩ (mS k)) τ2 bm ∧ Mk (fun i => (P i).D.length) mS (upd ds k ((ds k).set q (mS k))) k (q + 1)) := ⟨hst.1, hM.keep hst.2 (by omega) (fun _ _ => rfl), hS.step (by have := HSN.out.2; show q < (P k).D.length; omega)⟩
                      have HFd : Hid (∀ z, K0 w0 ((wr.setCell ⟨g, q, none⟩ (mS k)).drewN z) τ2 (.slice (some ⟨gl, 0, none⟩) 6 cl) 6 P sv dv cs (upd ds k ((ds k).set q (mS k))) ∧ Mr ((wr.setCell ⟨g, q, none⟩ (mS k)).drewN z) τ2 bm) := fun z => ⟨HF.out.1.next (below_drewN (Below.refl _ _) z), HF.out.2.1.next (below_drewN (Below.refl _ _) z)⟩
                      have HFe : Hid (K0 w0 ((wr.setCell ⟨g, q, none⟩ (mS k)).drew) τ2 (.slice (some ⟨gl, 0, none⟩) 6 cl) 6 P sv dv cs (upd ds k ((ds k).set q (mS k))) ∧ Mr ((wr.setCell ⟨g, q, none⟩ (mS k)).drew) τ2 bm) := ⟨HF.out.1.next ((Below.refl _ _).drew), HF.out.2.1.next ((Below.refl _ _).drew)⟩
                      unfold mS at HF HFd HFe hmk
                      clear hst ho hdv hK hM hS hql hq
                      go_upto_region 27 with (fail)
                      go_region
                      all_goals
                        try go_wp2
                        go_roundg (dn - (q + 1))
                        case rel =>
                          go_light
                          first
                            | exact ⟨q + 1, _, rfl, HN.out, by first | rfl | (congr 1), HF.out.1, HF.out.2.1, HF.out.2.2⟩
                            | exact ⟨q + 1, _, rfl, HN.out, by first | rfl | (congr 1), HFe.out.1, HFe.out.2, HF.out.2.2⟩
                            | exact ⟨q + 1, _, rfl, HN.out, by first | rfl | (congr 1), (HFd.out _).1, (HFd.out _).2, HF.out.2.2⟩
                        case measure => go_light; have := HN.out; omega
                    · obtain rfl : q = dn := by omega
                      have hq' : ¬ (q : Int) < (q : Int) := by omega
                      have HF : Hid (K0 w0 wr τ2 (.slice (some ⟨gl, 0, none⟩) 6 cl) 6 P sv dv cs ds ∧ Mr wr τ2 bm ∧ Mk (fun i => (P i).D.length) mS ds (k + 1) 0) := ⟨hK, hM, Mk.shut (by show Mk _ _ _ _ (P k).D.length; rw [HSN.out.2]; exact hS)⟩
                      clear hK hM hS hql hq
                      go_wp2
                      go_roundg (6 - (k + 1))
                      case rel =>
                        go_light
                        exact ⟨k + 1, _, _, rfl, HV.out.2.2.2.2, by first | rfl | (congr 1), HF.out.1, HF.out.2.1, HI2.out.2.2.1, HF.out.2.2⟩
                      case measure => go_light; have := HV.out.2.2.2.2; omega
            · obtain rfl : k = 6 := by omega
              clear hlt hk hk0
              have HG : Hid (G w0 wr τ2 (.slice (some ⟨gl, 0, none⟩) 6 cl) bm P sv dv sv dv (fun i => (P i).S.length) (fun i => (P i).D.length) (.slice none 0 0) (.slice none 0 0) [] []) := g_start hK hM (fun i hi => (hU i hi).2.1 hi) (fun i hi => (hS i hi).2.1 hi)
              clear hK hM hU hS
              go_wp2
              go_loopg [17, 18, 19, 20, 21, 22] 6 (fun g zv uv iv av bv jv wr => ∃ (k : Nat) (τ : Nat → Nat) (A C : Nat → Value) (b d : Nat → Nat) (Z U : List Value), g = 6 - k ∧ k ≤ 6 ∧ iv = .int .i64 (k : Int) ∧ G w0 wr τ (.slice (some ⟨gl, 0, none⟩) 6 cl) bm P sv dv A C b d zv uv Z U ∧ Lk P sv dv A C b d Z U k 0 0 ∧ (k < 6 → A k = sv k ∧ C k = dv k))
              case atStart =>
                go_light
                exact ⟨0, τ2, sv, dv, _, _, [], [], rfl, Nat.zero_le _, rfl, HG.out, lk_start P sv dv, fun _ => ⟨rfl, rfl⟩⟩
              case round =>
                clear HG
                obtain ⟨k, τ3, A, C, b, d, Z, U, rfl, hk, rfl, hG, hL, hX⟩ := hrel
                have hk0 : (0 : Int) ≤ (k : Int) := Int.natCast_nonneg _
                obtain ⟨za, zn, zc, rfl⟩ := Cv.own_slice hG.z.own
                obtain ⟨ua, un, uc, rfl⟩ := Cv.own_slice hG.u.own
                by_cases hlt : k < 6
                · have hlt' : (k : Int) < 6 := by omega
                  obtain ⟨l0, l1, l2, l3, l4, l5⟩ := rows_cell2 hG.l hlt
                  obtain ⟨sa, sc, hsv, -⟩ := hG.rs k hlt
                  obtain ⟨da, dc, hdv, -⟩ := hG.rd k hlt
                  rw [hsv] at l4
                  rw [hdv] at l5
                  have ewk : IntKind.u64.wrap (k : Int) = (k : Int) := by rw [IntKind.wrap_u64]; omega
                  have HI : Hid (G w0 wr τ3 (.slice (some ⟨gl, 0, none⟩) 6 cl) bm P sv dv A C b d (.slice za zn zc) (.slice ua un uc) Z U ∧ Lk P sv dv A C b d Z U k 0 0 ∧ A k = .slice sa (P k).S.length sc ∧ C k = .slice da (P k).D.length dc ∧ k < 6) := ⟨hG, hL, by rw [(hX hlt).1, hsv], by rw [(hX hlt).2, hdv], hlt⟩
                  clear hG hL hX hsv hdv hlt hk l0 l1 l2 l3
                  go_wp2
                  go_loopg [20, 21, 22] 40 (fun g av bv jv wr => ∃ (j : Nat) (τ : Nat → Nat) (A C : Nat → Value) (b d : Nat → Nat), g = 40 - j ∧ j ≤ 40 ∧ jv = .int .i64 (j : Int) ∧ av = A k ∧ bv = C k ∧ G w0 wr τ (.slice (some ⟨gl, 0, none⟩) 6 cl) bm P sv dv A C b d (.slice za zn zc) (.slice ua un uc) Z U ∧ Lk P sv dv A C b d Z U k j j)
                  case atStart =>
                    go_light
                    exact ⟨0, τ3, A, C, b, d, rfl, Nat.zero_le _, rfl, HI.out.2.2.1.symm, HI.out.2.2.2.1.symm, HI.out.1, HI.out.2.1⟩
                  case round =>
                    clear l4 l5
                    obtain ⟨j, τ4, A, C, b, d, rfl, hj, rfl, rfl, rfl, hG, hL⟩ := hrel
                    have hj0 : (0 : Int) ≤ (j : Int) := Int.natCast_nonneg _
                    have HN : Hid (k < 6) := HI.out.2.2.2.2
                    by_cases hjl : j < 40
                    · have hj' : (j : Int) < 40 := by omega
                      have HJ : Hid (j < 40) := hjl
                      have HK := hide (And.intro hG hL)
                      have hx := (hG.x k HN.out).own
                      have bb : b k ≤ 1048616 ∧ d k ≤ 1048616 := by have h1 := (hL.2.2 k HN.out).2.2 rfl; have h2 := HBd.out k; omega
                      have HBB := hide bb
                      have hB : w0.heap.size ≤ wr.heap.size := hG.be.size
                      have HBz := hide hB
                      clear hG hL hjl hj bb hB
                      go_upto_region 39 with (at_builtin; refine wpList_append_U1 _ rfl _ _ rfl w0.heap.size (A k) (b k) (List.replicate (b k) (mU k)) rfl (hx.alloc _) (1125899906842624 + (k : Int)) (.slice (some ⟨wr.heap.size, 0, none⟩) 1 1) rfl (rdc_one wr _ _) (by have := HBB.out; omega) (by have := HBz.out; simp; omega) ?_; intro a1 w3 ha)
                      obtain ⟨τ5, hG3⟩ := G.appU (HK.out.1.next (bal (Below.refl wr.heap.size wr) (.cells #[mU k] 22))) HN.out ha
                      have hmk := hG3.m.2.2 k HN.out
                      have hy := (hG3.y k HN.out).own
                      have hB : w0.heap.size ≤ w3.heap.size := hG3.be.size
                      have HBz := hide hB
                      have HG3 := hide hG3
                      unfold mS at hmk
                      clear hx ha hG3 hB
                      go_wp2_with (at_builtin; refine wpList_append_S1 _ rfl _ _ rfl w0.heap.size (C k) (d k) (List.replicate (d k) (mS k)) rfl (hy.alloc _) (mT k) (.slice (some ⟨w3.heap.size, 0, none⟩) 1 1) rfl (rdc_one w3 _ _) (by have := HBB.out; omega) (by have := HBz.out; simp; omega) ?_; intro c1 w5 ha)
                      have HG4 := hide (G.appS (HG3.out.next (bal (Below.refl w3.heap.size w3) (.cells #[mS k] 9))) HN.out ha)
                      clear hy ha hmk
                      try go_wp2
                      go_roundg (40 - (j + 1))
                      case rel =>
                        go_light
                        obtain ⟨τ6, hG4⟩ := HG4.out
                        exact ⟨j + 1, τ6, _, _, _, _, rfl, HJ.out, by first | rfl | (congr 1), by rw [upd_at], by rw [upd_at], hG4, (HK.out.2.stepU a1).stepS c1⟩
                      case measure => go_light; have := HJ.out; omega
                    · obtain rfl : j = 40 := by omega
                      clear hjl hj hj0
                      obtain ⟨aa, an, ac, hA⟩ := Cv.own_slice (hG.x k HN.out).own
                      obtain ⟨ca, cn, cc, hC⟩ := Cv.own_slice (hG.y k HN.out).own
                      have HK := hide (And.intro hG (And.intro hL (And.intro hA hC)))
                      have hz := hG.z.own
                      have hB : w0.heap.size ≤ wr.heap.size := hG.be.size
                      have HBz := hide hB
                      have HZL : Hid (Z.length ≤ 1000 ∧ U.length ≤ 1000) := ⟨by have := hL.1; have := HN.out; omega, by have := hL.2.1; have := HN.out; omega⟩
                      rw [hA, hC]
                      clear hG hL hA hC hB
                      go_upto_region 41 with (at_builtin; refine wpList_append_Z1 _ rfl _ _ rfl w0.heap.size _ Z.length Z rfl (hz.alloc _) aa an ac (.slice (some ⟨wr.heap.size, 0, none⟩) 1 1) rfl (rdc_one wr _ _) HZL.out.1 (by have := HBz.out; simp; omega) ?_; intro z1 w3 ha)
                      obtain ⟨τ5, hG3⟩ := G.appZ (HK.out.1.next (bal (Below.refl wr.heap.size wr) (.cells #[.slice aa an ac] 23))) ha
                      have hu := hG3.u.own
                      have hB : w0.heap.size ≤ w3.heap.size := hG3.be.size
                      have HBz := hide hB
                      have HG3 := hide hG3
                      clear hz ha hG3 hB
                      go_wp2_with (at_builtin; refine wpList_append_W1 _ rfl _ _ rfl w0.heap.size _ U.length U rfl (hu.alloc _) ca cn cc (.slice (some ⟨w3.heap.size, 0, none⟩) 1 1) rfl (rdc_one w3 _ _) HZL.out.2 (by have := HBz.out; simp; omega) ?_; intro y1 w5 ha)
                      have HG4 := hide (G.appW (HG3.out.next (bal (Below.refl w3.heap.size w3) (.cells #[.slice ca cn cc] 24))) ha)
                      clear hu ha
                      try go_wp2
                      go_roundg (6 - (k + 1))
                      case rel =>
                        go_light
                        obtain ⟨τ6, hG4⟩ := HG4.out
                        have hs := HK.out.2.1.shut
                        rw [HK.out.2.2.1, HK.out.2.2.2] at hs
                        exact ⟨k + 1, τ6, A, C, b, d, _, _, rfl, HN.out, by first | rfl | (congr 1), hG4, hs.1, hs.2⟩
                      case measure => go_light; have := HN.out; omega
                · obtain rfl : k = 6 := by omega
                  clear hlt hk hk0 hX
                  obtain ⟨gz, cz, hzv⟩ : ∃ gz cz, Value.slice za zn zc = .slice (some ⟨gz, 0, none⟩) 6 cz := by
                    have h := hG.z.own
                    rw [hL.1] at h
                    rcases row_form h with ⟨h0, _⟩ | ⟨g, cap, hv, _, _⟩
                    · omega
                    · exact ⟨g, cap, hv⟩
                  obtain ⟨gu, cu, huv⟩ : ∃ gu cu, Value.slice ua un uc = .slice (some ⟨gu, 0, none⟩) 6 cu := by
                    have h := hG.u.own
                    rw [hL.2.1] at h
                    rcases row_form h with ⟨h0, _⟩ | ⟨g, cap, hv, _, _⟩
                    · omega
                    · exact ⟨g, cap, hv⟩
                  rw [hzv, huv] at hG
                  rw [hzv, huv]
                  have HG := hide hG
                  have HL := hide hL
                  clear hG hL hzv huv
                  go_wp2
                  go_loopg [23, 24, 25] 6 (fun g iv j1 j2 wr => ∃ i : Nat, g = 6 - i ∧ i ≤ 6 ∧ iv = .int .i64 (i : Int) ∧ G w0 wr τ3 (.slice (some ⟨gl, 0, none⟩) 6 cl) bm P sv dv A C b d (.slice (some ⟨gz, 0, none⟩) 6 cz) (.slice (some ⟨gu, 0, none⟩) 6 cu) Z U)
                  case atStart =>
                    go_light
                    exact ⟨0, rfl, Nat.zero_le _, rfl, HG.out⟩
                  case round =>
                    clear HG
                    obtain ⟨i, rfl, hi, rfl, hG⟩ := hrel
                    have hi0 : (0 : Int) ≤ (i : Int) := Int.natCast_nonneg _
                    by_cases hlt : i < 6
                    · have hlt' : (i : Int) < 6 := by omega
                      have HN : Hid (i < 6) := hlt
                      have ewk : IntKind.u64.wrap (i : Int) = (i : Int) := by rw [IntKind.wrap_u64]; omega
                      have HG := hide hG
                      obtain ⟨sn, hsn⟩ : ∃ sn, (P i).S.length = sn := ⟨_, rfl⟩
                      obtain ⟨dn, hdn⟩ : ∃ dn, (P i).D.length = dn := ⟨_, rfl⟩
                      have HSN : Hid ((P i).S.length = sn ∧ (P i).D.length = dn) := ⟨hsn, hdn⟩
                      have bsn : (sn : Int) ≤ 1048576 := by have := (HBd.out i).1; omega
                      have bdn : (dn : Int) ≤ 1048576 := by have := (HBd.out i).2; omega
                      obtain ⟨s4, hs4⟩ : ∃ s4, sn + 40 = s4 := ⟨_, rfl⟩
                      obtain ⟨d4, hd4⟩ : ∃ d4, dn + 40 = d4 := ⟨_, rfl⟩
                      have HS4 : Hid (sn + 40 = s4 ∧ dn + 40 = d4) := ⟨hs4, hd4⟩
                      have bs4 : (s4 : Int) ≤ 1048616 := by omega
                      have bd4 : (d4 : Int) ≤ 1048616 := by omega
                      clear hG hlt hi hsn hdn hs4 hd4
                      go_wp2
                      go_loopg [24] s4 (fun g jv wr => ∃ j : Nat, g = s4 - j ∧ j ≤ s4 ∧ jv = .int .i64 (j : Int) ∧ G w0 wr τ3 (.slice (some ⟨gl, 0, none⟩) 6 cl) bm P sv dv A C b d (.slice (some ⟨gz, 0, none⟩) 6 cz) (.slice (some ⟨gu, 0, none⟩) 6 cu) Z U)
                      case atStart =>
                        go_light
                        exact ⟨0, rfl, Nat.zero_le _, rfl, HG.out⟩
                      case round =>
                        clear HG
                        obtain ⟨j, rfl, hj, rfl, hG⟩ := hrel
                        have hj0 : (0 : Int) ≤ (j : Int) := Int.natCast_nonneg _
                        obtain ⟨gx, cx, sa, sc, r1, r2, r3, r4⟩ := hG.readU2 HL.out HN.out
                        rw [HSN.out.1, HS4.out.1] at r1 r2
                        rw [HSN.out.1] at r3 r4
                        by_cases hjl : j < s4
                        · have hj' : (j : Int) < (s4 : Int) := by omega
                          have HJ : Hid (j < s4) := hjl
                          have r5 := r2 j hjl
                          unfold mU at r5
                          by_cases hjs : j < sn
                          · have hjs' : (j : Int) < (sn : Int) := by omega
                            obtain ⟨g, rfl, r6⟩ := r4 j hjs
                            unfold mU at r6
                            have HG := hide hG
                            clear hG r2 r4 hjl hj hjs
                            go_wp2
                            go_roundg (s4 - (j + 1))
                            case rel =>
                              go_light
                              exact ⟨j + 1, rfl, HJ.out, by first | rfl | (congr 1), HG.out⟩
                            case measure => go_light; have := HJ.out; omega
                          · have hjs' : ¬ (j : Int) < (sn : Int) := by omega
                            have HG := hide hG
                            clear hG r2 r4 hjl hj hjs
                            go_wp2
                            go_roundg (s4 - (j + 1))
                            case rel =>
                              go_light
                              exact ⟨j + 1, rfl, HJ.out, by first | rfl | (congr 1), HG.out⟩
                            case measure => go_light; have := HJ.out; omega
                        · obtain rfl : j = s4 := by omega
                          have hj' : ¬ (j : Int) < (j : Int) := by omega
                          have HG := hide hG
                          clear hG r2 r4 hjl hj
                          go_wp2
                          clear r1 r3
                          go_loopg [25] d4 (fun g jv wr => ∃ q : Nat, g = d4 - q ∧ q ≤ d4 ∧ jv = .int .i64 (q : Int) ∧ G w0 wr τ3 (.slice (some ⟨gl, 0, none⟩) 6 cl) bm P sv dv A C b d (.slice (some ⟨gz, 0, none⟩) 6 cz) (.slice (some ⟨gu, 0, none⟩) 6 cu) Z U)
                          case atStart =>
                            go_light
                            exact ⟨0, rfl, Nat.zero_le _, rfl, HG.out⟩
                          case round =>
                            clear HG
                            obtain ⟨q, rfl, hq, rfl, hG⟩ := hrel
                            have hq0 : (0 : Int) ≤ (q : Int) := Int.natCast_nonneg _
                            obtain ⟨gx, cx, da, dc, r1, r2, r3, r4⟩ := hG.readS2 HL.out HN.out
                            rw [HSN.out.2, HS4.out.2] at r1 r2
                            rw [HSN.out.2] at r3 r4
                            have hmk := hG.m.2.2 i HN.out
                            unfold mS at hmk
                            by_cases hql : q < d4
                            · have hq' : (q : Int) < (d4 : Int) := by omega
                              have HJ : Hid (q < d4) := hql
                              have r5 := r2 q hql
                              unfold mS at r5
                              by_cases hqs : q < dn
                              · have hqs' : (q : Int) < (dn : Int) := by omega
                                have hd : decide ((q : Int) < (dn : Int)) = true := decide_eq_true hqs'
                                have hd2 : decide (q < dn) = true := decide_eq_true hqs
                                obtain ⟨g, rfl, r6⟩ := r4 q hqs
                                unfold mS at r6
                                have HG := hide hG
                                clear hG r2 r4 hql hq hqs
                                go_upto_region 53 with (fail)
                                go_quiet (fail)
                                try go_wp2
                                go_roundg (d4 - (q + 1))
                                case rel =>
                                  go_light
                                  exact ⟨q + 1, rfl, HJ.out, by first | rfl | (congr 1), HG.out.next (below_drewN (Below.refl _ _) _)⟩
                                case measure => go_light; have := HJ.out; omega
                              · have hqs' : ¬ (q : Int) < (dn : Int) := by omega
                                have hd : decide ((q : Int) < (dn : Int)) = false := decide_eq_false hqs'
                                have hd2 : decide (q < dn) = false := decide_eq_false hqs
                                have HG := hide hG
                                clear hG r2 r4 hql hq hqs
                                go_upto_region 53 with (fail)
                                go_quiet (fail)
                                try go_wp2
                                go_roundg (d4 - (q + 1))
                                case rel =>
                                  go_light
                                  exact ⟨q + 1, rfl, HJ.out, by first | rfl | (congr 1), HG.out.next (below_drewN (Below.refl _ _) _)⟩
                                case measure => go_light; have := HJ.out; omega
                            · obtain rfl : q = d4 := by omega
                              have hq' : ¬ (q : Int) < (q : Int) := by omega
                              have HG := hide hG
                              clear hG r2 r3 r4 hql hq hmk
                              go_wp2
                              go_roundg (6 - (i + 1))
                              case rel =>
                                go_light
                                exact ⟨i + 1, rfl, HN.out, by first | rfl | (congr 1), HG.out⟩
                              case measure => go_light; have := HN.out; omega
                    · obtain rfl : i = 6 := by omega
                      have HF : Hid (Below w.heap.size w wr) := bnext HB0.out hG.be
                      clear hlt hi hi0 hG
                      go_wp2
                      go_ret
                      exact ⟨rfl, HF.out⟩
end Go.Proofs.Ytelglfmppmdmoaa
