/-
  Memory for codec: texts and numbers that can be read, lists of one's own, a proof in six cells (off elder texts). Own work.
-/
import Derived.Test.YtelglfmppmdmoaaWWalkD
import Derived.Test.YtelglfmppmdmoaaCvWalkE
import Derived.Test.YtelglfmppmdmoaaPlan
namespace Go.Proofs.Ytelglfmppmdmoaa
open Go.RowKit
attribute [local go_sem ↓] Go.wp_at_zero Go.wp_at_succ
theorem range_lt {w : World} {b o : Nat} {cs : List Value} (h : w.rangeAt b o cs) (hc : cs ≠ []) : b < w.heap.size := by
  obtain ⟨v, r, rfl⟩ := List.exists_cons_of_ne_nil hc
  have := h 0 v rfl
  exact World.block_lt_of_cell? _ _ this
theorem range_below {B : Nat} {a w : World} (hb : Below B a w) {b o : Nat} {cs : List Value} (hlt : b < B) (h : a.rangeAt b o cs) : w.rangeAt b o cs := fun j v hv => by
  rw [hb.cell (p := ⟨b, o + j, none⟩) hlt]; exact h j v hv
theorem range_new (w : World) (cs : List Value) (t : TypeId) : (w.alloc (.cells cs.toArray t)).rangeAt w.heap.size 0 cs := fun j v hv => by
  rw [Nat.zero_add, World.cell?_alloc_new]
  simpa using hv
/-- A list of texts that can be read. -/
structure RdS (w : World) (ao : Option Addr) (b off len : Nat) (ss : List ByteArray) : Prop where
  hl : ss.length = len
  ptr : 0 < len → ao = some ⟨b, off, none⟩
  rng : w.rangeAt b off (ss.map Value.string)
  sz : ∀ s ∈ ss, s.size ≤ 9223372036854775807
theorem RdS.lt {w : World} {ao : Option Addr} {b off len : Nat} {ss : List ByteArray} (h : RdS w ao b off len ss) (h0 : 0 < len) : b < w.heap.size :=
  range_lt h.rng (by intro e; have := congrArg List.length e; rw [List.length_map, List.length_nil, h.hl] at this; omega)
theorem RdS.next {w W : World} {ao : Option Addr} {b off len B : Nat} {ss : List ByteArray} (h : RdS w ao b off len ss) (hb : Below B w W) (hB : w.heap.size ≤ B) : RdS W ao b off len ss := by
  refine ⟨h.hl, h.ptr, ?_, h.sz⟩
  by_cases h0 : 0 < len
  · exact range_below hb (Nat.lt_of_lt_of_le (h.lt h0) hB) h.rng
  · have : ss = [] := List.length_eq_zero_iff.1 (by rw [h.hl]; omega)
    rw [this]; intro j v hv; cases hv
theorem RdS.at {w : World} {ao : Option Addr} {b off len : Nat} {ss : List ByteArray} (h : RdS w ao b off len ss) {k : Nat} (hk : k < len) : w.cell? ⟨b, off + k, none⟩ = some (.string (ss.getD k ByteArray.empty)) :=
  h.rng k _ (by have := h.hl; simp [List.getElem?_eq_getElem (show k < ss.length by omega), List.getD_eq_getElem?_getD])
theorem getD_mem {ss : List ByteArray} {k : Nat} (hk : k < ss.length) : ss.getD k ByteArray.empty ∈ ss := by
  rw [List.getD_eq_getElem?_getD, List.getElem?_eq_getElem hk]; exact List.getElem_mem _
theorem Try.infoS : (Try.prog.info? 9).map (fun i => (i.zero, i.size, i.bytes)) = some (some (.string ByteArray.empty), 1, 16) := by kernel_rfl
theorem rds_one (w : World) (s : ByteArray) (hs : s.size ≤ 9223372036854775807) : RdS (w.alloc (.cells #[.string s] 9)) (some ⟨w.heap.size, 0, none⟩) w.heap.size 0 1 [s] :=
  ⟨rfl, fun _ => rfl, range_new w [.string s] 9, fun x hx => by simp at hx; subst hx; exact hs⟩
/-- A list of texts of one's own: its block was made behind B. -/
def OwnS (w : World) (B : Nat) (v : Value) (ss : List ByteArray) : Prop := w.ownsRow B 9 1 v ss.length (ss.map Value.string)
theorem owns_rds {w : World} {B : Nat} {v : Value} {ss : List ByteArray} (h : OwnS w B v ss) (hs : ∀ s ∈ ss, s.size ≤ 9223372036854775807) : ∃ ao b cap, v = .slice ao ss.length cap ∧ RdS w ao b 0 ss.length ss ∧ ss.length ≤ cap ∧ (ao = none → cap = 0) := by
  obtain ⟨h1, h2⟩ := h
  rcases h2 with ⟨hv, h0⟩ | ⟨g, cap, cur, rfl, hg, hh, hc1, hc, hsz, ht⟩
  · have : ss = [] := List.length_eq_zero_iff.1 h0
    subst this
    exact ⟨none, 0, 0, by rw [hv]; rfl, ⟨rfl, fun h => absurd h (Nat.lt_irrefl 0), (fun j v h => by cases h), hs⟩, Nat.le_refl _, fun _ => rfl⟩
  · refine ⟨some ⟨g, 0, none⟩, g, cap, rfl, ⟨rfl, fun _ => rfl, fun j v hj => ?_, hs⟩, hc1, fun h => by cases h⟩
    rw [Nat.zero_add, cell_of_row w g j cur 9 (0, 0) hh]
    rw [← ht, List.getElem?_take] at hj
    split at hj
    · simpa using hj
    · cases hj
/-- The law: texts appended to texts of one's own. -/
theorem wpList_append_S (w : World) {ops : Array Oper} {rest : List Oper} {o : Oper} {a : Act} {Q : Exit → Act → World → Prop}
    (hg : o.guard = none) (s x : Operand) (hop : o.op = Op.call { callee := Callee.builtin Builtin.append, args := #[s, x], argTypes := #[24, 24] })
    (B : Nat) (v : Value) (L : List ByteArray) (hs : a.eval s = v) (hown : OwnS w B v L) (ao : Option Addr) (b off cap : Nat) (M : List ByteArray) (hx : a.eval x = .slice ao M.length cap) (hr : RdS w ao b off M.length M) (hn : ao = none → cap = 0)
    (hlen : L.length + M.length ≤ 8796093022208) (hB : B ≤ w.heap.size)
    (hK : ∀ v' w', OwnS w' B v' (L ++ M) → Below B w w' → wpList Try.prog ops Q rest (a.put o.dst v') w') : wpList Try.prog ops Q (o :: rest) a w := by
  obtain ⟨i0, hi, hz0, hz1, hz2⟩ := info_parts Try.infoS
  have hlt : ∀ k, v.ownBlock = some k → B ≤ k := by
    obtain ⟨_, h2⟩ := hown
    rcases h2 with ⟨rfl, _⟩ | ⟨g, cp, cur, rfl, hg, _⟩
    · intro k hk; cases hk
    · intro k hk; cases hk; exact hg
  cases ao with
  | none =>
    obtain rfl := hn rfl
    have hM : M = [] := by
      cases M with
      | nil => rfl
      | cons m r => exact absurd (hr.ptr (by simp)) (by simp)
    subst hM
    refine wpList_append_own_none hg s x _ hop B 9 i0 1 Try.underlying24 hi _ _ _ hs hown hx (hK _ w ?_ (Below.refl _ _))
    rw [List.append_nil]; exact hown
  | some ad =>
    have hnews : ∀ j u, (M.map Value.string)[j]? = some u → w.cell? (ad.add j) = some u := fun j u hu => by
      have hj : j < M.length := by have := (List.getElem?_eq_some_iff.1 hu).1; rwa [List.length_map] at this
      have := Option.some.inj (hr.ptr (by omega))
      subst this
      rw [Addr.add_mid]; exact hr.rng j u hu
    refine wpList_append_own w hg s x _ hop B 9 i0 (.string ByteArray.empty) 1 16 Try.underlying24 hi hz0 hz1 hz2 rfl (by decide) _ _ _ hs hown ad M.length cap (M.map Value.string) hx (by simp) hnews (by intro u hu; obtain ⟨y, _, rfl⟩ := List.mem_map.1 hu; rfl) (by unfold maxLen; omega) (by omega) hB ?_
    intro v' w' h1 h2 _
    refine hK v' w' ?_ ((Below.refl _ _).grown h2 hB hlt)
    rw [OwnS, List.length_append, List.map_append]; exact h1
theorem own_al {w : World} {B : Nat} {v : Value} {l : List ByteArray} (h : OwnS w B v l) (o : Obj) : OwnS (w.alloc o) B v l := by
  obtain ⟨h1, h2⟩ := h
  refine ⟨h1, ?_⟩
  rcases h2 with h2 | ⟨g, cap, cur, rfl, hg, hh, r⟩
  · exact .inl h2
  · exact .inr ⟨g, cap, cur, rfl, hg, by rw [Below.heap_alloc _ _ _ (Array.getElem?_eq_some_iff.1 hh).1]; exact hh, r⟩
theorem own_next {w W : World} {B B' : Nat} {v : Value} {l : List ByteArray} (h : OwnS w B v l) (hb : Below B' w W) (hB : w.heap.size ≤ B') : OwnS W B v l := by
  obtain ⟨h1, h2⟩ := h
  refine ⟨h1, ?_⟩
  rcases h2 with h2 | ⟨g, cap, cur, rfl, hg, hh, r⟩
  · exact .inl h2
  · exact .inr ⟨g, cap, cur, rfl, hg, by rw [hb.block g (Nat.lt_of_lt_of_le (Array.getElem?_eq_some_iff.1 hh).1 hB)]; exact hh, r⟩
theorem own_form {w : World} {B : Nat} {v : Value} {l : List ByteArray} (h : OwnS w B v l) (h0 : 0 < l.length) : ∃ g cap, v = .slice (some ⟨g, 0, none⟩) l.length cap ∧ B ≤ g ∧ l.length ≤ cap ∧ cap ≤ maxLen := by
  obtain ⟨h1, h2⟩ := h
  rcases h2 with ⟨_, h2⟩ | ⟨g, cap, cur, hv, hg, _, hc, hm, _⟩
  · omega
  · exact ⟨g, cap, hv, hg, hc, hm⟩
theorem own_cell {w : World} {B g n cap : Nat} {l : List ByteArray} (h : OwnS w B (.slice (some ⟨g, 0, none⟩) n cap) l) {j : Nat} (hj : j < l.length) : w.cell? ⟨g, j, none⟩ = some (.string (l.getD j ByteArray.empty)) ∧ w.frozen? ⟨g, j, none⟩ = false := by
  obtain ⟨h1, h2⟩ := h
  rcases h2 with ⟨h2, _⟩ | ⟨g', cap', cur, hv, hg, hh, hc, hm, hz, ht⟩
  · cases h2
  · obtain ⟨e1, e2, e3⟩ := Value.slice.inj hv
    cases e1
    refine ⟨?_, frozen_of_row w g j cur 9 hh⟩
    rw [cell_of_row w g j cur 9 (0, 0) hh]
    have : (cur.toList.take (l.length * 1))[j]? = some (.string (l.getD j ByteArray.empty)) := by
      rw [ht]; simp [List.getElem?_eq_getElem hj, List.getD_eq_getElem?_getD]
    rw [List.getElem?_take_of_lt (by omega)] at this
    simpa using this
theorem owns_nil (w : World) (B : Nat) : OwnS w B (.slice none 0 0) [] := ⟨rfl, .inl ⟨rfl, rfl⟩⟩
open Cv (RdC zl cU)
theorem keep_row {w w' : World} {B T s n : Nat} {x : Value} {cs : List Value} (h : w.ownsRow B T s x n cs) (hk : ∀ g, x.ownBlock = some g → B ≤ g → w'.heap[g]? = w.heap[g]?) : w'.ownsRow B T s x n cs := by
  obtain ⟨h1, h2⟩ := h
  refine ⟨h1, ?_⟩
  rcases h2 with h2 | ⟨g, cap, cur, rfl, hg, hh, h3⟩
  · exact .inl h2
  · exact .inr ⟨g, cap, cur, rfl, hg, (hk g rfl hg).trans hh, h3⟩
/-- Nothing but these blocks has changed; none was made. -/
structure ChT (S : Nat → Prop) (w w' : World) : Prop where
  os : w'.os = w.os
  tape : w'.tape = w.tape
  output : w'.output = w.output
  size : w'.heap.size = w.heap.size
  block : ∀ b, ¬ S b → w'.heap[b]? = w.heap[b]?
theorem ChT.refl (S : Nat → Prop) (w : World) : ChT S w w := ⟨rfl, rfl, rfl, rfl, fun _ _ => rfl⟩
theorem ChT.set {S : Nat → Prop} {w w' : World} (h : ChT S w w') (b i : Nat) (v : Value) (hb : S b) : ChT S w (w'.setCell ⟨b, i, none⟩ v) := by
  have h0 := (Below.refl 0 w').setCell (p := ⟨b, i, none⟩) (Nat.zero_le _) v
  refine ⟨h0.os.trans h.os, h0.tape.trans h.tape, h0.output.trans h.output, by rw [← h.size]; simp, fun c hc => ?_⟩
  rw [← h.block c hc]
  exact Below.heap_setCell _ _ _ _ (by show c ≠ b; rintro rfl; exact hc hb)
theorem ChT.drew {S : Nat → Prop} {w w' : World} (h : ChT S w w') : ChT S w w'.drew := ⟨h.os, h.tape, h.output, h.size, h.block⟩
theorem rdc_slice {w : World} {u : Value} {m : Nat} {news : List Value} (h : RdC w u m news) : ∃ ao cap, u = .slice ao m cap := by
  obtain ⟨ao, cap, e, _⟩ := h
  exact ⟨ao, cap, e⟩
/-- A proof in six cells. -/
def Six (w : World) (s : Nat) (a b c d e f : Value) : Prop := w.heap[s]? = some (.cells #[a, b, c, d, e, f] 26 (0, 0))
section
variable {w W : World} {s : Nat} {a b c d e f : Value}
theorem Six.cells (h : Six w s a b c d e f) : w.cell? ⟨s, 0, none⟩ = some a ∧ w.cell? ⟨s, 1, none⟩ = some b ∧ w.cell? ⟨s, 2, none⟩ = some c ∧ w.cell? ⟨s, 3, none⟩ = some d ∧ w.cell? ⟨s, 4, none⟩ = some e ∧ w.cell? ⟨s, 5, none⟩ = some f :=
  ⟨by rw [cell_of_row w s 0 _ _ (0, 0) h]; rfl, by rw [cell_of_row w s 1 _ _ (0, 0) h]; rfl, by rw [cell_of_row w s 2 _ _ (0, 0) h]; rfl, by rw [cell_of_row w s 3 _ _ (0, 0) h]; rfl, by rw [cell_of_row w s 4 _ _ (0, 0) h]; rfl, by rw [cell_of_row w s 5 _ _ (0, 0) h]; rfl⟩
theorem Six.fz (h : Six w s a b c d e f) (j : Nat) : w.frozen? ⟨s, j, none⟩ = false := frozen_of_row w s j _ _ h
theorem Six.lt (h : Six w s a b c d e f) : s < w.heap.size := (Array.getElem?_eq_some_iff.1 h).1
theorem Six.same (h : Six w s a b c d e f) (hb : W.heap[s]? = w.heap[s]?) : Six W s a b c d e f := hb.trans h
theorem Six.next (h : Six w s a b c d e f) (hb : Below w.heap.size w W) : Six W s a b c d e f := h.same (hb.block s h.lt)
theorem six_new (w : World) (a b c d e f : Value) : Six (w.alloc (.cells #[a, b, c, d, e, f] 26)) w.heap.size a b c d e f := heap_alloc_new w _
/-- A proof is put in its place. -/
def put6 (w : World) (s : Nat) (a b c d e f : Value) : World := (((((w.setCell ⟨s, 0, none⟩ a).setCell ⟨s, 1, none⟩ b).setCell ⟨s, 2, none⟩ c).setCell ⟨s, 3, none⟩ d).setCell ⟨s, 4, none⟩ e).setCell ⟨s, 5, none⟩ f
theorem Six.put (h : Six w s a b c d e f) (a' b' c' d' e' f' : Value) : Six (put6 w s a' b' c' d' e' f') s a' b' c' d' e' f' := by
  have h0 := heap_setCell_same w s 0 _ _ a' h
  have h1 := heap_setCell_same _ s 1 _ _ b' h0
  have h2 := heap_setCell_same _ s 2 _ _ c' h1
  have h3 := heap_setCell_same _ s 3 _ _ d' h2
  have h4 := heap_setCell_same _ s 4 _ _ e' h3
  exact heap_setCell_same _ s 5 _ _ f' h4
theorem put6_ch (w : World) (s : Nat) (a b c d e f : Value) : ChT (fun x => x = s) w (put6 w s a b c d e f) :=
  ((((((ChT.refl (fun x => x = s) w).set s 0 a rfl).set s 1 b rfl).set s 2 c rfl).set s 3 d rfl).set s 4 e rfl).set s 5 f rfl
end
theorem ChT.below {S : Nat → Prop} {w w' : World} (h : ChT S w w') {B : Nat} (hS : ∀ b, S b → B ≤ b) : Below B w w' :=
  ⟨h.os, h.tape, h.output, Nat.le_of_eq h.size.symm, fun b hb => h.block b fun hs => by have := hS b hs; omega⟩
/-- No proof. -/
abbrev noP : Value := .agg #[.int .i64 0, .int .i64 0, .int .u64 0, .int .u64 0, .slice none 0 0, .slice none 0 0]
/-- Numbers that can be read. -/
structure RdU (w : World) (ao : Option Addr) (b off len : Nat) (l : List Nat) : Prop where
  hl : l.length = len
  ptr : 0 < len → ao = some ⟨b, off, none⟩
  rng : w.rangeAt b off (cU l)
theorem RdU.at {w : World} {ao : Option Addr} {b off len : Nat} {l : List Nat} (h : RdU w ao b off len l) {j : Nat} (hj : j < len) : w.cell? ⟨b, off + j, none⟩ = some (.int .u64 (l.getD j 0 : Nat)) :=
  h.rng j _ (by have := h.hl; simp [List.getElem?_eq_getElem (show j < l.length by omega), List.getD_eq_getElem?_getD])
theorem RdU.lt {w : World} {ao : Option Addr} {b off len : Nat} {l : List Nat} (h : RdU w ao b off len l) (h0 : 0 < len) : b < w.heap.size := World.block_lt_of_cell? w _ (h.at h0)
theorem RdU.next {w W : World} {ao : Option Addr} {b off len : Nat} {l : List Nat} (h : RdU w ao b off len l) (hb : Below w.heap.size w W) : RdU W ao b off len l := by
  refine ⟨h.hl, h.ptr, fun j v hv => ?_⟩
  have := h.rng j v hv
  exact (hb.cell (World.block_lt_of_cell? w _ this)).trans this
theorem rdu_rdc {w : World} {ao : Option Addr} {b off len cap : Nat} {l : List Nat} (h : RdU w ao b off len l) (hn : ao = none → cap = 0) : RdC w (.slice ao len cap) len (cU l) := by
  refine ⟨ao, cap, rfl, fun e => ⟨?_, hn e⟩, fun ad ha j c hj => ?_⟩
  · apply Classical.byContradiction
    intro h0
    have := h.ptr (by omega)
    rw [e] at this
    cases this
  · have hj' : j < len := by have := (List.getElem?_eq_some_iff.1 hj).1; rw [List.length_map, h.hl] at this; exact this
    have := h.ptr (by omega)
    rw [ha] at this
    cases this
    rw [Addr.add_mid]
    exact h.rng j c hj
theorem ownU_form {w : World} {B : Nat} {v : Value} {l : List Nat} (h : Cv.Own w B v l) (h0 : 0 < l.length) : ∃ g cap, v = .slice (some ⟨g, 0, none⟩) l.length cap ∧ B ≤ g ∧ l.length ≤ cap ∧ cap ≤ maxLen ∧ g < w.heap.size := by
  obtain ⟨h1, h2⟩ := h
  rcases h2 with ⟨_, h2⟩ | ⟨g, cap, cur, hv, hg, hh, hc, hm, _⟩
  · omega
  · exact ⟨g, cap, hv, hg, hc, hm, (Array.getElem?_eq_some_iff.1 hh).1⟩
theorem own_apart {w : World} {B B' gs gd n n' c c' : Nat} {l : List Nat} {l' : List ByteArray} (o1 : Cv.Own w B (.slice (some ⟨gs, 0, none⟩) n c) l) (o2 : OwnS w B' (.slice (some ⟨gd, 0, none⟩) n' c') l') : gs ≠ gd := by
  rintro rfl
  obtain ⟨_, h⟩ := o1
  obtain ⟨_, h'⟩ := o2
  rcases h with ⟨h, _⟩ | ⟨_, _, _, h, _, hh, _⟩
  · cases h
  rcases h' with ⟨h', _⟩ | ⟨_, _, _, h', _, hh', _⟩
  · cases h'
  cases (Value.slice.inj h).1
  cases (Value.slice.inj h').1
  rw [hh] at hh'
  injection hh' with hh'
  injection hh' with _ e2 _
  exact absurd e2 (by decide)
theorem own_rdu {w : World} {B g n c : Nat} {l l' : List Nat} (o : Cv.Own w B (.slice (some ⟨g, 0, none⟩) n c) (l ++ l')) : RdU w (some ⟨g, 0, none⟩) g 0 l.length l :=
  ⟨rfl, fun _ => rfl, fun t v hv => by
    have := o.cells (g := g) rfl t v (by rw [show cU (l ++ l') = cU l ++ cU l' from List.map_append, List.getElem?_append_left (by have := (List.getElem?_eq_some_iff.1 hv).1; simpa using this)]; exact hv)
    rwa [Addr.add_mid] at this⟩
theorem own_rds {w : World} {B g n c : Nat} {l l' : List ByteArray} (o : OwnS w B (.slice (some ⟨g, 0, none⟩) n c) (l ++ l')) (hs : ∀ s ∈ l, s.size ≤ 9223372036854775807) : RdS w (some ⟨g, 0, none⟩) g 0 l.length l :=
  ⟨rfl, fun _ => rfl, fun t v hv => by
    have := o.cells (g := g) rfl t v (by rw [List.map_append, List.getElem?_append_left (by rw [List.length_map]; have := (List.getElem?_eq_some_iff.1 hv).1; simpa using this)]; exact hv)
    rwa [Addr.add_mid] at this, hs⟩
theorem RdU.same {w W : World} {ao : Option Addr} {b off len : Nat} {l : List Nat} (h : RdU w ao b off len l) (hb : W.heap[b]? = w.heap[b]?) : RdU W ao b off len l :=
  ⟨h.hl, h.ptr, fun j v hv => (World.cell?_of_block hb).trans (h.rng j v hv)⟩
theorem RdS.same {w W : World} {ao : Option Addr} {b off len : Nat} {l : List ByteArray} (h : RdS w ao b off len l) (hb : W.heap[b]? = w.heap[b]?) : RdS W ao b off len l :=
  ⟨h.hl, h.ptr, fun j v hv => (World.cell?_of_block hb).trans (h.rng j v hv), h.sz⟩
theorem rds_drop {w : World} {da : Option Addr} {db dO dc H : Nat} {D : List ByteArray} (h : RdS w da db dO D.length D) (hc : D.length ≤ dc) (hH : H ≤ D.length) (hn : da = none → dc = 0) {ax : Option Addr} (hx : (if dc = H then da else Option.map (fun x => x.add H) da) = ax) : RdS w ax db (dO + H) (D.drop H).length (D.drop H) ∧ (ax = none → dc - H = 0) := by
  refine ⟨⟨rfl, fun h0 => ?_, fun j v hj => ?_, fun s hs => h.sz s (List.mem_of_mem_drop hs)⟩, fun e => ?_⟩
  · rw [List.length_drop] at h0
    rw [if_neg (by omega), h.ptr (by omega)] at hx
    rw [← hx]
    simp [Addr.add_mid]
  · rw [List.map_drop, List.getElem?_drop] at hj
    have := h.rng (H + j) v hj
    rwa [← Nat.add_assoc] at this
  · rw [e] at hx
    split at hx
    · omega
    · have : da = none := by simpa using hx
      have := hn this
      omega
theorem rds_take {w : World} {da : Option Addr} {db dO : Nat} {D : List ByteArray} (h : RdS w da db dO D.length D) {H : Nat} (hH : H ≤ D.length) : RdS w da db dO (D.take H).length (D.take H) := by
  refine ⟨rfl, fun h0 => h.ptr ?_, fun j v hj => ?_, fun s hs => h.sz s (List.mem_of_mem_take hs)⟩
  · rw [List.length_take] at h0; omega
  · refine h.rng j v ?_
    rw [List.map_take, List.getElem?_take] at hj
    split at hj
    · exact hj
    · cases hj
/-- Nothing has changed but the block q. -/
structure Bx (q : Nat) (w w' : World) : Prop where
  os : w'.os = w.os
  tape : w'.tape = w.tape
  output : w'.output = w.output
  size : w.heap.size ≤ w'.heap.size
  block : ∀ b, b < w.heap.size → b ≠ q → w'.heap[b]? = w.heap[b]?
section
variable {q : Nat} {w w1 w2 : World}
theorem Bx.refl (q : Nat) (w : World) : Bx q w w := ⟨rfl, rfl, rfl, Nat.le_refl _, fun _ _ _ => rfl⟩
theorem Bx.low (h : Bx q w w1) (hb : Below w.heap.size w1 w2) : Bx q w w2 := ⟨hb.os.trans h.os, hb.tape.trans h.tape, hb.output.trans h.output, Nat.le_trans h.size hb.size, fun b h1 h2 => (hb.block b h1).trans (h.block b h1 h2)⟩
theorem Bx.next (h : Bx q w w1) (hb : Below w1.heap.size w1 w2) : Bx q w w2 := ⟨hb.os.trans h.os, hb.tape.trans h.tape, hb.output.trans h.output, Nat.le_trans h.size hb.size, fun b h1 h2 => (hb.block b (Nat.lt_of_lt_of_le h1 h.size)).trans (h.block b h1 h2)⟩
theorem Bx.put (h : Bx q w w1) (hc : ChT (fun b => b = q) w1 w2) : Bx q w w2 := ⟨hc.os.trans h.os, hc.tape.trans h.tape, hc.output.trans h.output, by rw [hc.size]; exact h.size, fun b h1 h2 => (hc.block b h2).trans (h.block b h1 h2)⟩
theorem Bx.grown (h : Bx q w w1) {ob : Option Nat} (hg : w1.grownBy w2 ob) (ho : ∀ k, ob = some k → w.heap.size ≤ k) : Bx q w w2 :=
  ⟨hg.os.trans h.os, hg.tape.trans h.tape, hg.output.trans h.output, Nat.le_trans h.size hg.size, fun b h1 h2 => (hg.block b (Nat.lt_of_lt_of_le h1 h.size) (fun e => by have := ho b e.symm; omega)).trans (h.block b h1 h2)⟩
theorem Bx.trans {w0 : World} (h0 : Bx q w0 w) (h : Bx q w w1) : Bx q w0 w1 := ⟨h.os.trans h0.os, h.tape.trans h0.tape, h.output.trans h0.output, Nat.le_trans h0.size h.size, fun b h1 h2 => (h.block b (Nat.lt_of_lt_of_le h1 h0.size) h2).trans (h0.block b h1 h2)⟩
theorem Bx.below (h : Bx q w w1) {B : Nat} (hB : B ≤ q) (hw : B ≤ w.heap.size) : Below B w w1 := ⟨h.os, h.tape, h.output, h.size, fun b hb => h.block b (by omega) (by omega)⟩
end
/-- Two lists that share no block. -/
def Apt (v u : Value) : Prop := ∀ k, v.ownBlock = some k → u.ownBlock = some k → False
end Go.Proofs.Ytelglfmppmdmoaa
