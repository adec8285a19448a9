/-
  The reference's forest: Append, its numbers and its states. Own work.
-/
import Derived.Test.YtabdobdopcfllaaDoorFRefB
import Derived.Test.YtabdobdopcfllaaDoorHRefB
namespace Go.Proofs.YtabdobdopcfllaaDoor
open Go.RowKit
open Mm (Fam OwnV dv Apart)
/-- One text appended to a list of one's own: what it comes to, and where it went. -/
theorem run_app_T (w : World) (ty B : Nat) (v : Value) (L : List ByteArray) (hown : OwnS w B v L) (ad : Addr) (mc : Nat) (c : ByteArray) (hr : Mm.RdC w (.slice (some ad) 1 mc) 1 [.string c])
    (hlen : L.length + 1 ≤ 1048576) (hB : B ≤ w.heap.size) :
    ∃ v' w', (Builtin.append_ #[31, 31] ty #[v, .slice (some ad) 1 mc]).run Tryd.prog w = .ok v' w' ∧ OwnS w' B v' (L ++ [c]) ∧ ((∃ g n cap, v = .slice (some ⟨g, 0, none⟩) n cap ∧ v' = .slice (some ⟨g, 0, none⟩) (n + 1) cap ∧ w.grownBy w' (some g)) ∨ (w.grownBy w' none ∧ ∀ g, v'.ownBlock = some g → w.heap.size ≤ g)) := by
  obtain ⟨i0, hi, hz0, hz1, hz2⟩ := info_parts Tryd.infoS
  obtain ⟨ao, cap, he, _, hcells⟩ := hr
  obtain ⟨rfl, _, rfl⟩ := Value.slice.inj he
  have hap : ∀ {w' : World} {v' : Value} {n : Nat}, n = L.length + 1 → w'.ownsRow B 9 1 v' n (L.map Value.string ++ [.string c]) → OwnS w' B v' (L ++ [c]) := fun hn h => by
    rw [OwnS, List.map_append, List.length_append, List.length_cons, List.length_nil, Nat.zero_add, ← hn]; exact h
  have h1c : ∀ u ∈ ([.string c] : List Value), u.oneCell' = true := by intro u hu; simp at hu; subst hu; rfl
  have hown0 := hown
  rcases hown.2 with ⟨rfl, h0⟩ | ⟨g, cp, cur, rfl, hgb, hh, hc⟩
  · have hL : L = [] := List.length_eq_zero_iff.1 h0
    subst hL
    obtain ⟨v', w', hrun, r1, r2, _⟩ := run_append_own (P := Tryd.prog) w w.heap.size 31 ty 9 i0 (.string ByteArray.empty) 1 16 Tryd.underlying31 hi hz0 hz1 hz2 rfl (by decide) _ 0 [] (World.ownsRow_nil _ _ _ _) ad 1 mc [.string c] rfl (hcells ad rfl) h1c (by decide) (by decide) (Nat.le_refl _)
    exact ⟨v', w', hrun, hap rfl (by simpa using World.ownsRow.mono r1 hB), .inr ⟨r2, fun k hk => (World.ownsRow.lt r1 k hk).1⟩⟩
  · by_cases hfit : L.length + 1 ≤ cp
    · obtain ⟨w', hrun, r1, r2⟩ := run_append_fits (P := Tryd.prog) w B 31 ty 9 i0 1 Tryd.underlying31 hi hz1 g L.length cp (L.map Value.string) hown0 ad 1 mc [.string c] rfl (hcells ad rfl) h1c hfit
      exact ⟨_, w', hrun, hap rfl r1, .inl ⟨g, L.length, cp, rfl, rfl, r2⟩⟩
    · obtain ⟨v', w', hrun, r1, r2⟩ := run_append_arg_grows (P := Tryd.prog) w 31 ty 9 i0 (.string ByteArray.empty) 1 16 Tryd.underlying31 hi hz0 hz1 hz2 rfl (by decide) ⟨g, 0, none⟩ L.length cp (L.map Value.string) hown0.1 (World.ownsRow.cells hown0 rfl) ad 1 mc [.string c] rfl (hcells ad rfl) (by omega) (by unfold maxLen; omega) (by omega)
      exact ⟨v', w', hrun, hap rfl (World.ownsRow.mono r1 hB), .inr ⟨r2, fun k hk => (World.ownsRow.lt r1 k hk).1⟩⟩
/-- What is left of a run that has come to its end. -/
def resO (r : Result Value) : Option (Value × World) :=
  match r with
  | .ok v w => some (v, w)
  | .halt _ _ => none
theorem resO_ok (r : Result Value) (hs : (resO r).isSome = true) (d : Value × World) : r = .ok ((resO r).getD d).1 ((resO r).getD d).2 := by
  cases r with
  | ok v w => rfl
  | halt x w => cases hs
/-- What an append comes to. -/
noncomputable def appR (ty : Nat) (v u : Value) (w : World) : Option (Value × World) := resO ((Builtin.append_ #[31, 31] ty #[v, u]).run Tryd.prog w)
theorem appR_of {ty : Nat} {v u v' : Value} {w w' : World} (h : (Builtin.append_ #[31, 31] ty #[v, u]).run Tryd.prog w = .ok v' w') : appR ty v u w = some (v', w') := congrArg resO h
/-- An append that is known to come to its end is not opened. -/
theorem run_appR (ty : Nat) (v u : Value) (w : World) (hs : (appR ty v u w).isSome = true) : (Builtin.append_ #[31, 31] ty #[v, u]).run Tryd.prog w = .ok ((appR ty v u w).getD (dv, w)).1 ((appR ty v u w).getD (dv, w)).2 := resO_ok _ hs (dv, w)
theorem exec_appR (ρ : Operand → Value) (d : Option Tmp) (s x : Operand) (ty : Nat) (ps : String) (af : Array Edge) (gd : Option (Nat × Bool)) (w : World) (hs : (appR ty (ρ s) (ρ x) w).isSome = true) :
    (execOp ρ { dst := d, op := Op.call { callee := Callee.builtin Builtin.append, args := #[s, x], argTypes := #[31, 31] }, type := ty, pos := ps, after := af, guard := gd }).run Tryd.prog w = .ok (.value ((appR ty (ρ s) (ρ x) w).getD (dv, w)).1) ((appR ty (ρ s) (ρ x) w).getD (dv, w)).2 := by
  have hrun := run_appR ty (ρ s) (ρ x) w hs
  generalize (appR ty (ρ s) (ρ x) w).getD (dv, w) = r at *
  simp [execOp, resolve, invoke, builtin, hrun, Result.andThen]
/-- Texts appended to texts; what is changed, and where they lie. -/
theorem wpList_append_F (w : World) {ops : Array Oper} {rest : List Oper} {o : Oper} {a : Act} {Q : Exit → Act → World → Prop}
    (hg : o.guard = none) (s x : Operand) (hop : o.op = Op.call { callee := Callee.builtin Builtin.append, args := #[s, x], argTypes := #[31, 31] })
    (B : Nat) (v : Value) (L : List ByteArray) (hs : a.eval s = v) (hown : OwnS w B v L) (u : Value) (M : List ByteArray) (hx : a.eval x = u) (hr : Cv.RdC w u M.length (M.map Value.string))
    (hlen : L.length + M.length ≤ 1048576) (hB : B ≤ w.heap.size)
    (hK : ∀ v' w', OwnS w' B v' (L ++ M) → w.grownBy w' v.ownBlock → (v'.ownBlock = v.ownBlock ∨ ∀ g, v'.ownBlock = some g → w.heap.size ≤ g) → wpList Tryd.prog ops Q rest (a.put o.dst v') w') : wpList Tryd.prog ops Q (o :: rest) a w := by
  obtain ⟨i0, hi, hz0, hz1, hz2⟩ := info_parts Tryd.infoS
  refine Cv.wpList_append_ap w hg s x _ hop B 9 i0 (.string ByteArray.empty) 1 16 Tryd.underlying31 hi hz0 hz1 hz2 rfl (by decide) v L.length (L.map Value.string) hs hown u M.length (M.map Value.string) hx hr (by simp) (by intro u hu; obtain ⟨y, _, rfl⟩ := List.mem_map.1 hu; rfl) (by unfold maxLen; omega) (by omega) hB ?_
  intro v' w' h
  refine hK v' w' ?_ h.grown h.fresh
  rw [OwnS, List.map_append, List.length_append]
  exact h.own
/-- The levels with the new nodes up to the height h. -/
def lvj (c : Nat) (L : List ByteArray) (x : ByteArray) (h H : Nat) : List (List ByteArray) := (List.range H).map fun j => rowN c (L ++ [x]) j (if j ≤ h then (L.length + 1) / 2 ^ j else L.length / 2 ^ j)
theorem lvj_len (c : Nat) (L : List ByteArray) (x : ByteArray) (h H : Nat) : (lvj c L x h H).length = H := by simp [lvj]
theorem lvj_at (c : Nat) (L : List ByteArray) (x : ByteArray) (h : Nat) {H i : Nat} (hi : i < H) : (lvj c L x h H).getD i [] = rowN c (L ++ [x]) i (if i ≤ h then (L.length + 1) / 2 ^ i else L.length / 2 ^ i) := by simp [lvj, List.getD_eq_getElem?_getD, hi]
theorem rowN_app (c : Nat) (L : List ByteArray) (x : ByteArray) (h : Nat) : rowN c (L ++ [x]) h (L.length / 2 ^ h) = rowN c L h (L.length / 2 ^ h) := by
  refine List.map_congr_left fun j hj => ?_
  exact nd_app c L [x] h j (within.1 (List.mem_range.1 hj))
theorem divN_next {n j q : Nat} (hq : n + 1 = 2 ^ j * (q + 1)) : n / 2 ^ j = q ∧ (n + 1) / 2 ^ j = q + 1 := by
  have hp := Nat.two_pow_pos j
  have e : n = q * 2 ^ j + (2 ^ j - 1) := by
    rw [Nat.mul_add, Nat.mul_one, Nat.mul_comm] at hq
    omega
  refine ⟨?_, last_at hq⟩
  rw [e, Nat.mul_comm q, Nat.mul_add_div hp, Nat.div_eq_of_lt (by omega), Nat.add_zero]
theorem div_stay {n j : Nat} (h : (n + 1) % 2 ^ j ≠ 0) : (n + 1) / 2 ^ j = n / 2 ^ j := by
  have hp := Nat.two_pow_pos j
  have h1 := Nat.div_add_mod (n + 1) (2 ^ j)
  have h2 := Nat.mod_lt (n + 1) hp
  generalize (n + 1) / 2 ^ j = Q at *
  generalize (n + 1) % 2 ^ j = R at *
  have e : n = 2 ^ j * Q + (R - 1) := by omega
  have hR : R - 1 < 2 ^ j := by omega
  rw [e, Nat.mul_add_div hp, Nat.div_eq_of_lt hR, Nat.add_zero]
theorem lvj_start (c : Nat) (L : List ByteArray) (x : ByteArray) {H : Nat} (hH : 0 < H) : (lvl c L H).set 0 ((lvl c L H).getD 0 [] ++ [nd c (L ++ [x]) 0 L.length]) = lvj c L x 0 H := by
  apply List.ext_getElem?
  intro j
  rw [List.getElem?_set]
  by_cases h0 : 0 = j
  · subst h0
    rw [if_pos rfl, if_pos (by simpa [lvl] using hH), lvl_at c L hH, Nat.pow_zero, Nat.div_one]
    have := rowN_app c L x 0
    rw [Nat.pow_zero, Nat.div_one] at this
    rw [← this, rowN_more]
    simp [lvj, hH]
  · rw [if_neg h0]
    by_cases hj : j < H
    · simp only [lvl, lvj, List.getElem?_map, List.getElem?_range hj, Option.map_some]
      rw [if_neg (by omega), rowN_app]
    · rw [List.getElem?_eq_none (by simp [lvl]; omega), List.getElem?_eq_none (by simp [lvj]; omega)]
theorem lvj_step (c : Nat) (L : List ByteArray) (x : ByteArray) {h H q : Nat} (hH : h + 1 < H) (hq : L.length + 1 = 2 ^ (h + 1) * (q + 1)) : (lvj c L x h H).set (h + 1) ((lvj c L x h H).getD (h + 1) [] ++ [nd c (L ++ [x]) (h + 1) q]) = lvj c L x (h + 1) H := by
  obtain ⟨e1, e2⟩ := divN_next hq
  apply List.ext_getElem?
  intro j
  rw [List.getElem?_set]
  by_cases h0 : h + 1 = j
  · subst h0
    rw [if_pos rfl, if_pos (by rw [lvj_len]; exact hH), lvj_at c L x h hH, if_neg (by omega), e1, rowN_more]
    simp [lvj, hH, e2]
  · rw [if_neg h0]
    by_cases hj : j < H
    · simp only [lvj, List.getElem?_map, List.getElem?_range hj, Option.map_some]
      by_cases hjh : j ≤ h
      · rw [if_pos hjh, if_pos (by omega)]
      · rw [if_neg hjh, if_neg (by omega)]
    · rw [List.getElem?_eq_none (by simp [lvj]; omega), List.getElem?_eq_none (by simp [lvj]; omega)]
theorem lvj_more (c : Nat) (L : List ByteArray) (x : ByteArray) {h H : Nat} (hH : h < H) (ht : L.length < 2 ^ H) : lvj c L x h H ++ [[]] = lvj c L x h (H + 1) := by
  rw [lvj, lvj, List.range_succ, List.map_append]
  have : rowN c (L ++ [x]) H (if H ≤ h then (L.length + 1) / 2 ^ H else L.length / 2 ^ H) = [] := by
    rw [if_neg (by omega), Nat.div_eq_of_lt ht]
    rfl
  rw [List.map_singleton, this]
theorem lvj_end (c : Nat) (L : List ByteArray) (x : ByteArray) {t H : Nat} (ht : tr 64 (L.length + 1) = t) (hH : H ≤ 64) : lvj c L x t H = lvl c (L ++ [x]) H := by
  rw [lvj, lvl, List.length_append, List.length_singleton]
  refine List.map_congr_left fun j hj => ?_
  by_cases hjt : j ≤ t
  · rw [if_pos hjt]
  · rw [if_neg hjt, div_stay ((tr_lt 64 j (L.length + 1) (by have := List.mem_range.1 hj; omega)).1 (by omega))]
theorem own_chs {S : Nat → Prop} {w w' : World} {B' T s n : Nat} {y : Value} {cs : List Value} (h : w.ownsRow B' T s y n cs) (hn : ∀ g, y.ownBlock = some g → ¬ S g) (hc : ChS S w w') : w'.ownsRow B' T s y n cs :=
  row_keep h fun g e => hc.block g (by obtain ⟨_, c, hh⟩ := own_block h e; exact (Array.getElem?_eq_some_iff.1 hh).1) (hn g e)
/-- As an item is laid at the reference: its nodes up to the height h; what is answered up to the height k. -/
structure RA (w wr : World) (B q : Nat) (K : Int) (L : List ByteArray) (x : ByteArray) (h k gA0 : Nat) (vs0 : List Value) (gA cA : Nat) (vs : List Value) (v : Value) : Prop where
  lv : Lv wr B q K gA cA vs (lvj (clk K) L x h vs.length)
  hh : h < vs.length
  top : L.length < 2 ^ vs.length
  out : OwnS wr w.heap.size v (nw (clk K) (L ++ [x]) k)
  nf : ∀ g, v.ownBlock = some g → ¬ Foot q gA vs g
  ch : ChS (Foot q gA0 vs0) w wr
  ft : ∀ b, Foot q gA vs b → Foot q gA0 vs0 b ∨ w.heap.size ≤ b
section
variable {w wr wa : World} {B q gA0 gA cA h k : Nat} {K : Int} {L : List ByteArray} {x : ByteArray} {vs0 vs : List Value} {v : Value}
theorem RA.next (H : RA w wr B q K L x h k gA0 vs0 gA cA vs v) (hb : Below wr.heap.size wr wa) : RA w wa B q K L x h k gA0 vs0 gA cA vs v :=
  ⟨H.lv.next hb, H.hh, H.top, own_next H.out hb (Nat.le_refl _), H.nf, H.ch.trans (ChS.of (S := fun _ => False) hb) (fun _ _ e => e.elim), H.ft⟩
/-- The list that is answered grows. -/
theorem RA.grow {v' : Value} {k' : Nat} (H : RA w wr B q K L x h k gA0 vs0 gA cA vs v) (ho : OwnS wa w.heap.size v' (nw (clk K) (L ++ [x]) k')) (hg : wr.grownBy wa v.ownBlock) (hf : v'.ownBlock = v.ownBlock ∨ ∀ g, v'.ownBlock = some g → wr.heap.size ≤ g) :
    RA w wa B q K L x h k' gA0 vs0 gA cA vs v' := by
  refine ⟨H.lv.same fun b hb => hg.block b (H.lv.foot hb).2 fun e => H.nf b e.symm hb, H.hh, H.top, ho, fun g e hb => ?_, H.ch.trans (ChS.grown (S := fun b => v.ownBlock = some b) hg fun b e => e) fun b hb e => ?_, H.ft⟩
  · rcases hf with hf | hf
    · exact H.nf g (by rw [← hf]; exact e) hb
    · have := hf g e
      have := (H.lv.foot hb).2
      omega
  · have := (own_block H.out e).1
    omega
theorem RA.outlt (H : RA w wr B q K L x h k gA0 vs0 gA cA vs v) {g : Nat} (e : v.ownBlock = some g) : w.heap.size ≤ g ∧ g < wr.heap.size := by
  obtain ⟨h1, c, h2⟩ := own_block H.out e
  exact ⟨h1, (Array.getElem?_eq_some_iff.1 h2).1⟩
/-- A node at the next level. -/
theorem RA.put (H : RA w wr B q K L x h k gA0 vs0 gA cA vs v) (hi : h + 1 < vs.length) {p : Nat} (hq : L.length + 1 = 2 ^ (h + 1) * (p + 1)) {y y' : Value} {d : ByteArray} (hd : nd (clk K) (L ++ [x]) (h + 1) p = d) (hy : vs.getD (h + 1) dv = y)
    (r1 : OwnS wa B y' ((lvj (clk K) L x h vs.length).getD (h + 1) [] ++ [d]))
    (r2 : (∃ g n cap, y = .slice (some ⟨g, 0, none⟩) n cap ∧ y' = .slice (some ⟨g, 0, none⟩) (n + 1) cap ∧ wr.grownBy wa (some g)) ∨ (wr.grownBy wa none ∧ ∀ g, y'.ownBlock = some g → wr.heap.size ≤ g)) :
    RA w (wa.setCell ⟨gA, h + 1, none⟩ y') B q K L x (h + 1) k gA0 vs0 gA cA (vs.set (h + 1) y') v ∧ wa.cell? ⟨gA, h + 1, none⟩ = some y ∧ wa.frozen? ⟨gA, h + 1, none⟩ = false ∧ wa.cell? ⟨q, 1, none⟩ = some (.slice (some ⟨gA, 0, none⟩) vs.length cA) := by
  obtain ⟨hL6, hch6, hft6, cx6, fx6, cq6⟩ := H.lv.app hi hy r1 r2
  rw [← hd, lvj_step _ _ _ hi hq] at hL6
  refine ⟨⟨by rw [List.length_set]; exact hL6, by rw [List.length_set]; exact hi, by rw [List.length_set]; exact H.top, own_chs H.out H.nf hch6, fun g e hb => ?_, H.ch.trans hch6 fun b hb e => ?_, fun b hb => ?_⟩, cx6, fx6, cq6⟩
  · rcases hft6 g hb with hb | hb
    · exact H.nf g e hb
    · have := (H.outlt e).2
      omega
  · rcases H.ft b e with e | e
    · exact e
    · omega
  · rcases hft6 b hb with hb | hb
    · exact H.ft b hb
    · exact .inr (Nat.le_trans H.ch.size hb)
/-- A level more. -/
theorem RA.lev {gA' cA' : Nat} (H : RA w wr B q K L x h k gA0 vs0 gA cA vs v) (ho : OwnV wa B (.slice (some ⟨gA', 0, none⟩) (vs.length + 1) cA') (vs ++ [dv])) (hg : wr.grownBy wa (some gA)) (hf : gA' = gA ∨ wr.heap.size ≤ gA') :
    RA w (wa.setCell ⟨q, 1, none⟩ (.slice (some ⟨gA', 0, none⟩) (vs.length + 1) cA')) B q K L x h k gA0 vs0 gA' cA' (vs ++ [dv]) v ∧ wa.cell? ⟨q, 1, none⟩ = some (.slice (some ⟨gA, 0, none⟩) vs.length cA) ∧ wa.frozen? ⟨q, 1, none⟩ = false := by
  obtain ⟨hL6, hch6, hft6, cq6, fq6⟩ := H.lv.level ho hg hf
  rw [lvj_more _ _ _ H.hh H.top] at hL6
  refine ⟨⟨by rw [List.length_append, List.length_singleton]; exact hL6, by rw [List.length_append, List.length_singleton]; have := H.hh; omega, ?_, own_chs H.out H.nf hch6, fun g e hb => ?_, H.ch.trans hch6 fun b hb e => ?_, fun b hb => ?_⟩, cq6, fq6⟩
  · rw [List.length_append, List.length_singleton, Nat.pow_succ]
    have := H.top
    omega
  · rcases hft6 g hb with hb | hb
    · exact H.nf g e hb
    · have := (H.outlt e).2
      omega
  · rcases H.ft b e with e | e
    · exact e
    · omega
  · rcases hft6 b hb with hb | hb
    · exact H.ft b hb
    · exact .inr (Nat.le_trans H.ch.size hb)
end
end Go.Proofs.YtabdobdopcfllaaDoor
