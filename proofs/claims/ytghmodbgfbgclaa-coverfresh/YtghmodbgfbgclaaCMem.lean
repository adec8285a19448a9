/-
  Lists of lists of blocks of one's own, apart from one another. Own work.
-/
import Derived.Test.YtghmodbgfbgclaaCWalkM
namespace Go.Proofs.Ytghmodbgfbgclaa
open Go.RowKit
attribute [local go_sem ↓] Go.wp_at_zero Go.wp_at_succ
theorem Try.infoV : (Try.prog.info? 29).map (fun i => (i.zero, i.size, i.bytes)) = some (some (.slice none 0 0), 1, 24) := by kernel_rfl
/-- A list of lists. -/
abbrev OwnV (w : World) (B : Nat) (v : Value) (vs : List Value) : Prop := w.ownsRow B 29 1 v vs.length vs
theorem ty_ne {w : World} {B e s n B' e' s' n' : Nat} {u v : Value} {xs xs' : List Value} (h : w.ownsRow B e s u n xs) (hv : w.ownsRow B' e' s' v n' xs') (hne : e ≠ e') : u.ownBlock = none ∨ u.ownBlock ≠ v.ownBlock := by
  rcases h.2 with ⟨rfl, _⟩ | ⟨g, cap, cur, rfl, _, hg, _⟩
  · exact .inl rfl
  · refine .inr (fun he => ?_)
    rcases hv.2 with ⟨rfl, _⟩ | ⟨g', cap', cur', rfl, _, hg', _⟩
    · cases he
    · have : g = g' := by simpa [Value.ownBlock] using he
      subst this
      rw [hg] at hg'
      injection hg' with h1
      injection h1 with _ h2 _
      exact hne h2
theorem kept_ty {w w' : World} {B e s n B' e' s' n' : Nat} {u v : Value} {xs xs' : List Value} (h : w.ownsRow B e s u n xs) (hv : w.ownsRow B' e' s' v n' xs') (hne : e ≠ e') (hg : w.grownBy w' v.ownBlock) : w'.ownsRow B e s u n xs := h.kept hg (ty_ne h hv hne)
theorem wpList_append_V (w : World) {ops : Array Oper} {rest : List Oper} {o : Oper} {a : Act} {Q : Exit → Act → World → Prop}
    (hg : o.guard = none) (s x : Operand) (hop : o.op = Op.call { callee := Callee.builtin Builtin.append, args := #[s, x], argTypes := #[28, 28] })
    (B : Nat) (v : Value) (L : List Value) (hs : a.eval s = v) (hown : OwnV w B v L) (u : Value) (M : List Value) (hx : a.eval x = u) (hr : RdC w u M.length M) (h1c : ∀ u ∈ M, u.oneCell' = true)
    (hlen : L.length + M.length ≤ 1048576) (hB : B ≤ w.heap.size)
    (hK : ∀ v' w', OwnV w' B v' (L ++ M) → w.grownBy w' v.ownBlock → (v'.ownBlock = v.ownBlock ∨ ∀ g, v'.ownBlock = some g → w.heap.size ≤ g) → wpList Try.prog ops Q rest (a.put o.dst v') w') : wpList Try.prog ops Q (o :: rest) a w := by
  obtain ⟨i0, hi, hz0, hz1, hz2⟩ := info_parts Try.infoV
  refine wpList_append_ap w hg s x _ hop B 29 i0 (.slice none 0 0) 1 24 Try.underlying28 hi hz0 hz1 hz2 rfl (by decide) v L.length L hs hown u M.length M hx hr (by simp) h1c (by unfold maxLen; omega) (by omega) hB ?_
  intro v' w' h
  refine hK v' w' ?_ h.grown h.fresh
  rw [OwnV, List.length_append]
  exact h.own
theorem rdc_vals (w : World) (cs : Array Value) (t : Nat) : RdC (w.alloc (.cells cs t)) (.slice (some ⟨w.heap.size, 0, none⟩) cs.size cs.size) cs.toList.length cs.toList := by
  refine ⟨some ⟨w.heap.size, 0, none⟩, cs.size, by rw [Array.length_toList], (fun h => by cases h), fun ad ha j c hj => ?_⟩
  cases ha
  rw [Addr.add_mid, Nat.zero_add, World.cell?_alloc_at cs t w.heap.size j rfl]
  simpa using hj
/-- No list at all. -/
abbrev dv : Value := .slice none 0 0
def Apart (v u : Value) : Prop := ∀ k, v.ownBlock = some k → u.ownBlock = some k → False
theorem Apart.symm {v u : Value} (h : Apart v u) : Apart u v := fun k h1 h2 => h k h2 h1
/-- Lists of blocks, apart from one another. -/
structure Fam (w : World) (B : Nat) (vs : List Value) (Ls : List (List (Int × Nat))) : Prop where
  len : vs.length = Ls.length
  own : ∀ i, i < vs.length → OwnB w B (vs.getD i dv) (Ls.getD i [])
  dj : ∀ i j, i < vs.length → j < vs.length → i ≠ j → Apart (vs.getD i dv) (vs.getD j dv)
theorem fam_nil (w : World) (B : Nat) : Fam w B [] [] := ⟨rfl, fun i hi => absurd hi (Nat.not_lt_zero i), fun i _ hi => absurd hi (Nat.not_lt_zero i)⟩
theorem fam_next {w w' : World} {B : Nat} {vs : List Value} {Ls : List (List (Int × Nat))} (h : Fam w B vs Ls) (hb : Below w.heap.size w w') : Fam w' B vs Ls := ⟨h.len, fun i hi => ownB_next (h.own i hi) hb, h.dj⟩
theorem fam_ty {w w' : World} {B B' e s n : Nat} {v : Value} {xs : List Value} {vs : List Value} {Ls : List (List (Int × Nat))} (h : Fam w B vs Ls) (hv : w.ownsRow B' e s v n xs) (hne : 37 ≠ e) (hg : w.grownBy w' v.ownBlock) : Fam w' B vs Ls :=
  ⟨h.len, fun i hi => kept_ty (h.own i hi) hv hne hg, h.dj⟩
theorem getD_snoc {α : Type} (d : α) (l : List α) (x : α) (i : Nat) : (l ++ [x]).getD i d = if i < l.length then l.getD i d else if i = l.length then x else d := by
  by_cases h : i < l.length
  · rw [if_pos h, List.getD_eq_getElem?_getD, List.getElem?_append_left h, ← List.getD_eq_getElem?_getD]
  · rw [if_neg h]
    by_cases h2 : i = l.length
    · rw [if_pos h2, h2, List.getD_eq_getElem?_getD]; simp
    · rw [if_neg h2, List.getD_eq_getElem?_getD, List.getElem?_eq_none (by simp; omega)]; rfl
theorem fam_new {w w' : World} {B : Nat} {vs : List Value} {Ls : List (List (Int × Nat))} {v : Value} {L : List (Int × Nat)} (h : Fam w B vs Ls) (hB : B ≤ w.heap.size) (hb : Below w.heap.size w w') (ho : OwnB w' w.heap.size v L) : Fam w' B (vs ++ [v]) (Ls ++ [L]) := by
  refine ⟨by simp [h.len], fun i hi => ?_, fun i j hi hj hne => ?_⟩
  · rw [getD_snoc, getD_snoc, ← h.len]
    by_cases h1 : i < vs.length
    · rw [if_pos h1, if_pos h1]; exact ownB_next (h.own i h1) hb
    · have h2 : i = vs.length := by simp at hi; omega
      rw [if_neg h1, if_neg h1, if_pos h2, if_pos h2]; exact ho.mono hB
  · simp at hi hj
    rw [getD_snoc, getD_snoc]
    by_cases h1 : i < vs.length
    · rw [if_pos h1]
      by_cases h2 : j < vs.length
      · rw [if_pos h2]; exact h.dj i j h1 h2 hne
      · rw [if_neg h2, if_pos (by omega)]
        intro k k1 k2
        have a1 := ((h.own i h1).lt k k1).2
        have a2 := (ho.lt k k2).1
        omega
    · rw [if_neg h1, if_pos (show i = vs.length by omega), if_pos (show j < vs.length by omega)]
      intro k k1 k2
      have a1 := ((h.own j (by omega)).lt k k2).2
      have a2 := (ho.lt k k1).1
      omega
theorem getD_set {α : Type} (d : α) (l : List α) (i j : Nat) (x : α) (hi : i < l.length) : (l.set i x).getD j d = if j = i then x else l.getD j d := by
  rw [List.getD_eq_getElem?_getD, List.getElem?_set]
  by_cases h : i = j
  · subst h; simp [hi]
  · rw [if_neg h, if_neg (fun e => h e.symm), ← List.getD_eq_getElem?_getD]
/-- One of them is written to. -/
theorem fam_set {w w' : World} {B : Nat} {vs : List Value} {Ls : List (List (Int × Nat))} {i : Nat} {L : List (Int × Nat)} (h : Fam w B vs Ls) (hi : i < vs.length) (ho : OwnB w' B (vs.getD i dv) L) (hk : ∀ b, (vs.getD i dv).ownBlock ≠ some b → w'.heap[b]? = w.heap[b]?) : Fam w' B vs (Ls.set i L) := by
  refine ⟨by simp [h.len], fun j hj => ?_, h.dj⟩
  rw [getD_set _ _ _ _ _ (by rw [← h.len]; exact hi)]
  by_cases e : j = i
  · rw [if_pos e, e]; exact ho
  · rw [if_neg e]
    exact own_of_block (h.own j hj) (fun g hg => hk g (fun e2 => h.dj j i hj hi e g hg e2))
theorem cB_set (l : List (Int × Nat)) (j : Nat) (h : Int) (k : Nat) : cB (l.set j (h, k)) = ((cB l).set (j * 2) (.int .i64 h)).set (j * 2 + 1) (.int .u64 (k : Int)) := by
  induction l generalizing j with
  | nil => simp [cB]
  | cons b r ih =>
    cases j with
    | zero => simp [cB]
    | succ j => rw [List.set_cons_succ, cB, cB, ih j, show (j + 1) * 2 = j * 2 + 1 + 1 by omega]; simp
/-- A block written into a list of one's own. -/
theorem ownB_set {w : World} {B g n cap j : Nat} {l : List (Int × Nat)} (h : OwnB w B (.slice (some ⟨g, 0, none⟩) n cap) l) (x : Int) (k : Nat) : OwnB ((w.setCell ⟨g, j * 2, none⟩ (.int .i64 x)).setCell ⟨g, j * 2 + 1, none⟩ (.int .u64 (k : Int))) B (.slice (some ⟨g, 0, none⟩) n cap) (l.set j (x, k)) := by
  obtain ⟨h1, h2⟩ := h
  refine ⟨by rw [cB_len], .inr ?_⟩
  rcases h2 with ⟨h2, h3⟩ | ⟨g', cap', cur, hv, hg, hh, h3, h4, h5, h6⟩
  · cases h2
  · obtain ⟨e1, e2, e3⟩ := Value.slice.inj hv
    cases e1
    have s1 : (w.setCell ⟨g, j * 2, none⟩ (.int .i64 x)).heap[g]? = _ := heap_setCell_same w g (j * 2) cur _ _ hh
    have s2 : ((w.setCell ⟨g, j * 2, none⟩ (.int .i64 x)).setCell ⟨g, j * 2 + 1, none⟩ (.int .u64 (k : Int))).heap[g]? = _ := heap_setCell_same _ g (j * 2 + 1) _ _ _ s1
    refine ⟨g, cap, _, by rw [e2]; simp, hg, s2, by simpa [e3] using h3, by omega, by simpa [e3] using h5, ?_⟩
    rw [cB_set, ← h6, List.length_set, Array.toList_setIfInBounds, Array.toList_setIfInBounds, List.take_set, List.take_set]
theorem two_free {w : World} {B g n cap j : Nat} {l : List (Int × Nat)} (h : OwnB w B (.slice (some ⟨g, 0, none⟩) n cap) l) (hj : j < l.length) : (w.cell? ⟨g, j * 2, none⟩ = some (.int .i64 (l.getD j (0, 0)).1) ∧ w.frozen? ⟨g, j * 2, none⟩ = false) ∧ (w.cell? ⟨g, j * 2 + 1, none⟩ = some (.int .u64 ((l.getD j (0, 0)).2 : Nat)) ∧ w.frozen? ⟨g, j * 2 + 1, none⟩ = false) := by
  obtain ⟨ao, g', n', c', hv, r, _⟩ := own_rdB h
  obtain ⟨e1, e2, e3⟩ := Value.slice.inj hv
  have hl := r.len
  have ha := r.addr (by omega)
  rw [ha] at e1
  cases e1
  obtain ⟨c1, c2⟩ := r.cell j (by omega)
  have hf : ∀ o, w.frozen? ⟨g, o, none⟩ = false := fun o => by
    rcases h.2 with ⟨h2, _⟩ | ⟨g2, cap', cur, hv2, hg, hh, h3⟩
    · cases h2
    · obtain ⟨e1, _, _⟩ := Value.slice.inj hv2
      cases e1
      simp [World.frozen?, hh]
  exact ⟨⟨c1, hf _⟩, ⟨c2, hf _⟩⟩
theorem ownV_cell {w : World} {B i : Nat} {v : Value} {vs : List Value} (h : OwnV w B v vs) (hi : i < vs.length) : ∃ g cap, v = .slice (some ⟨g, 0, none⟩) vs.length cap ∧ w.cell? ⟨g, i, none⟩ = some (vs.getD i dv) := by
  rcases h.2 with ⟨_, h2⟩ | ⟨g, cap, cur, rfl, hg, hh, hc⟩
  · omega
  · refine ⟨g, cap, rfl, ?_⟩
    have := h.cells (g := g) rfl i (vs.getD i dv) (by rw [List.getD_eq_getElem?_getD, List.getElem?_eq_getElem hi]; rfl)
    rw [Addr.add_mid, Nat.zero_add] at this
    exact this
end Go.Proofs.Ytghmodbgfbgclaa
