/-
  What CoverFresh holds, as it goes on. Own work.
-/
import Derived.Test.YtghmodbgfbgclaaCMem
namespace Go.Proofs.Ytghmodbgfbgclaa
open Go.RowKit
attribute [local go_sem ↓] Go.wp_at_zero Go.wp_at_succ
/-- Three lists, told t times. -/
def rp (M G Z : List (Int × Nat)) : Nat → List (List (Int × Nat))
  | 0 => []
  | t + 1 => rp M G Z t ++ [M, G, Z]
theorem getD_left {α : Type} (d : α) (l r : List α) (i : Nat) (h : i < l.length) : (l ++ r).getD i d = l.getD i d := by
  rw [List.getD_eq_getElem?_getD, List.getElem?_append_left h, ← List.getD_eq_getElem?_getD]
theorem getD_right {α : Type} (d : α) (l r : List α) (i : Nat) : (l ++ r).getD (l.length + i) d = r.getD i d := by
  rw [List.getD_eq_getElem?_getD, List.getElem?_append_right (by omega), ← List.getD_eq_getElem?_getD]; congr 1; omega
theorem take_getD_succ {α : Type} (d : α) (l : List α) (i : Nat) (h : i < l.length) : l.take (i + 1) = l.take i ++ [l.getD i d] := by
  rw [List.take_succ_eq_append_getElem h, List.getD_eq_getElem?_getD, List.getElem?_eq_getElem h]; rfl
theorem getD_taken {α : Type} (d : α) (l : List α) (j k : Nat) (h : j < k) : (l.take k).getD j d = l.getD j d := by
  simp [List.getD_eq_getElem?_getD, h]
theorem fam_left {w : World} {B : Nat} {vs us : List Value} {As Bs : List (List (Int × Nat))} (h : Fam w B (vs ++ us) (As ++ Bs)) (hl : vs.length = As.length) (i : Nat) (hi : i < vs.length) : OwnB w B (vs.getD i dv) (As.getD i []) := by
  have := h.own i (by simp; omega)
  rwa [getD_left _ _ _ _ hi, getD_left _ _ _ _ (by omega)] at this
theorem fam_right {w : World} {B : Nat} {vs us : List Value} {As Bs : List (List (Int × Nat))} (h : Fam w B (vs ++ us) (As ++ Bs)) (hl : vs.length = As.length) (i : Nat) (hi : i < us.length) : OwnB w B (us.getD i dv) (Bs.getD i []) := by
  have := h.own (vs.length + i) (by simp; omega)
  rw [getD_right] at this
  rw [hl, getD_right] at this
  exact this
theorem rp_len (M G Z : List (Int × Nat)) : (rp M G Z 2).length = 6 := rfl
theorem rp_per (M G Z : List (Int × Nat)) : ∀ i, i < 6 → (rp M G Z 2).getD i [] = (rp M G Z 2).getD (i % 3) []
  | 0, _ => rfl
  | 1, _ => rfl
  | 2, _ => rfl
  | 3, _ => rfl
  | 4, _ => rfl
  | 5, _ => rfl
  | n + 6, h => by omega
theorem rp_le {M G Z : List (Int × Nat)} (h : M.length ≤ 80 ∧ G.length ≤ 80 ∧ Z.length ≤ 5000) : ∀ i, i < 6 → ((rp M G Z 2).getD i []).length ≤ 5000
  | 0, _ => by show M.length ≤ _; omega
  | 1, _ => by show G.length ≤ _; omega
  | 2, _ => by show Z.length ≤ _; omega
  | 3, _ => by show M.length ≤ _; omega
  | 4, _ => by show G.length ≤ _; omega
  | 5, _ => by show Z.length ≤ _; omega
  | n + 6, h => by omega
theorem own_rd2 {w : World} {B n cap : Nat} {ao : Option Addr} {l : List Nat} (h : Own w B (.slice ao n cap) l) : ∃ b, Rd w ao b 0 n l := by
  obtain ⟨ao', b, n', cap', hv, r, _, _⟩ := own_rd h
  obtain ⟨rfl, rfl, rfl⟩ := Value.slice.inj hv
  exact ⟨b, r⟩
theorem fam_three {w w1 w2 w3 : World} {B : Nat} {vs : List Value} {Ls : List (List (Int × Nat))} {v1 v2 v3 : Value} {L1 L2 L3 : List (Int × Nat)} (h : Fam w B vs Ls) (hB : B ≤ w.heap.size) (b1 : Below w.heap.size w w1) (o1 : OwnB w1 w.heap.size v1 L1) (b2 : Below w1.heap.size w1 w2) (o2 : OwnB w2 w1.heap.size v2 L2) (b3 : Below w2.heap.size w2 w3) (o3 : OwnB w3 w2.heap.size v3 L3) : Fam w3 B (vs ++ [v1, v2, v3]) (Ls ++ [L1, L2, L3]) := by
  have f1 := fam_new h hB b1 o1
  have f2 := fam_new f1 (Nat.le_trans hB b1.size) b2 o2
  have f3 := fam_new f2 (Nat.le_trans hB (bnext b1 b2).size) b3 o3
  simpa using f3
/-- What stands while CoverFresh goes on. -/
structure Fr (w wr : World) (vS : Value) (S : List Nat) : Prop where
  set : Own wr w.heap.size vS S
  below : Below w.heap.size w wr
theorem Fr.next {w wr w' : World} {vS : Value} {S : List Nat} (h : Fr w wr vS S) (hb : Below wr.heap.size wr w') : Fr w w' vS S := ⟨ownB_next h.set hb, bnext h.below hb⟩
theorem Fr.size {w wr : World} {vS : Value} {S : List Nat} (h : Fr w wr vS S) : w.heap.size ≤ wr.heap.size := h.below.size
theorem Fr.grow {w wr w' : World} {vS v : Value} {S : List Nat} {e s n : Nat} {xs : List Value} (h : Fr w wr vS S) (hv : wr.ownsRow w.heap.size e s v n xs) (hne : 22 ≠ e) (hg : wr.grownBy w' v.ownBlock) : Fr w w' vS S :=
  ⟨kept_ty h.set hv hne hg, (ownB_step0 h.below h.size hv hg).1⟩
/-- All that CoverFresh holds. -/
structure St (w wr : World) (vs us : List Value) (Qs Ls : List (List (Int × Nat))) (vA vW vS : Value) (S : List Nat) : Prop where
  fam : Fam wr w.heap.size (vs ++ us) (Qs ++ Ls)
  all : OwnV wr w.heap.size vA vs
  was : OwnV wr w.heap.size vW us
  fr : Fr w wr vS S
  ql : Qs.length = vs.length
theorem St.next {w wr w' : World} {vs us : List Value} {Qs Ls : List (List (Int × Nat))} {vA vW vS : Value} {S : List Nat} (h : St w wr vs us Qs Ls vA vW vS S) (hb : Below wr.heap.size wr w') : St w w' vs us Qs Ls vA vW vS S := ⟨fam_next h.fam hb, ownB_next h.all hb, ownB_next h.was hb, h.fr.next hb, h.ql⟩
/-- The first i lists are marks. -/
def Mk (i : Nat) (Qs Ls : List (List (Int × Nat))) : Prop := Qs.length = 6 ∧ ∀ k, k < 6 → Qs.getD k [] = if k < i then List.replicate (Ls.getD k []).length (-1 - (k : Int), 0) else Ls.getD k []
theorem mk_next {i : Nat} {Qs Ls : List (List (Int × Nat))} {m : Nat} (h : Mk i Qs Ls) (hi : i + 1 ≤ 6) (hm : (Ls.getD i []).length = m) : Mk (i + 1) (Qs.set i (List.replicate m (-1 - (i : Int), 0))) Ls := by
  refine ⟨by rw [List.length_set]; exact h.1, fun k hk => ?_⟩
  rw [getD_set _ _ _ _ _ (by rw [h.1]; omega)]
  by_cases e : k = i
  · subst e; rw [if_pos rfl, if_pos (by omega), hm]
  · rw [if_neg e, h.2 k hk]
    by_cases e2 : k < i
    · rw [if_pos e2, if_pos (by omega)]
    · rw [if_neg e2, if_neg (by omega)]
theorem set_getD_self {α : Type} (d : α) (l : List α) (i : Nat) : l.set i (l.getD i d) = l := by
  apply List.ext_getElem?
  intro j
  rw [List.getElem?_set]
  by_cases h : i = j
  · subst h
    by_cases hl : i < l.length
    · simp [hl]
    · simp [hl]
  · simp [h]
theorem mark_set (R : List (Int × Nat)) (j : Nat) (x : Int × Nat) (h : j < R.length) : (List.replicate j x ++ R.drop j).set j x = List.replicate (j + 1) x ++ R.drop (j + 1) := by
  rw [List.set_append_right _ _ (by simp), List.length_replicate, Nat.sub_self, List.drop_eq_getElem_cons h, List.set_cons_zero, List.replicate_succ', List.append_assoc]; rfl
theorem ownB_len {w : World} {B n cap : Nat} {ao : Option Addr} {l : List (Int × Nat)} (h : OwnB w B (.slice ao n cap) l) : l.length = n := by
  obtain ⟨ao', g, n', cap', hv, r, _⟩ := own_rdB h
  obtain ⟨_, rfl, _⟩ := Value.slice.inj hv
  exact r.len
theorem ownB_some {w : World} {B n cap : Nat} {ao : Option Addr} {l : List (Int × Nat)} (h : OwnB w B (.slice ao n cap) l) (hl : 0 < l.length) : ∃ g, ao = some ⟨g, 0, none⟩ := by
  obtain ⟨ao', g, n', cap', hv, r, _⟩ := own_rdB h
  obtain ⟨rfl, _, _⟩ := Value.slice.inj hv
  exact ⟨g, r.addr (by have := r.len; omega)⟩
theorem St.list {w wr : World} {vs us : List Value} {Qs Ls : List (List (Int × Nat))} {vA vW vS : Value} {S : List Nat} (h : St w wr vs us Qs Ls vA vW vS S) (hv : vs.length = 6) (i : Nat) (hi : i < 6) : OwnB wr w.heap.size (vs.getD i dv) (Qs.getD i []) :=
  fam_left h.fam h.ql.symm i (by omega)
theorem St.cell_all {w wr : World} {vs us : List Value} {Qs Ls : List (List (Int × Nat))} {g cap : Nat} {vW vS : Value} {S : List Nat} (h : St w wr vs us Qs Ls (.slice (some ⟨g, 0, none⟩) 6 cap) vW vS S) (hv : vs.length = 6) (i : Nat) (hi : i < 6) : wr.cell? ⟨g, i, none⟩ = some (vs.getD i dv) := by
  obtain ⟨g', c', e', h'⟩ := ownV_cell h.all (i := i) (by omega)
  obtain ⟨e1, _, _⟩ := Value.slice.inj e'
  cases e1; exact h'
theorem store_keep {w : World} {B e s n B' g m cap x y : Nat} {u p q : Value} {xs : List Value} {L : List (Int × Nat)} (h : w.ownsRow B e s u n xs) (hv : OwnB w B' (.slice (some ⟨g, 0, none⟩) m cap) L) (hne : e ≠ 37) : ((w.setCell ⟨g, x, none⟩ p).setCell ⟨g, y, none⟩ q).ownsRow B e s u n xs := by
  refine own_of_block h (fun b hb => ?_)
  have hbg : b ≠ g := fun e2 => by
    rcases ty_ne h hv hne with h1 | h1
    · rw [h1] at hb; cases hb
    · exact h1 (by rw [hb, e2]; rfl)
  rw [Below.heap_setCell _ _ _ _ hbg, Below.heap_setCell _ _ _ _ hbg]
theorem St.store {w wr : World} {vs us : List Value} {Qs Ls : List (List (Int × Nat))} {vA vW vS : Value} {S : List Nat} (h : St w wr vs us Qs Ls vA vW vS S) (hv : vs.length = 6) (i : Nat) (hi : i < 6) (g m cap : Nat) (hu : vs.getD i dv = .slice (some ⟨g, 0, none⟩) m cap) (j : Nat) (x : Int) :
    St w ((wr.setCell ⟨g, j * 2, none⟩ (.int .i64 x)).setCell ⟨g, j * 2 + 1, none⟩ (.int .u64 0)) vs us (Qs.set i ((Qs.getD i []).set j (x, 0))) Ls vA vW vS S := by
  have hq := h.ql
  have hol := h.list hv i hi
  rw [hu] at hol
  have ho := ownB_set (j := j) hol x 0
  have hgB := (hol.lt g rfl).1
  have hf := fam_set (i := i) (L := (Qs.getD i []).set j (x, 0)) h.fam (by simp; omega) (by rw [getD_left _ _ _ _ (by omega), hu]; exact ho) (fun b hb => by
    rw [getD_left _ _ _ _ (by omega), hu] at hb
    have hbg : b ≠ g := fun e => hb (by rw [e]; rfl)
    rw [Below.heap_setCell _ _ _ _ hbg, Below.heap_setCell _ _ _ _ hbg])
  rw [List.set_append_left _ _ (by omega)] at hf
  exact ⟨hf, store_keep h.all hol (by decide), store_keep h.was hol (by decide), ⟨store_keep h.fr.set hol (by decide), (h.fr.below.setCell hgB _).setCell hgB _⟩, by rw [List.length_set]; exact hq⟩
/-- One block appended to a list of one's own: where it went. -/
theorem wpList_append_K (w : World) {ops : Array Oper} {rest : List Oper} {o : Oper} {a : Act} {Q : Exit → Act → World → Prop}
    (hg : o.guard = none) (s x : Operand) (hop : o.op = Op.call { callee := Callee.builtin Builtin.append, args := #[s, x], argTypes := #[29, 29] })
    (B : Nat) (v : Value) (L : List (Int × Nat)) (hs : a.eval s = v) (hown : OwnB w B v L) (ad : Addr) (mc : Nat) (c : Int × Nat) (hx : a.eval x = .slice (some ad) 1 mc) (hr : RdC w (.slice (some ad) 1 mc) [c].length (cB [c]))
    (hlen : L.length + 1 ≤ 1048576) (hB : B ≤ w.heap.size)
    (hK : ∀ v' w', OwnB w' B v' (L ++ [c]) → ((∃ g n cap, v = .slice (some ⟨g, 0, none⟩) n cap ∧ v' = .slice (some ⟨g, 0, none⟩) (n + 1) cap ∧ w.grownBy w' (some g)) ∨ (w.grownBy w' none ∧ ∀ g, v'.ownBlock = some g → w.heap.size ≤ g)) → wpList Try.prog ops Q rest (a.put o.dst v') w') : wpList Try.prog ops Q (o :: rest) a w := by
  obtain ⟨i0, hi, hz0, hz1, hz2⟩ := info_parts Try.infoB
  obtain ⟨ao, cap, he, _, hcells⟩ := hr
  obtain ⟨rfl, _, rfl⟩ := Value.slice.inj he
  have hap : ∀ {w' : World} {v' : Value} {n : Nat}, n = L.length + 1 → w'.ownsRow B 37 2 v' n (cB L ++ cB [c]) → OwnB w' B v' (L ++ [c]) := fun hn h => by
    rw [OwnB, cB_app, List.length_append, List.length_cons, List.length_nil, Nat.zero_add, ← hn]; exact h
  have hown0 := hown
  rcases hown.2 with ⟨rfl, h0⟩ | ⟨g, cp, cur, rfl, hgb, hh, hc⟩
  · have hL : L = [] := List.length_eq_zero_iff.1 h0
    subst hL
    refine wpList_append_own w hg s x _ hop w.heap.size 37 i0 (.agg #[.int .i64 0, .int .u64 0]) 2 16 Try.underlying29 hi hz0 hz1 hz2 rfl (by decide) _ 0 [] hs (World.ownsRow_nil _ _ _ _) ad 1 mc (cB [c]) hx rfl (hcells ad rfl) (cB_one _) (by decide) (by decide) (Nat.le_refl _) ?_
    intro v' w' r1 r2 _
    exact hK v' w' (hap rfl (by simpa [cB] using r1.mono hB)) (.inr ⟨r2, fun k hk => (r1.lt k hk).1⟩)
  · by_cases hfit : L.length + 1 ≤ cp
    · refine wpList_append_fits w hg s x _ hop B 37 i0 2 Try.underlying29 hi hz1 g L.length cp (cB L) hs hown0 ad 1 mc (cB [c]) hx rfl (hcells ad rfl) (cB_one _) hfit ?_
      intro w' r1 r2
      exact hK _ w' (hap rfl r1) (.inl ⟨g, L.length, cp, rfl, rfl, r2⟩)
    · refine wpList_append_grows w hg s x _ hop 37 i0 (.agg #[.int .i64 0, .int .u64 0]) 2 16 Try.underlying29 hi hz0 hz1 hz2 rfl (by decide) (some ⟨g, 0, none⟩) L.length cp (cB L) hs (fun h => by cases h) hown0.1 (fun b hb => by cases hb; exact hown0.cells rfl) ad 1 mc (cB [c]) hx rfl (hcells ad rfl) (cB_one _) (by omega) (by unfold maxLen; omega) (by omega) ?_
      intro v' w' r1 r2
      exact hK v' w' (hap rfl (r1.mono hB)) (.inr ⟨r2, fun k hk => (r1.lt k hk).1⟩)
/-- A list that another one goes on from stays. -/
theorem ownB_head {w w' : World} {B B1 B2 g n0 cap0 n cap n' : Nat} {l X r : List (Int × Nat)} (hu : OwnB w B (.slice (some ⟨g, 0, none⟩) n0 cap0) l) (hx : OwnB w B1 (.slice (some ⟨g, 0, none⟩) n cap) X) (hx' : OwnB w' B2 (.slice (some ⟨g, 0, none⟩) n' cap) (l ++ r)) : OwnB w' B (.slice (some ⟨g, 0, none⟩) n0 cap0) l := by
  obtain ⟨h1, h2⟩ := hu
  rcases h2 with ⟨h2, _⟩ | ⟨g1, c1, cur1, hv1, hg1, hh1, a1, a2, a3, a4⟩
  · cases h2
  rcases hx.2 with ⟨h3, _⟩ | ⟨g2, c2, cur2, hv2, hg2, hh2, b1, b2, b3, b4⟩
  · cases h3
  rcases hx'.2 with ⟨h4, _⟩ | ⟨g3, c3, cur3, hv3, hg3, hh3, d1, d2, d3, d4⟩
  · cases h4
  obtain ⟨e1, e2, e3⟩ := Value.slice.inj hv1
  obtain ⟨f1, f2, f3⟩ := Value.slice.inj hv2
  obtain ⟨i1, i2, i3⟩ := Value.slice.inj hv3
  cases e1; cases f1; cases i1
  rw [hh1] at hh2
  cases hh2
  refine ⟨h1, .inr ⟨g, c1, cur3, hv1, hg1, hh3, a1, a2, by rw [d3, ← i3, f3, ← b3, a3], ?_⟩⟩
  have h5 : cB l = (cB (l ++ r)).take (l.length * 2) := by rw [cB_app, ← cB_len, List.take_left]
  rw [h5, ← d4, List.take_take]
  congr 1
  simp
end Go.Proofs.Ytghmodbgfbgclaa
