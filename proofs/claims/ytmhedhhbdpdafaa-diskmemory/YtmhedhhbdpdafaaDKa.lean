/-
  Lists of files of one's own, apart from one another: rows, one more, one in another's place. Own work.
-/
import Derived.Test.YtmhedhhbdpdafaaDMm
import Derived.Test.YtmhedhhbdpdafaaDBx
namespace Go.Proofs.Ytmhedhhbdpdafaa
open Go.RowKit
/-- A file's name and bytes. -/
abbrev FL : Type := List UInt8 × List UInt8
theorem Try.infoV : (Try.prog.info? 40).map (fun i => (i.zero, i.size, i.bytes)) = some (some (.slice none 0 0), 1, 24) := by kernel_rfl
/-- A list of lists. -/
abbrev OwnV (w : World) (B : Nat) (v : Value) (vs : List Value) : Prop := w.ownsRow B 40 1 v vs.length vs
/-- No list at all. -/
abbrev dv : Value := .slice none 0 0
/-- Two lists share no block. -/
def Apart (u v : Value) : Prop := ∀ k, u.ownBlock = some k → v.ownBlock = some k → False
theorem Apart.symm {v u : Value} (h : Apart v u) : Apart u v := fun k h1 h2 => h k h2 h1
theorem Apart.blk {x x' u : Value} (h : Apart x u) (hx : x'.ownBlock = x.ownBlock) : Apart x' u := fun k h1 h2 => h k (by rw [← hx]; exact h1) h2
theorem own_of_block {w w' : World} {B e size n : Nat} {v : Value} {xs : List Value} (h : w.ownsRow B e size v n xs) (hb : ∀ g, v.ownBlock = some g → w'.heap[g]? = w.heap[g]?) : w'.ownsRow B e size v n xs := row_keep h hb
theorem ownB_next {w w' : World} {B e size n : Nat} {v : Value} {l : List Value} (h : w.ownsRow B e size v n l) (hb : Below w.heap.size w w') : w'.ownsRow B e size v n l := own_of_block h fun g hg => hb.block g (h.lt g hg).2
theorem row_slice {w : World} {B e size n : Nat} {v : Value} {xs : List Value} (h : w.ownsRow B e size v n xs) : ∃ ao m c, v = .slice ao m c := by
  rcases h.2 with ⟨hv, _⟩ | ⟨g, cap, cur, hv, _⟩
  · exact ⟨none, 0, 0, hv⟩
  · exact ⟨_, _, _, hv⟩
theorem ty_ne {w : World} {B e s n B' e' s' n' : Nat} {u v : Value} {xs xs' : List Value} (h : w.ownsRow B e s u n xs) (hv : w.ownsRow B' e' s' v n' xs') (hne : e ≠ e') : u.ownBlock = none ∨ u.ownBlock ≠ v.ownBlock := by
  rcases h.2 with ⟨rfl, _⟩ | ⟨g, cap, cur, rfl, _, hg, _⟩
  · exact .inl rfl
  · refine .inr (fun he => ?_)
    rcases hv.2 with ⟨rfl, _⟩ | ⟨g', cap', cur', rfl, _, hg', _⟩
    · cases he
    · have : g = g' := by simpa [Value.ownBlock] using he
      subst this
      rw [hg] at hg'
      injection hg' with h1
      injection h1 with _ h2 _
      exact hne h2
theorem getD_snoc {α : Type} (d : α) (l : List α) (x : α) (i : Nat) : (l ++ [x]).getD i d = if i < l.length then l.getD i d else if i = l.length then x else d := by
  by_cases h : i < l.length
  · rw [if_pos h, List.getD_eq_getElem?_getD, List.getElem?_append_left h, ← List.getD_eq_getElem?_getD]
  · rw [if_neg h]
    by_cases h2 : i = l.length
    · rw [if_pos h2, h2, List.getD_eq_getElem?_getD]; simp
    · rw [if_neg h2, List.getD_eq_getElem?_getD, List.getElem?_eq_none (by simp; omega)]; rfl
theorem getD_set {α : Type} (d : α) (l : List α) (i j : Nat) (x : α) (hi : i < l.length) : (l.set i x).getD j d = if j = i then x else l.getD j d := by
  rw [List.getD_eq_getElem?_getD, List.getElem?_set]
  by_cases h : i = j
  · subst h; simp [hi]
  · rw [if_neg h, if_neg (fun e => h e.symm), ← List.getD_eq_getElem?_getD]
theorem set_getD_self {α : Type} (d : α) (l : List α) (i : Nat) : l.set i (l.getD i d) = l := by
  apply List.ext_getElem?
  intro j
  rw [List.getElem?_set]
  by_cases h : i = j
  · subst h
    by_cases hl : i < l.length
    · simp [hl]
    · simp [hl]
  · simp [h]
theorem ownF_lt {w : World} {B : Nat} {v : Value} {l : List FL} (h : OwnF w B v l) : ∀ k, v.ownBlock = some k → B ≤ k ∧ k < w.heap.size := World.ownsRow.lt h
theorem ownF_next {w w' : World} {B : Nat} {v : Value} {l : List FL} (h : OwnF w B v l) (hb : Below w.heap.size w w') : OwnF w' B v l := ownB_next h hb
theorem ownF_mono {w : World} {B B' : Nat} {v : Value} {l : List FL} (h : OwnF w B v l) (hB : B' ≤ B) : OwnF w B' v l := World.ownsRow.mono h hB
theorem ownF_nil (w : World) (B : Nat) : OwnF w B (.slice none 0 0) [] := ⟨rfl, .inl ⟨rfl, rfl⟩⟩
theorem ownF_len {w : World} {B n cap : Nat} {ao : Option Addr} {l : List FL} (h : OwnF w B (.slice ao n cap) l) : l.length = n := by
  rcases h.2 with ⟨hv, h0⟩ | ⟨g, cp, cur, hv, _⟩
  · obtain ⟨_, e2, _⟩ := Value.slice.inj hv; omega
  · obtain ⟨_, e2, _⟩ := Value.slice.inj hv; exact e2.symm
theorem ownF_some {w : World} {B n cap : Nat} {ao : Option Addr} {l : List FL} (h : OwnF w B (.slice ao n cap) l) (hl : 0 < l.length) : ∃ g, ao = some ⟨g, 0, none⟩ := by
  rcases h.2 with ⟨hv, h0⟩ | ⟨g, cp, cur, hv, _⟩
  · omega
  · obtain ⟨e1, _, _⟩ := Value.slice.inj hv; exact ⟨g, e1⟩
theorem ownF_at {w : World} {B g n cap : Nat} {l : List FL} (h : OwnF w B (.slice (some ⟨g, 0, none⟩) n cap) l) {j : Nat} (hj : j < l.length) : (w.cell? ⟨g, j * 2, none⟩ = some (.string ⟨(l.getD j ([], [])).1.toArray⟩) ∧ w.cell? ⟨g, j * 2 + 1, none⟩ = some (.string ⟨(l.getD j ([], [])).2.toArray⟩)) ∧ ∀ i, w.frozen? ⟨g, i, none⟩ = false := by
  rcases h.2 with ⟨hv, h0⟩ | ⟨g', cap', cur, hv, hg, hh, h1, h2, h3, h4⟩
  · omega
  · obtain ⟨e1, _, _⟩ := Value.slice.inj hv
    cases e1
    have at' : ∀ i, i < l.length * 2 → w.cell? ⟨g, i, none⟩ = (cF l)[i]? := fun i hi => by
      rw [cell_of_row w g i cur _ (0, 0) hh]
      have := congrArg (fun x => x[i]?) h4
      simp only [List.getElem?_take, if_pos hi] at this
      rw [Array.getElem?_toList] at this
      exact this
    exact ⟨⟨by rw [at' _ (by omega)]; exact (cF_at l j hj).1, by rw [at' _ (by omega)]; exact (cF_at l j hj).2⟩, fun i => frozen_of_row w g i cur _ hh⟩
theorem cF_set : ∀ (l : List FL) (j : Nat) (a b : ByteArray), j < l.length → ((cF l).set (j * 2) (.string a)).set (j * 2 + 1) (.string b) = cF (l.set j (a.data.toList, b.data.toList))
  | [], j, _, _, h => by simp at h
  | x :: r, 0, a, b, _ => rfl
  | x :: r, j + 1, a, b, h => by
    have := cF_set r j a b (by simpa using h)
    rw [show (j + 1) * 2 = j * 2 + 2 by omega]
    show Value.string _ :: Value.string _ :: (((cF r).set (j * 2) (.string a)).set (j * 2 + 1) (.string b)) = _
    rw [this]
    rfl
/-- A file written into a list of one's own. -/
theorem ownF_set {w : World} {B g n cap j : Nat} {l : List FL} (h : OwnF w B (.slice (some ⟨g, 0, none⟩) n cap) l) (hj : j < l.length) (a b : ByteArray) : OwnF ((w.setCell ⟨g, j * 2, none⟩ (.string a)).setCell ⟨g, j * 2 + 1, none⟩ (.string b)) B (.slice (some ⟨g, 0, none⟩) n cap) (l.set j (a.data.toList, b.data.toList)) := by
  obtain ⟨h1, h2⟩ := h
  refine ⟨by rw [cF_len, List.length_set], .inr ?_⟩
  rcases h2 with ⟨h2, h3⟩ | ⟨g', cap', cur, hv, hg, hh, h3, h4, h5, h6⟩
  · cases h2
  · obtain ⟨e1, e2, e3⟩ := Value.slice.inj hv
    cases e1
    have s1 := heap_setCell_same w g (j * 2) cur _ (.string a) hh
    have s2 := heap_setCell_same _ g (j * 2 + 1) _ _ (.string b) s1
    refine ⟨g, cap, _, by rw [e2]; simp, hg, s2, by simpa [e3] using h3, by omega, by simpa [e3] using h5, ?_⟩
    rw [← cF_set l j a b hj, ← h6, List.length_set, Array.toList_setIfInBounds, Array.toList_setIfInBounds, List.take_set, List.take_set]
/-- A list that another one goes on from stays. -/
theorem ownF_head {w w' : World} {B B1 B2 g n0 cap0 n cap n' : Nat} {l X r : List FL} (hu : OwnF w B (.slice (some ⟨g, 0, none⟩) n0 cap0) l) (hx : OwnF w B1 (.slice (some ⟨g, 0, none⟩) n cap) X) (hx' : OwnF w' B2 (.slice (some ⟨g, 0, none⟩) n' cap) (l ++ r)) : OwnF w' B (.slice (some ⟨g, 0, none⟩) n0 cap0) l := by
  obtain ⟨h1, h2⟩ := hu
  rcases h2 with ⟨h2, _⟩ | ⟨g1, c1, cur1, hv1, hg1, hh1, a1, a2, a3, a4⟩
  · cases h2
  rcases hx.2 with ⟨h3, _⟩ | ⟨g2, c2, cur2, hv2, hg2, hh2, b1, b2, b3, b4⟩
  · cases h3
  rcases hx'.2 with ⟨h4, _⟩ | ⟨g3, c3, cur3, hv3, hg3, hh3, d1, d2, d3, d4⟩
  · cases h4
  obtain ⟨e1, e2, e3⟩ := Value.slice.inj hv1
  obtain ⟨f1, f2, f3⟩ := Value.slice.inj hv2
  obtain ⟨i1, i2, i3⟩ := Value.slice.inj hv3
  cases e1; cases f1; cases i1
  rw [hh1] at hh2
  cases hh2
  refine ⟨h1, .inr ⟨g, c1, cur3, hv1, hg1, hh3, a1, a2, by rw [d3, ← i3, f3, ← b3, a3], ?_⟩⟩
  have h5 : cF l = (cF (l ++ r)).take (l.length * 2) := by rw [cF_app, ← cF_len, List.take_left]
  rw [h5, ← d4, List.take_take]
  congr 1
  simp
/-- Where an append went. -/
def Went (w w' : World) (v v' : Value) : Prop := (∃ g n cap, v = .slice (some ⟨g, 0, none⟩) n cap ∧ v' = .slice (some ⟨g, 0, none⟩) (n + 1) cap ∧ w.grownBy w' (some g)) ∨ (w.grownBy w' none ∧ ∀ g, v'.ownBlock = some g → w.heap.size ≤ g)
theorem two_cells {w : World} {ad : Addr} {a b : Value} (h0 : w.cell? ad = some a) (h1 : w.cell? (ad.add 1) = some b) : ∀ j u, [a, b][j]? = some u → w.cell? (ad.add j) = some u := fun j u hu => by
  match j, hu with
  | 0, hu => simp at hu; subst hu; simpa [Addr.add] using h0
  | 1, hu => simp at hu; subst hu; exact h1
/-- One file appended to a list of one's own: what it comes to, and where it went. -/
theorem run_app_F (w : World) (ty B : Nat) (v : Value) (L : List FL) (hown : OwnF w B v L) (ad : Addr) (mc : Nat) (a b : ByteArray) (hr : ∀ j u, [Value.string a, .string b][j]? = some u → w.cell? (ad.add j) = some u)
    (hlen : L.length + 1 ≤ 1048576) (hB : B ≤ w.heap.size) :
    ∃ v' w', (Builtin.append_ #[40, 40] ty #[v, .slice (some ad) 1 mc]).run Try.prog w = .ok v' w' ∧ OwnF w' B v' (L ++ [(a.data.toList, b.data.toList)]) ∧ Went w w' v v' := by
  obtain ⟨i0, hi, hz0, hz1, hz2⟩ := info_parts Try.infoF
  have hap : ∀ {w' : World} {v' : Value} {n : Nat}, n = L.length + 1 → w'.ownsRow B 42 2 v' n (cF L ++ [.string a, .string b]) → OwnF w' B v' (L ++ [(a.data.toList, b.data.toList)]) := fun hn h => by
    rw [OwnF, cF_app, List.length_append, List.length_cons, List.length_nil, Nat.zero_add, ← hn]; exact h
  have h1c : ∀ u ∈ ([.string a, .string b] : List Value), u.oneCell' = true := by intro u hu; simp at hu; rcases hu with rfl | rfl <;> rfl
  have hown0 := hown
  rcases hown.2 with ⟨rfl, h0⟩ | ⟨g, cp, cur, rfl, hgb, hh, hc⟩
  · have hL : L = [] := List.length_eq_zero_iff.1 h0
    subst hL
    obtain ⟨v', w', hrun, r1, r2, _⟩ := run_append_own (P := Try.prog) w w.heap.size 40 ty 42 i0 (.agg #[.string ⟨#[]⟩, .string ⟨#[]⟩]) 2 32 Try.underlying40 hi hz0 hz1 hz2 rfl (by decide) _ 0 [] (World.ownsRow_nil _ _ _ _) ad 1 mc [.string a, .string b] rfl hr h1c (by decide) (by decide) (Nat.le_refl _)
    exact ⟨v', w', hrun, hap rfl (by simpa [cF] using World.ownsRow.mono r1 hB), .inr ⟨r2, fun k hk => (World.ownsRow.lt r1 k hk).1⟩⟩
  · by_cases hfit : L.length + 1 ≤ cp
    · obtain ⟨w', hrun, r1, r2⟩ := run_append_fits (P := Try.prog) w B 40 ty 42 i0 2 Try.underlying40 hi hz1 g L.length cp (cF L) hown0 ad 1 mc [.string a, .string b] rfl hr h1c hfit
      exact ⟨_, w', hrun, hap rfl r1, .inl ⟨g, L.length, cp, rfl, rfl, r2⟩⟩
    · obtain ⟨v', w', hrun, r1, r2⟩ := run_append_arg_grows (P := Try.prog) w 40 ty 42 i0 (.agg #[.string ⟨#[]⟩, .string ⟨#[]⟩]) 2 32 Try.underlying40 hi hz0 hz1 hz2 rfl (by decide) ⟨g, 0, none⟩ L.length cp (cF L) hown0.1 (World.ownsRow.cells hown0 rfl) ad 1 mc [.string a, .string b] rfl hr (by omega) (by unfold maxLen; omega) (by omega)
      exact ⟨v', w', hrun, hap rfl (World.ownsRow.mono r1 hB), .inr ⟨r2, fun k hk => (World.ownsRow.lt r1 k hk).1⟩⟩
/-- What is left of a run that has come to its end. -/
def resO (r : Result Value) : Option (Value × World) :=
  match r with
  | .ok v w => some (v, w)
  | .halt _ _ => none
theorem resO_ok (r : Result Value) (hs : (resO r).isSome = true) (d : Value × World) : r = .ok ((resO r).getD d).1 ((resO r).getD d).2 := by
  cases r with
  | ok v w => rfl
  | halt x w => cases hs
/-- What an append comes to. -/
noncomputable def appR (t ty : Nat) (v u : Value) (w : World) : Option (Value × World) := resO ((Builtin.append_ #[t, t] ty #[v, u]).run Try.prog w)
theorem appR_of {t ty : Nat} {v u v' : Value} {w w' : World} (h : (Builtin.append_ #[t, t] ty #[v, u]).run Try.prog w = .ok v' w') : appR t ty v u w = some (v', w') := congrArg resO h
/-- An append that is known to come to its end is not opened. -/
theorem run_appR (t ty : Nat) (v u : Value) (w : World) (hs : (appR t ty v u w).isSome = true) : (Builtin.append_ #[t, t] ty #[v, u]).run Try.prog w = .ok ((appR t ty v u w).getD (dv, w)).1 ((appR t ty v u w).getD (dv, w)).2 := resO_ok _ hs (dv, w)
theorem exec_appR (ρ : Operand → Value) (d : Option Tmp) (s x : Operand) (t ty : Nat) (ps : String) (af : Array Edge) (gd : Option (Nat × Bool)) (w : World) (hs : (appR t ty (ρ s) (ρ x) w).isSome = true) :
    (execOp ρ { dst := d, op := Op.call { callee := Callee.builtin Builtin.append, args := #[s, x], argTypes := #[t, t] }, type := ty, pos := ps, after := af, guard := gd }).run Try.prog w = .ok (.value ((appR t ty (ρ s) (ρ x) w).getD (dv, w)).1) ((appR t ty (ρ s) (ρ x) w).getD (dv, w)).2 := by
  have hrun := run_appR t ty (ρ s) (ρ x) w hs
  generalize (appR t ty (ρ s) (ρ x) w).getD (dv, w) = r at *
  simp [execOp, resolve, invoke, builtin, hrun, Result.andThen]
/-- Cells that can be read. -/
def RdC (w : World) (u : Value) (m : Nat) (news : List Value) : Prop :=
  ∃ ao cap, u = .slice ao m cap ∧ (ao = none → m = 0 ∧ cap = 0) ∧ ∀ ad, ao = some ad → ∀ j c, news[j]? = some c → w.cell? (ad.add j) = some c
theorem run_all (w : World) (t ty e B size bytes : Nat) (i : TypeInfo) (z : Value) (h1 : Try.prog.underlying t = some (.slice e)) (h2 : Try.prog.info? e = some i) (h3 : i.zero = some z) (h4 : i.size = size) (h5 : i.bytes = bytes) (h6 : z.cells.size = size) (h7 : 0 < size)
    (v : Value) (n : Nat) (xs : List Value) (hown : w.ownsRow B e size v n xs) (u : Value) (m : Nat) (news : List Value) (hr : RdC w u m news) (hn : news.length = m * size) (h1c : ∀ u ∈ news, u.oneCell' = true)
    (b1 : n + m ≤ maxLen) (b2 : (n + m) * bytes ≤ 140737488355328) (hB : B ≤ w.heap.size) :
    ∃ v' w', (Builtin.append_ #[t, t] ty #[v, u]).run Try.prog w = .ok v' w' ∧ w'.ownsRow B e size v' (n + m) (xs ++ news) ∧ w.grownBy w' v.ownBlock := by
  obtain ⟨ao, cap, rfl, hnone, hcells⟩ := hr
  cases ao with
  | none =>
    obtain ⟨rfl, rfl⟩ := hnone rfl
    have hnil : news = [] := List.length_eq_zero_iff.1 (by rw [hn]; omega)
    subst hnil
    exact ⟨v, w, run_append_owned_none (P := Try.prog) (w := w) B t ty e i size h1 h2 v n xs hown, by simpa using hown, World.grownBy.refl w _⟩
  | some ad =>
    obtain ⟨v', w', q1, q2, q3, _⟩ := run_append_own (P := Try.prog) w B t ty e i z size bytes h1 h2 h3 h4 h5 h6 h7 v n xs hown ad m cap news hn (hcells ad rfl) h1c b1 b2 hB
    exact ⟨v', w', q1, q2, q3⟩
/-- One file more at one list: another one that is apart stays. -/
theorem keepF {wr w1 : World} {B : Nat} {v v' u : Value} {L : List FL} {l : List FL} (hu : OwnF wr B u L) (hx : OwnF wr B v l) (ha : Apart v u) (hB : B ≤ wr.heap.size) (r2 : Went wr w1 v v') : OwnF w1 B u L ∧ Apart v' u ∧ Below B wr w1 := by
  rcases r2 with ⟨g, n, cap, rfl, rfl, hg⟩ | ⟨hg, hf⟩
  · exact ⟨World.ownsRow.kept hu hg (.inr (fun e => ha g rfl e)), fun k h1 h2 => ha k h1 h2, (Below.refl _ _).grown hg hB (fun k hk => by cases hk; exact (ownF_lt hx g rfl).1)⟩
  · have hb : Below wr.heap.size wr w1 := (Below.refl _ _).grown hg (Nat.le_refl _) (fun j hj => by cases hj)
    exact ⟨ownF_next hu hb, fun k h1 h2 => by have := (ownF_lt hu k h2).2; have := hf k h1; omega, hb.mono hB⟩
end Go.Proofs.Ytmhedhhbdpdafaa
