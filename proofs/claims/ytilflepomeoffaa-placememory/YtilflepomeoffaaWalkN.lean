/-
  Lists of one's own that share an array, and lists apart from them. Own work.
-/
import Derived.Test.YtilflepomeoffaaWalkM
import Derived.ArgAppend
import Derived.Laws.AppendOwnNone
namespace Go.Proofs.Ytilflepomeoffaa
open Go.RowKit
attribute [local go_sem ↓] Go.wp_at_zero Go.wp_at_succ
theorem own_mono {w : World} {B B' : Nat} {v : Value} {l : List Nat} (h : Own w B v l) (hB : B' ≤ B) : Own w B' v l := by
  obtain ⟨h1, h2⟩ := h
  refine ⟨h1, ?_⟩
  rcases h2 with h2 | ⟨g, cap, cur, hv, hg, h3⟩
  · exact .inl h2
  · exact .inr ⟨g, cap, cur, hv, by omega, h3⟩
/-- Two lists have no array in common. -/
def Apart (v u : Value) : Prop := ∀ k, v.ownBlock = some k → u.ownBlock = some k → False
theorem Apart.symm {v u : Value} (h : Apart v u) : Apart u v := fun k h1 h2 => h k h2 h1
theorem apart_of {w w' : World} {B B' : Nat} {v u : Value} {l m : List Nat} (h : Own w B v l) (h' : Own w' B' u m) (hlt : w.heap.size ≤ B') : Apart v u := fun k h1 h2 => by
  have a1 := (h.lt k h1).2
  have a2 := (h'.lt k h2).1
  omega
theorem own_kept {w w' : World} {B g : Nat} {v : Value} {l : List Nat} (h : Own w B v l) (hg : w.grownBy w' (some g)) (hne : v.ownBlock ≠ some g) : Own w' B v l := h.kept hg (.inr hne)
/-- An append: what it leaves of all else. -/
structure Kt (w w' : World) (B : Nat) (v v' : Value) (X : List Nat) (c : Nat) : Prop where
  own : Own w' B v' (X ++ [c])
  rest : ∀ u l B', Own w B' u l → Apart v u → Own w' B' u l ∧ Apart v' u
  head : ∀ u l B', Own w B' u l → (∃ r, X = l ++ r) → Own w' B' u l
  below : ∀ w0, Below B w0 w → Below B w0 w'
  size : w.heap.size ≤ w'.heap.size
theorem kt_room {w w' : World} {B g n cap : Nat} {X : List Nat} {c : Nat} (hB : B ≤ w.heap.size) (hown : Own w B (.slice (some ⟨g, 0, none⟩) n cap) X)
    (hown' : Own w' B (.slice (some ⟨g, 0, none⟩) (n + 1) cap) (X ++ [c])) (hg : w.grownBy w' (some g)) : Kt w w' B (.slice (some ⟨g, 0, none⟩) n cap) (.slice (some ⟨g, 0, none⟩) (n + 1) cap) X c := by
  refine ⟨hown', fun u l B' ho ha => ⟨own_kept ho hg (fun e => ha g rfl e), fun k h1 h2 => ha k h1 h2⟩, fun u l B' ho hp => ?_, fun w0 h0 => h0.grown hg hB (fun k hk => by cases hk; exact (hown.lt g rfl).1), hg.size⟩
  by_cases hu : u.ownBlock = some g
  · obtain ⟨h1, h2⟩ := ho
    refine ⟨h1, ?_⟩
    rcases h2 with h2 | ⟨g1, cap1, cur1, rfl, hg1, hh1, a1, a2, a3, a4⟩
    · exact .inl h2
    · obtain rfl : g1 = g := by cases hu; rfl
      obtain ⟨b0, hb⟩ := hown
      obtain ⟨d0, hd⟩ := hown'
      rcases hb with ⟨hb, _⟩ | ⟨g2, cap2, cur2, hv2, hg2, hh2, b1, b2, b3, b4⟩
      · cases hb
      rcases hd with ⟨hd, _⟩ | ⟨g3, cap3, cur3, hv3, hg3, hh3, d1, d2, d3, d4⟩
      · cases hd
      obtain ⟨e1, e2, e3⟩ := Value.slice.inj hv2
      obtain ⟨f1, f2, f3⟩ := Value.slice.inj hv3
      cases e1; cases f1
      rw [hh1] at hh2
      cases hh2
      refine .inr ⟨g1, cap1, cur3, rfl, hg1, hh3, a1, a2, by rw [d3, ← f3, e3, ← b3, a3], ?_⟩
      obtain ⟨r, rfl⟩ := hp
      have h5 : cU l = (cU ((l ++ r) ++ [c])).take (l.length * 1) := by
        simp [cU]
      rw [h5, ← d4, List.take_take]
      congr 1
      simp
  · exact own_kept ho hg hu
theorem kt_grow {w w' : World} {B : Nat} {v v' : Value} {X : List Nat} {c : Nat} (hB : B ≤ w.heap.size)
    (hown' : Own w' w.heap.size v' (X ++ [c])) (hg : w.grownBy w' none) : Kt w w' B v v' X c := by
  have hb : Below w.heap.size w w' := (Below.refl _ _).grown hg (Nat.le_refl _) (fun k hk => by cases hk)
  refine ⟨own_mono hown' hB, fun u l B' ho ha => ⟨own_next ho hb, fun k h1 h2 => ?_⟩, fun u l B' ho hp => own_next ho hb, fun w0 h0 => h0.trans (hb.mono hB), hg.size⟩
  have a1 := (hown'.lt k h1).1
  have a2 := (ho.lt k h2).2
  omega
theorem own_lenV {w : World} {B : Nat} {v : Value} {l : List Nat} (h : Own w B v l) : (v = .slice none 0 0 ∧ l = []) ∨ ∃ g cap, v = .slice (some ⟨g, 0, none⟩) l.length cap := by
  obtain ⟨h1, h2⟩ := h
  rcases h2 with ⟨h2, h3⟩ | ⟨g, cap, cur, hv, _⟩
  · exact .inl ⟨h2, List.length_eq_zero_iff.1 h3⟩
  · exact .inr ⟨g, cap, hv⟩
/-- The law: one number appended to a list of one's own. -/
theorem wpList_append_kt (w : World) {ops : Array Oper} {rest : List Oper} {o : Oper} {a : Act} {Q : Exit → Act → World → Prop}
    (hg : o.guard = none) (s x : Operand) (hop : o.op = Op.call { callee := Callee.builtin Builtin.append, args := #[s, x], argTypes := #[24, 24] })
    (B : Nat) (v : Value) (X : List Nat) (hs : a.eval s = v) (hown : Own w B v X) (ad : Addr) (c m : Nat) (hx : a.eval x = .slice (some ad) 1 m) (hc : w.cell? ad = some (.int .u64 (c : Int)))
    (hB : B ≤ w.heap.size) (hlen : X.length + 1 ≤ 1000)
    (hK : ∀ v' w', Kt w w' B v v' X c → wpList Try.prog ops Q rest (a.put o.dst v') w') : wpList Try.prog ops Q (o :: rest) a w := by
  obtain ⟨i0, hi, hz0, hz1, hz2⟩ := info_parts Try.infoU
  have hnews : ∀ j u, [Value.int .u64 (c : Int)][j]? = some u → w.cell? (ad.add j) = some u := by
    intro j u hj
    match j, hj with
    | 0, hj => simp at hj; subst hj; simpa [Addr.add] using hc
  have hone : ∀ u ∈ [Value.int .u64 (c : Int)], u.oneCell' = true := by intro u hu; simp at hu; subst hu; rfl
  rcases own_lenV hown with ⟨rfl, rfl⟩ | ⟨g, cap, rfl⟩
  · refine wpList_append_grows w hg s x _ hop 22 i0 (.int .u64 0) 1 8 Try.underlying24 hi hz0 hz1 hz2 rfl (by decide) none 0 0 [] hs (fun _ => ⟨rfl, rfl⟩) rfl (fun b hb => by cases hb) ad 1 m [.int .u64 (c : Int)] hx rfl hnews hone (by decide) (by decide) (by decide) ?_
    intro v' w' h1 h2
    exact hK v' w' (kt_grow hB h1 h2)
  · by_cases hroom : X.length + 1 ≤ cap
    · refine wpList_append_fits w hg s x _ hop B 22 i0 1 Try.underlying24 hi hz1 g X.length cap (cU X) hs hown ad 1 m [.int .u64 (c : Int)] hx rfl hnews hone hroom ?_
      intro w' h1 h2
      exact hK _ w' (kt_room hB hown (by simpa [Own, cU] using h1) h2)
    · obtain ⟨b1, b2⟩ := hown
      have hcells := World.ownsRow.cells (w := w) (base := B) (e := 22) (size := 1) (v := .slice (some ⟨g, 0, none⟩) X.length cap) (n := X.length) (xs := cU X) ⟨b1, b2⟩ (g := g) rfl
      refine wpList_append_grows w hg s x _ hop 22 i0 (.int .u64 0) 1 8 Try.underlying24 hi hz0 hz1 hz2 rfl (by decide) (some ⟨g, 0, none⟩) X.length cap (cU X) hs (fun h => by cases h) b1 (fun b hb => by cases hb; exact hcells) ad 1 m [.int .u64 (c : Int)] hx rfl hnews hone (by omega) (by unfold maxLen; omega) (by omega) ?_
      intro v' w' h1 h2
      exact hK v' w' (kt_grow hB (by simpa [Own, cU] using h1) h2)
/-- The law: a whole list appended to an empty one. -/
theorem wpList_append_copy (w : World) {ops : Array Oper} {rest : List Oper} {o : Oper} {a : Act} {Q : Exit → Act → World → Prop}
    (hg : o.guard = none) (s x : Operand) (hop : o.op = Op.call { callee := Callee.builtin Builtin.append, args := #[s, x], argTypes := #[24, 24] })
    (base g : Nat) (hs : a.eval s = .slice (some ⟨g, 0, none⟩) 0 0) (hown : Own w base (.slice (some ⟨g, 0, none⟩) 0 0) []) (B : Nat) (v : Value) (X : List Nat) (hx : a.eval x = v) (hv : Own w B v X)
    (hB : base ≤ w.heap.size) (hlen : X.length ≤ 1000)
    (hK : ∀ v' w', Own w' base v' X → Below base w w' → wpList Try.prog ops Q rest (a.put o.dst v') w') : wpList Try.prog ops Q (o :: rest) a w := by
  obtain ⟨i0, hi, hz0, hz1, hz2⟩ := info_parts Try.infoU
  have hgb : base ≤ g := (hown.lt g rfl).1
  rcases own_lenV hv with ⟨rfl, rfl⟩ | ⟨g', cap, rfl⟩
  · exact wpList_append_own_none hg s x _ hop base 22 i0 1 Try.underlying24 hi _ 0 [] hs hown hx (hK _ w hown (Below.refl _ _))
  · have hcells := World.ownsRow.cells (w := w) (base := B) (e := 22) (size := 1) (v := .slice (some ⟨g', 0, none⟩) X.length cap) (n := X.length) (xs := cU X) hv (g := g') rfl
    refine wpList_append_own w hg s x _ hop base 22 i0 (.int .u64 0) 1 8 Try.underlying24 hi hz0 hz1 hz2 rfl (by decide) _ 0 [] hs hown ⟨g', 0, none⟩ X.length cap (cU X) hx (by simp [cU]) hcells (by intro u hu; simp [cU] at hu; obtain ⟨y, _, rfl⟩ := hu; rfl) (by unfold maxLen; omega) (by omega) hB ?_
    intro v' w' h1 h2 _
    exact hK v' w' (by simpa [Own, cU] using h1) ((Below.refl _ _).grown h2 hB (fun k hk => by cases hk; exact hgb))
/-- A store into a list of one's own. -/
theorem own_set {w : World} {B g n cap j : Nat} {l : List Nat} (h : Own w B (.slice (some ⟨g, 0, none⟩) n cap) l) (c : Nat) : Own (w.setCell ⟨g, j, none⟩ (.int .u64 (c : Int))) B (.slice (some ⟨g, 0, none⟩) n cap) (l.set j c) := by
  obtain ⟨h1, h2⟩ := h
  refine ⟨by simp, .inr ?_⟩
  rcases h2 with ⟨h2, h3⟩ | ⟨g', cap', cur, hv, hg, hh, h3, h4, h5, h6⟩
  · cases h2
  · obtain ⟨e1, e2, e3⟩ := Value.slice.inj hv
    cases e1
    refine ⟨g, cap, cur.setIfInBounds j (.int .u64 (c : Int)), by rw [e2]; simp, hg, heap_setCell_same w g j cur _ _ hh, by simpa [e3] using h3, by omega, by simpa [e3] using h5, ?_⟩
    have h7 : cU (l.set j c) = (cU l).set j (.int .u64 (c : Int)) := by simp [cU]
    rw [h7, ← h6, List.length_set, Array.toList_setIfInBounds, List.take_set]
theorem own_unset {w : World} {B g j : Nat} {u : Value} {l : List Nat} (h : Own w B u l) (hne : u.ownBlock ≠ some g) (c : Value) : Own (w.setCell ⟨g, j, none⟩ c) B u l := by
  obtain ⟨h1, h2⟩ := h
  refine ⟨h1, ?_⟩
  rcases h2 with h2 | ⟨g', cap', cur, rfl, hg, hh, h3⟩
  · exact .inl h2
  · refine .inr ⟨g', cap', cur, rfl, hg, ?_, h3⟩
    rw [heap_setCell_other w ⟨g, j, none⟩ g' c (fun e => hne (by rw [show g' = g from e]; rfl))]
    exact hh
theorem own_cells {w : World} {B g n cap j : Nat} {l : List Nat} (h : Own w B (.slice (some ⟨g, 0, none⟩) n cap) l) (hj : j < l.length) : w.cell? ⟨g, j, none⟩ = some (.int .u64 (l.getD j 0 : Nat)) ∧ w.frozen? ⟨g, j, none⟩ = false := by
  refine ⟨?_, ?_⟩
  · have := h.cells (g := g) rfl j (.int .u64 (l.getD j 0 : Nat)) (by simp [cU, List.getD_eq_getElem?_getD, List.getElem?_eq_getElem hj])
    rw [Addr.add_mid, Nat.zero_add] at this
    exact this
  · obtain ⟨h1, h2⟩ := h
    rcases h2 with ⟨h2, h3⟩ | ⟨g', cap', cur, hv, hg, hh, h3⟩
    · cases h2
    · obtain ⟨e1, e2, e3⟩ := Value.slice.inj hv
      cases e1
      simp [World.frozen?, hh]
end Go.Proofs.Ytilflepomeoffaa
