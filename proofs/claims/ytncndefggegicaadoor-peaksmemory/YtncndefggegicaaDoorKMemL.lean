/-
  What PeaksMemory holds, as it goes on. Own work.
-/
import Derived.Test.YtncndefggegicaaDoorKMem
import Derived.Test.YtncndefggegicaaDoorKOps
import Derived.Test.YtncndefggegicaaDoorKRefd
import Derived.Test.YtncndefggegicaaDoorPWalkB
import Derived.BigRegion
namespace Go.Proofs.YtncndefggegicaaDoor
open Go.RowKit
open Pl (ones)
attribute [local go_sem ↓] Go.wp_at_zero Go.wp_at_succ
set_option maxRecDepth 100000 in
theorem digest_big (w : World) (s : ByteArray) (hs : s.size ≤ 9223372036854775807) (K : Nat) (hK : K ≤ 32) (r : ByteArray) (hr : padS s K = r) :
    Calls Tryd.prog 11 #[.string s, .int .i64 (K : Int)] w fun e w' => e = .returned (.string r) ∧ Below w.heap.size w w' := by
  have hmk := fun u => make_bytes K hK u
  have HB0 : Hid (Below w.heap.size w (w.alloc (.cells (cB (List.replicate K 0)).toArray 5)) ∧ (w.alloc (.cells (cB (List.replicate K 0)).toArray 5)).rangeAt w.heap.size 0 (cB (padL s K 0)) ∧ (w.alloc (.cells (cB (List.replicate K 0)).toArray 5)).there w.heap.size 0 K) :=
    ⟨bal (Below.refl _ _) _, range_new w _ _, there_new w _ _ K (by simp [cB])⟩
  have HQ : Hid (strB (padL s K (min K s.size)) = r ∧ s.size ≤ 9223372036854775807 ∧ K ≤ 32) := ⟨hr, hs, hK⟩
  clear hr hs hK
  go_enter Tryd.func11, Tryd.ntmps11
  go_wp2
  go_loopg [6] K (fun gk i wr => ∃ j : Nat, j ≤ K ∧ j ≤ s.size ∧ gk = K - j ∧ i = .int .i64 (j : Int) ∧ Hid (Below w.heap.size w wr ∧ wr.rangeAt w.heap.size 0 (cB (padL s K j)) ∧ wr.there w.heap.size 0 K))
  case atStart =>
    go_light
    exact ⟨0, Nat.zero_le _, Nat.zero_le _, rfl, rfl, HB0⟩
  case round =>
    obtain ⟨j, hj, hj2, rfl, rfl, HB⟩ := hrel
    have done : j = min K s.size → Hid ((convert 27 9 (.slice (some ⟨w.heap.size, 0, none⟩) K K)).run Tryd.prog wr = .ok (.string r) wr) := fun h => by
      have := conv_str wr w.heap.size (padL s K j) K (padL_len _ _ _) HB.out.2.1
      rw [h, HQ.out.1] at this
      exact this
    by_cases hlt : j < K
    · have hz : (j : Int) < (K : Int) := by omega
      by_cases hlt2 : j < s.size
      · have hz2 : (j : Int) < (s.size : Int) := by omega
        have hz9 : (j : Int) < 32 := by have := HQ.out.2.2; omega
        obtain ⟨x, hx⟩ : ∃ x, (tB s).getD j 0 = x := ⟨_, rfl⟩
        have ik := fun W => idx_k s j x hlt2 hx W
        obtain ⟨y, hy⟩ : ∃ y, wr.cell? ⟨w.heap.size, j, none⟩ = some y := by
          have := (HB.out.2.2 j hlt).1
          rw [Nat.zero_add] at this
          exact Option.isSome_iff_exists.1 this
        have fy : wr.frozen? ⟨w.heap.size, j, none⟩ = false := by have := (HB.out.2.2 j hlt).2; rwa [Nat.zero_add] at this
        have HB2 : Hid (Below w.heap.size w (wr.setCell ⟨w.heap.size, j, none⟩ (.int .u8 x)) ∧ (wr.setCell ⟨w.heap.size, j, none⟩ (.int .u8 x)).rangeAt w.heap.size 0 (cB (padL s K (j + 1))) ∧ (wr.setCell ⟨w.heap.size, j, none⟩ (.int .u8 x)).there w.heap.size 0 K) := by
          refine ⟨HB.out.1.setCell (p := ⟨w.heap.size, j, none⟩) (Nat.le_refl _) _, ?_, there_set HB.out.2.2 _ _⟩
          have := range_set HB.out.2.1 j (.int .u8 x)
          rw [Nat.zero_add] at this
          rw [padL, hx]
          simpa [cB, List.map_set] using this
        clear done HB HB0 hx
        go_wp2
        go_roundg (K - (j + 1))
        case rel =>
          go_light
          exact ⟨j + 1, by omega, by omega, rfl, by go_num, HB2⟩
        case measure => go_light; omega
      · have hz2 : ¬ ((j : Int) < (s.size : Int)) := by omega
        have kc := (done (by omega)).out
        clear done HB0
        go_wp2
        go_ret
        exact ⟨rfl, HB.out.1⟩
    · have hz : ¬ ((j : Int) < (K : Int)) := by omega
      have kc := (done (by omega)).out
      clear done HB0
      go_wp2
      go_ret
      exact ⟨rfl, HB.out.1⟩
/-- The mark behind the list. -/
abbrev roomT : ByteArray := ⟨#[114, 111, 111, 109]⟩
abbrev overT : ByteArray := ⟨#[111, 118, 101, 114]⟩
/-- One text more at one list: another one that is apart stays. -/
theorem keepK {wr w1 : World} {B : Nat} {v v' u : Value} {L : List ByteArray} {l : List ByteArray} (hu : OwnS wr B u L) (hx : OwnS wr B v l) (ha : Apart v u) (hB : B ≤ wr.heap.size)
    (r2 : (∃ g n cap, v = .slice (some ⟨g, 0, none⟩) n cap ∧ v' = .slice (some ⟨g, 0, none⟩) (n + 1) cap ∧ wr.grownBy w1 (some g)) ∨ (wr.grownBy w1 none ∧ ∀ g, v'.ownBlock = some g → wr.heap.size ≤ g)) : OwnS w1 B u L ∧ Apart v' u ∧ Below B wr w1 := by
  rcases r2 with ⟨g, n, cap, rfl, rfl, hg⟩ | ⟨hg, hf⟩
  · exact ⟨World.ownsRow.kept hu hg (.inr (fun e => ha g rfl e)), fun k h1 h2 => ha k h1 h2, (Below.refl _ _).grown hg hB (fun k hk => by cases hk; exact (owns_lt hx g rfl).1)⟩
  · have hb : Below wr.heap.size wr w1 := (Below.refl _ _).grown hg (Nat.le_refl _) (fun j hj => by cases hj)
    exact ⟨owns_step hu hb, fun k h1 h2 => by have := (owns_lt hu k h2).2; have := hf k h1; omega, hb.mono hB⟩
/-- Both Ranges made: the list that the first was made from, and its copy. -/
structure MS (w W : World) (v7 v9 : Value) (X L : List ByteArray) (p1 : Nat) (v1 : Value) (p2 : Nat) (v2 : Value) (K : Int) (N : Nat) : Prop where
  o7 : OwnS W w.heap.size v7 X
  o9 : OwnS W w.heap.size v9 L
  a79 : Apart v7 v9
  r1 : Rg W p1 v1 K N L
  r2 : Rg W p2 v2 K N L
  a71 : Apart v7 v1
  a72 : Apart v7 v2
  a12 : Apart v1 v2
  h1 : w.heap.size ≤ p1
  h12 : p1 < p2
  g1 : ∀ g, v1.ownBlock = some g → w.heap.size ≤ g
  g2 : ∀ g, v2.ownBlock = some g → w.heap.size ≤ g
  below : Below w.heap.size w W
section
variable {w W W' : World} {v7 v9 v1 v2 : Value} {X L : List ByteArray} {p1 p2 : Nat} {K : Int} {N : Nat}
theorem MS.next (h : MS w W v7 v9 X L p1 v1 p2 v2 K N) (hb : Below W.heap.size W W') : MS w W' v7 v9 X L p1 v1 p2 v2 K N :=
  ⟨owns_step h.o7 hb, owns_step h.o9 hb, h.a79, h.r1.next hb (Nat.le_refl _), h.r2.next hb (Nat.le_refl _), h.a71, h.a72, h.a12, h.h1, h.h12, h.g1, h.g2, bnext h.below hb⟩
theorem Rg.of_block {p : Nat} {v : Value} {n : Nat} {P : List ByteArray} (h : Rg W p v K n P) (hp : W'.heap[p]? = W.heap[p]?) (hv : ∀ g, v.ownBlock = some g → W'.heap[g]? = W.heap[g]?) : Rg W' p v K n P :=
  ⟨by rw [hp]; exact h.blk, own_of_block h.own hv, h.k1, h.k2, h.hn, h.hl, h.hs⟩
theorem Rg.ne_own {p : Nat} {v u : Value} {n B : Nat} {P l : List ByteArray} (h : Rg W p v K n P) (hu : OwnS W B u l) : ∀ g, u.ownBlock = some g → p ≠ g := fun g hg e => by
  subst e
  rcases hu.2 with ⟨rfl, _⟩ | ⟨g', cap, cur, rfl, _, hh, _⟩
  · cases hg
  · cases hg
    have hx := h.blk
    rw [hh] at hx
    have := Option.some.inj hx
    injection this with _ h3 _
    exact absurd h3 (by decide)
theorem Rg.set {p : Nat} {v : Value} {n B g m c j : Nat} {P l : List ByteArray} {x : Value} (h : Rg W p v K n P) (hu : OwnS W B (.slice (some ⟨g, 0, none⟩) m c) l) (ha : Apart (.slice (some ⟨g, 0, none⟩) m c) v) : Rg (W.setCell ⟨g, j, none⟩ x) p v K n P :=
  h.of_block (Below.heap_setCell _ _ _ _ (h.ne_own hu g rfl)) (fun b hb => Below.heap_setCell _ _ _ _ (fun e => ha g rfl (by rw [hb]; exact congrArg some e)))
theorem MS.store {g m c : Nat} (h : MS w W (.slice (some ⟨g, 0, none⟩) m c) v9 X L p1 v1 p2 v2 K N) (j : Nat) (x : ByteArray) : MS w (W.setCell ⟨g, j, none⟩ (.string x)) (.slice (some ⟨g, 0, none⟩) m c) v9 (X.set j x) L p1 v1 p2 v2 K N :=
  ⟨ownS_set h.o7 x, own_of_block h.o9 (fun b hb => Below.heap_setCell _ _ _ _ (fun e => h.a79 g rfl (by rw [hb]; exact congrArg some e))), h.a79, h.r1.set h.o7 h.a71, h.r2.set h.o7 h.a72, h.a71, h.a72, h.a12, h.h1, h.h12, h.g1, h.g2, h.below.setCell (owns_lt h.o7 g rfl).1 _⟩
end
theorem fam_new' {w w' : World} {B : Nat} {vs : List Value} {Ls : List (List ByteArray)} {v : Value} {L : List ByteArray} (h : Fam w B vs Ls) (h' : Fam w' B vs Ls) (hB : B ≤ w.heap.size) (ho : OwnS w' w.heap.size v L) : Fam w' B (vs ++ [v]) (Ls ++ [L]) := by
  refine ⟨by simp [h.len], fun i hi => ?_, fun i j hi hj hne => ?_⟩
  · rw [getD_snoc, getD_snoc, ← h.len]
    by_cases h1 : i < vs.length
    · rw [if_pos h1, if_pos h1]; exact h'.own i h1
    · have h2 : i = vs.length := by simp at hi; omega
      rw [if_neg h1, if_neg h1, if_pos h2, if_pos h2]; exact World.ownsRow.mono ho hB
  · simp at hi hj
    rw [getD_snoc, getD_snoc]
    by_cases h1 : i < vs.length
    · rw [if_pos h1]
      by_cases h2 : j < vs.length
      · rw [if_pos h2]; exact h.dj i j h1 h2 hne
      · rw [if_neg h2, if_pos (by omega)]
        intro k k1 k2
        have a1 := (owns_lt (h.own i h1) k k1).2
        have a2 := (owns_lt ho k k2).1
        omega
    · rw [if_neg h1, if_pos (show i = vs.length by omega), if_pos (show j < vs.length by omega)]
      intro k k1 k2
      have a1 := (owns_lt (h.own j (by omega)) k k2).2
      have a2 := (owns_lt ho k k1).1
      omega
theorem fam_ch {w w' : World} {B p : Nat} {vs : List Value} {Ls : List (List ByteArray)} {v : Value} {K : Int} {n : Nat} {P : List ByteArray} (h : Fam w B vs Ls) (hr : Rg w p v K n P) (hc : Ch p w w') : Fam w' B vs Ls := ⟨h.len, fun i hi => own_ch (h.own i hi) hr hc, h.dj⟩
/-- Four lists of one's own, and both Ranges behind an item: all apart. -/
structure MZ (w W : World) (vs : List Value) (Ls : List (List ByteArray)) (p1 : Nat) (v1 : Value) (p2 : Nat) (v2 : Value) (K : Int) (n : Nat) (P : List ByteArray) : Prop where
  fam : Fam W w.heap.size vs Ls
  r1 : Rg W p1 v1 K n P
  r2 : Rg W p2 v2 K n P
  d1 : ∀ i, i < vs.length → Apart (vs.getD i dv) v1
  d2 : ∀ i, i < vs.length → Apart (vs.getD i dv) v2
  below : Below w.heap.size w W
theorem mark_set' (R : List ByteArray) (j : Nat) (x : ByteArray) (h : j < R.length) : (List.replicate j x ++ R.drop j).set j x = List.replicate (j + 1) x ++ R.drop (j + 1) := by
  rw [List.set_append_right _ _ (by simp), List.length_replicate, Nat.sub_self, List.drop_eq_getElem_cons h, List.set_cons_zero, List.replicate_succ', List.append_assoc]; rfl
theorem mark_len (R : List ByteArray) (j : Nat) (x : ByteArray) (h : j ≤ R.length) : (List.replicate j x ++ R.drop j).length = R.length := by simp; omega
theorem mark_get (R : List ByteArray) (j : Nat) (x : ByteArray) : (List.replicate j x ++ R.drop j).getD j ByteArray.empty = R.getD j ByteArray.empty := by
  rw [List.getD_eq_getElem?_getD, List.getElem?_append_right (by simp), List.length_replicate, Nat.sub_self, List.getElem?_drop, Nat.add_zero, ← List.getD_eq_getElem?_getD]
/-- The mark of list k. -/
def mkT (k : Nat) : ByteArray := strB [(k : Int)]
theorem conv_drew (w : World) (k : Nat) : (convert 27 9 (.slice (some ⟨w.heap.size, 0, none⟩) 1 1)).run Tryd.prog (w.alloc (.cells #[.int .u8 (k : Int)] 5)).drew = .ok (.string (mkT k)) (w.alloc (.cells #[.int .u8 (k : Int)] 5)).drew :=
  conv_str _ _ [(k : Int)] 1 rfl (by rw [World.rangeAt_drew]; exact range_new w (cB [(k : Int)]) 5)
theorem set_getD_self {α : Type} (d : α) (l : List α) (i : Nat) : l.set i (l.getD i d) = l := by
  apply List.ext_getElem?
  intro j
  rw [List.getElem?_set]
  by_cases h : i = j
  · subst h
    by_cases hl : i < l.length
    · simp [hl]
    · simp [hl]
  · simp [h]
/-- The first i lists are marks. -/
def Mk (N i : Nat) (Qs Ls : List (List ByteArray)) : Prop := Qs.length = N ∧ ∀ k, k < N → Qs.getD k [] = if k < i then List.replicate (Ls.getD k []).length (mkT k) else Ls.getD k []
theorem mk_next {N i : Nat} {Qs Ls : List (List ByteArray)} {m : Nat} (h : Mk N i Qs Ls) (hi : i + 1 ≤ N) (hm : (Ls.getD i []).length = m) : Mk N (i + 1) (Qs.set i (List.replicate m (mkT i))) Ls := by
  refine ⟨by rw [List.length_set]; exact h.1, fun k hk => ?_⟩
  rw [getD_set _ _ _ _ _ (by rw [h.1]; omega)]
  by_cases e : k = i
  · subst e; rw [if_pos rfl, if_pos (by omega), hm]
  · rw [if_neg e, h.2 k hk]
    by_cases e2 : k < i
    · rw [if_pos e2, if_pos (by omega)]
    · rw [if_neg e2, if_neg (by omega)]
theorem ownV_new (w : World) {B : Nat} (hB : B ≤ w.heap.size) (a b c d : Value) : OwnV (w.alloc (.cells #[a, b, c, d] 25)) B (.slice (some ⟨w.heap.size, 0, none⟩) 4 4) [a, b, c, d] :=
  ⟨rfl, .inr ⟨w.heap.size, 4, #[a, b, c, d], rfl, hB, heap_alloc_new w _, Nat.le_refl _, by decide, rfl, rfl⟩⟩
theorem store_keep {w : World} {B e s n B' g m cap x : Nat} {u p : Value} {xs : List Value} {L : List ByteArray} (h : w.ownsRow B e s u n xs) (hv : OwnS w B' (.slice (some ⟨g, 0, none⟩) m cap) L) (hne : e ≠ 9) : (w.setCell ⟨g, x, none⟩ p).ownsRow B e s u n xs := by
  refine own_of_block h (fun b hb => ?_)
  have hbg : b ≠ g := fun e2 => by
    rcases ty_ne h hv hne with h1 | h1
    · rw [h1] at hb; cases hb
    · exact h1 (by rw [hb, e2]; rfl)
  rw [Below.heap_setCell _ _ _ _ hbg]
/-- The four lists in a list. -/
structure MA (w W : World) (vs : List Value) (Qs : List (List ByteArray)) (vA : Value) (p1 : Nat) (v1 : Value) (p2 : Nat) (v2 : Value) (K : Int) (n : Nat) (P : List ByteArray) : Prop where
  z : MZ w W vs Qs p1 v1 p2 v2 K n P
  all : OwnV W w.heap.size vA vs
section
variable {w W W' : World} {vs : List Value} {Qs : List (List ByteArray)} {vA v1 v2 : Value} {p1 p2 n : Nat} {K : Int} {P : List ByteArray}
theorem MZ.next (h : MZ w W vs Qs p1 v1 p2 v2 K n P) (hb : Below W.heap.size W W') : MZ w W' vs Qs p1 v1 p2 v2 K n P :=
  ⟨fam_next h.fam hb, h.r1.next hb (Nat.le_refl _), h.r2.next hb (Nat.le_refl _), h.d1, h.d2, bnext h.below hb⟩
theorem MA.next (h : MA w W vs Qs vA p1 v1 p2 v2 K n P) (hb : Below W.heap.size W W') : MA w W' vs Qs vA p1 v1 p2 v2 K n P := ⟨h.z.next hb, ownB_next h.all hb⟩
theorem MA.store (h : MA w W vs Qs vA p1 v1 p2 v2 K n P) (i : Nat) (hi : i < vs.length) (g m cap : Nat) (hu : vs.getD i dv = .slice (some ⟨g, 0, none⟩) m cap) (j : Nat) (x : ByteArray) :
    MA w (W.setCell ⟨g, j, none⟩ (.string x)) vs (Qs.set i ((Qs.getD i []).set j x)) vA p1 v1 p2 v2 K n P := by
  have hol := h.z.fam.own i hi
  have e1 := h.z.d1 i hi
  have e2 := h.z.d2 i hi
  rw [hu] at hol e1 e2
  have hf := fam_set (i := i) (L := (Qs.getD i []).set j x) h.z.fam hi (by rw [hu]; exact ownS_set (j := j) hol x) (fun b hb => by
    rw [hu] at hb
    have hbg : b ≠ g := fun e => hb (by rw [e]; rfl)
    rw [Below.heap_setCell _ _ _ _ hbg])
  exact ⟨⟨hf, h.z.r1.set hol e1, h.z.r2.set hol e2, h.z.d1, h.z.d2, h.z.below.setCell (owns_lt hol g rfl).1 _⟩, store_keep h.all hol (by decide)⟩
end
end Go.Proofs.YtncndefggegicaaDoor
