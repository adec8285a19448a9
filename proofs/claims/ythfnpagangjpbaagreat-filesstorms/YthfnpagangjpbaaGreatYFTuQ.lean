/-
  FilesTurned: the files with one byte turned. Own work.
-/
import Derived.Test.YthfnpagangjpbaaGreatYFTuP
import Derived.Test.YthfnpagangjpbaaGreatZ35
import Derived.Test.YthfnpagangjpbaaGreatYDOpen
namespace Go.Proofs.YthfnpagangjpbaaGreat
open Rc
theorem fget_allS_set (s t t' : List UInt8) : ∀ (F : List (List UInt8 × List UInt8)) (i : Nat), F[i]? = some (s, t) → F.Pairwise (fun a b => a.1 < b.1) → ∀ u, fget (allS (F.set i (s, t'))) u = if u = s then ⟨t', t'⟩ else fget (allS F) u
  | [], i, h, _, u => by simp at h
  | (a, b) :: r, 0, h, _, u => by
    simp only [List.getElem?_cons_zero, Option.some.injEq, Prod.mk.injEq] at h
    obtain ⟨rfl, rfl⟩ := h
    show (if a = u then (⟨t', t'⟩ : FV) else fget (allS r) u) = if u = a then ⟨t', t'⟩ else if a = u then ⟨b, b⟩ else fget (allS r) u
    by_cases e : a = u
    · rw [if_pos e, if_pos e.symm]
    · rw [if_neg e, if_neg (fun q => e q.symm), if_neg e]
  | (a, b) :: r, i + 1, h, hp, u => by
    simp only [List.getElem?_cons_succ] at h
    obtain ⟨h1, h2⟩ := List.pairwise_cons.1 hp
    have hlt : a < s := h1 (s, t) (List.mem_of_getElem? h)
    have ih := fget_allS_set s t t' r i h h2 u
    show (if a = u then (⟨b, b⟩ : FV) else fget (allS (r.set i (s, t'))) u) = if u = s then ⟨t', t'⟩ else if a = u then ⟨b, b⟩ else fget (allS r) u
    by_cases e : a = u
    · subst e
      rw [if_pos rfl, if_neg (fun q => by rw [q] at hlt; exact List.lt_irrefl _ hlt), if_pos rfl]
    · rw [if_neg e, ih, if_neg e]
theorem byt_set (s t t' : List UInt8) (ht : t'.length = t.length) : ∀ (F : List (List UInt8 × List UInt8)) (i : Nat), F[i]? = some (s, t) → byt (F.set i (s, t')) = byt F
  | [], i, h => by simp at h
  | (a, b) :: r, 0, h => by
    simp only [List.getElem?_cons_zero, Option.some.injEq, Prod.mk.injEq] at h
    obtain ⟨rfl, rfl⟩ := h
    show t'.length + byt r = b.length + byt r
    rw [ht]
  | (a, b) :: r, i + 1, h => by
    simp only [List.getElem?_cons_succ] at h
    show b.length + byt (r.set i (s, t')) = b.length + byt r
    rw [byt_set s t t' ht r i h]
theorem byt_mem : ∀ (F : List (List UInt8 × List UInt8)) (x : List UInt8 × List UInt8), x ∈ F → x.2.length ≤ byt F
  | [], x, h => by simp at h
  | y :: r, x, h => by
    show x.2.length ≤ y.2.length + byt r
    rcases List.mem_cons.1 h with rfl | h
    · omega
    · have := byt_mem r x h; omega
theorem map_set (s t t' : List UInt8) (F : List (List UInt8 × List UInt8)) (i : Nat) (h : F[i]? = some (s, t)) : (F.set i (s, t')).map (·.1) = F.map (·.1) := by
  apply List.ext_getElem?
  intro j
  rw [List.getElem?_map, List.getElem?_map, List.getElem?_set]
  have hi := (List.getElem?_eq_some_iff.1 h).1
  by_cases e : i = j
  · subst e
    rw [if_pos rfl, if_pos hi, h]; rfl
  · rw [if_neg e]
theorem tot_allS (F : List (List UInt8 × List UInt8)) : tot (allS F) = byt F := by
  induction F with
  | nil => rfl
  | cons x r ih =>
    show x.2.length + tot (allS r) = x.2.length + byt r
    rw [ih]
/-- What is known of the turned files. -/
structure Trn (k R : Nat) (G : List (List UInt8 × List UInt8)) : Prop where
  sor : Sor G
  tell : tell (layL G) = G
  can : canL G
  byt : byt G ≤ R
  bad : tkAll k (fget (layL G) nmI).now (fget (layL G) nmN).now (fget (layL G) nmM).now = none
theorem turned_all {k R : Nat} {A : List It} {D : DV} (h : OkA k A) (hq : Qt R D) (hR : R ≤ 268435456) (he : Ext k A D.L) (i n : Nat) (s t : List UInt8) (hi : (tell D.L)[i]? = some (s, t)) (hn : n < t.length) (y : UInt8) (hy : y ≠ t.getD n 0) :
    Trn k R ((tell D.L).set i (s, t.set n y)) := by
  obtain ⟨e1, e2⟩ := he.all hq.ord
  obtain ⟨F, hF⟩ : ∃ F, tell D.L = F := ⟨_, rfl⟩
  rw [hF] at e1 e2 hi ⊢
  have hp : F.Pairwise (fun a b => a.1 < b.1) := by
    have := hq.ord.1
    rw [e1] at this
    have h3 := List.pairwise_map.1 (show (F.map fun x => (x.1, (⟨x.2, x.2⟩ : FV))).Pairwise (fun a b => a.1 < b.1) from this)
    exact h3
  have hil := (List.getElem?_eq_some_iff.1 hi).1
  have hmem : ∀ x ∈ F.set i (s, t.set n y), x.2 ≠ [] := fun x hx => by
    rcases List.mem_or_eq_of_mem_set hx with hx | rfl
    · exact e2 x hx
    · intro q
      have := congrArg List.length q
      rw [List.length_set] at this
      simp at this
      rw [this] at hn
      simp at hn
  have hS : Sor (F.set i (s, t.set n y)) := by
    refine ⟨?_, hmem⟩
    have := map_set s t (t.set n y) F i hi
    have h2 : (F.map (·.1)).Pairwise (· < ·) := List.pairwise_map.2 hp
    rw [← this] at h2
    exact List.pairwise_map.1 h2
  have hb : byt (F.set i (s, t.set n y)) = byt F := byt_set s t _ (by rw [List.length_set]) F i hi
  have hbR : byt F ≤ R := by
    have := hq.tot
    rw [e1, tot_allS] at this
    omega
  have hg := fget_allS_set s t (t.set n y) F i hi hp
  have hst : fget D.L s = ⟨t, t⟩ := fget_mem hq.ord (by rw [e1]; exact List.mem_map.2 ⟨(s, t), List.mem_of_getElem? hi, rfl⟩)
  rw [← e1] at hg
  refine ⟨hS, by rw [lay_sor _ hS, tell_all _ hmem], ⟨?_, fun x hx => ?_⟩, by omega, ?_⟩
  · show ((F.set i (s, t.set n y)).map (·.1)).Nodup
    have h2 : ((F.set i (s, t.set n y)).map (·.1)).Pairwise (· < ·) := List.pairwise_map.2 hS.1
    exact h2.imp fun hlt q => by rw [q] at hlt; exact List.lt_irrefl _ hlt
  · have := byt_mem _ x hx; omega
  · rw [lay_sor _ hS, hg, hg, hg]
    by_cases h1 : s = nmI
    · subst h1
      rw [he.i] at hst
      injection hst with ht _
      subst ht
      rw [if_pos rfl, if_neg ne_IN.symm, if_neg ne_IM.symm, he.n, he.m]
      exact turn_a h n hn y hy
    · by_cases h2 : s = nmN
      · subst h2
        rw [he.n] at hst
        injection hst with ht _
        subst ht
        rw [if_neg ne_IN, if_pos rfl, if_neg ne_NM.symm, he.i, he.m]
        exact turn_b h n hn y hy
      · by_cases h3 : s = nmM
        · subst h3
          rw [he.m] at hst
          injection hst with ht _
          subst ht
          rw [if_neg ne_IM, if_neg ne_NM, if_pos rfl, he.i, he.n]
          exact turn_m h n hn y hy
        · rw [he.oth s h1 h2 h3] at hst
          have ht : t = [] := (congrArg FV.now hst).symm
          rw [ht] at hn
          exact absurd hn (Nat.not_lt_zero _)
/-- Open of the turned files. -/
theorem turned_open {k R : Nat} {G : List (List UInt8 × List UInt8)} (h : Trn k R G) (k1 : 1 ≤ k) (k2 : k ≤ 32) : opnD (openD R G) (k : Int) = (openD R G, none, 190) := by
  unfold opnD
  rw [if_neg (fun q => q ⟨by omega, by omega⟩), if_neg (show ¬ (openD R G).down = true from Bool.false_ne_true), Int.toNat_natCast]
  have : tkAll k (now (openD R G) nmI) (now (openD R G) nmN) (now (openD R G) nmM) = none := h.bad
  rw [this]
end Go.Proofs.YthfnpagangjpbaaGreat
