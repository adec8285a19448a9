/-
  A disk without a fate. Own work.
-/
import Derived.Test.YtmhedhhbdpdafaaDAlive2
namespace Go.Proofs.Ytmhedhhbdpdafaa
open Go.RowKit
/-- All bytes. -/
def tot : List (List UInt8 × FV) → Nat
  | [] => 0
  | (_, f) :: r => f.now.length + tot r
theorem ord_tail {x : List UInt8 × FV} {r : List (List UInt8 × FV)} (h : Ord (x :: r)) : Ord r := ⟨(List.pairwise_cons.1 h.1).2, fun p hp => h.2 p (List.mem_cons_of_mem _ hp)⟩
theorem tot_put : ∀ {L : List (List UInt8 × FV)} (_ : Ord L) (s : List UInt8) (f : FV), tot (fput L s f) + (fget L s).now.length = tot L + f.now.length
  | [], _, s, f => by
    rw [fput, fget]
    split
    · rename_i h; have := gone_len.1 h; simp only [tot, fz]; simp; omega
    · simp [tot, fz]
  | (t, g) :: r, h, s, f => by
    rw [fput, fget]
    by_cases e : t = s
    · rw [if_pos e, if_pos e]
      split
      · rename_i hg; have := gone_len.1 hg; simp only [tot]; omega
      · simp only [tot]; omega
    · rw [if_neg e, if_neg e]
      by_cases e2 : s < t
      · rw [if_pos e2]
        have hn : fget r s = fz := by
          apply fget_none
          intro hm
          obtain ⟨p, hp, hps⟩ := List.mem_map.1 hm
          have h3 := (List.pairwise_cons.1 h.1).1 p hp
          have h4 : t < s := by rw [← hps]; exact h3
          exact List.lt_irrefl _ (List.lt_trans h4 e2)
        rw [hn]
        split
        · rename_i hg; have := gone_len.1 hg; rw [this.1]; rfl
        · simp only [tot, fz]; simp; omega
      · rw [if_neg e2]
        have := tot_put (ord_tail h) s f
        simp only [tot]
        omega
theorem actD_plain {D : DV} (h : D.fk = 0) (s : List UInt8) (f : FV) : actD D s f = (dput { D with acts := D.acts + 1 } s f, 0) := by
  have e : metD { D with acts := D.acts + 1 } = ({ D with acts := D.acts + 1 }, 0, []) := by
    unfold metD
    exact if_pos h
  unfold actD
  rw [e]
  rfl
/-- No fate lies; so many bytes in all, so many acts. -/
structure Pln (D : DV) (r j : Nat) : Prop where
  down : D.down = false
  fk : D.fk = 0
  ord : Ord D.L
  tot : D.free + tot D.L ≤ r
  acts : D.acts ≤ j
  cnt : D.L.length ≤ j
theorem Pln.roomy {D : DV} {r j : Nat} (h : Pln D r j) (hr : r ≤ 4611686018427387904) (hj : j ≤ 1000000) : Roomy D := ⟨by have := h.acts; omega, by have := h.cnt; omega, by have := h.tot; omega⟩
theorem pln_new (r : Nat) : Pln (newD r) r 0 := ⟨rfl, rfl, ord_nil, Nat.le_refl _, Nat.le_refl _, Nat.le_refl _⟩
theorem Pln.mono {D : DV} {r j : Nat} (h : Pln D r j) : Pln D r (j + 1) := ⟨h.down, h.fk, h.ord, h.tot, by have := h.acts; omega, by have := h.cnt; omega⟩
theorem Pln.put {D : DV} {r j : Nat} (h : Pln D r j) (s : List UInt8) (f : FV) (hf : f.now.length ≤ D.free + (fget D.L s).now.length) : Pln (dput { D with acts := D.acts + 1 } s f) r (j + 1) := by
  refine ⟨h.down, h.fk, ord_fput h.ord s f, ?_, by have := h.acts; show D.acts + 1 ≤ _; omega, ?_⟩
  · have := tot_put h.ord s f
    have := h.tot
    show D.free + (fget D.L s).now.length - f.now.length + Go.Proofs.Ytmhedhhbdpdafaa.tot (fput D.L s f) ≤ r
    omega
  · have := len_put (L := D.L) s f
    have := h.cnt
    show (fput D.L s f).length ≤ _
    omega
theorem Pln.act {D : DV} {r j : Nat} (h : Pln D r j) (kind : Int) (s : List UInt8) (x : Int) (t : List UInt8) : Pln (actO D kind s x t).1 r (j + 1) := by
  unfold actO
  split
  · unfold wrD
    rw [if_neg (by simp [h.down])]
    split
    · exact h.mono
    · split
      · exact h.mono
      · rename_i h1 h2
        rw [actD_plain h.fk]
        refine h.put s _ ?_
        show (wr (fget D.L s).now x.toNat (t.take 300)).length ≤ _
        rw [wr_len _ _ _ (by omega)]
        omega
  · split
    · unfold cutD
      rw [if_neg (by simp [h.down])]
      split
      · exact h.mono
      · rw [actD_plain h.fk]
        refine h.put s _ ?_
        show ((fget D.L s).now.take x.toNat).length ≤ _
        rw [List.length_take]
        omega
    · unfold synD
      rw [if_neg (by simp [h.down]), actD_plain h.fk]
      exact h.put s _ (Nat.le_add_left _ _)
end Go.Proofs.Ytmhedhhbdpdafaa
