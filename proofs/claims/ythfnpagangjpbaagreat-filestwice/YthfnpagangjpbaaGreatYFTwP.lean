/-
  FilesTwice: what is written behind the ends. Own work.
-/
import Derived.Test.YthfnpagangjpbaaGreatZ37
namespace Go.Proofs.YthfnpagangjpbaaGreat
open Go.RowKit
open Rc
/-- The names, in the law's order. -/
def nmF (c : Nat) : List UInt8 := if c = 0 then nmI else if c = 1 then nmN else nmM
/-- A disk behind c writes. -/
structure Bw (k : Nat) (A : List It) (a0 : Nat) (D : DV) (c : Nat) : Prop where
  q : Qt 1048576 D
  b : Beh k A D.L
  m : c ≤ 2 → (fget D.L nmM).now = (bA k A).m
  s : (fget D.L nmI).now.length + (fget D.L nmN).now.length + (fget D.L nmM).now.length ≤ 10000 + 300 * c
  a : D.acts = a0 + c
theorem Bw.next {k : Nat} {A : List It} {a0 c : Nat} {D : DV} (h : Bw k A a0 D c) (hc : c < 3) (t : List UInt8) (ht : t.length ≤ 300) (h2 : c = 2 → t.length < 64) :
    ∃ D', wrD D (nmF c) ((fget D.L (nmF c)).now.length : Int) t = (D', 0) ∧ Bw k A a0 D' (c + 1) := by
  have hs := h.s
  have htot := h.q.tot
  have h3 := (tot_three h.q.ord h.b.oth).1
  have ha := h.a
  have hn : (fget D.L (nmF c)).now.length + t.length ≤ 268435456 := by
    have : (fget D.L (nmF c)).now.length ≤ 10000 + 300 * c := by
      unfold nmF
      split
      · omega
      · split <;> omega
    omega
  obtain ⟨D', w1, l1⟩ := h.q.wr (nmF c) t _ rfl hn (by omega)
  refine ⟨D', w1, ?_⟩
  have la := l1.acts
  have at_ := l1.at_
  have oth := l1.oth
  have q1 := l1.qt
  obtain rfl | rfl | rfl : c = 0 ∨ c = 1 ∨ c = 2 := by omega
  · have e : nmF 0 = nmI := rfl
    rw [e] at at_ oth
    have e1 := oth _ ne_IN.symm
    have e2 := oth _ ne_IM.symm
    refine ⟨q1, ⟨?_, ?_, ?_, fun s h1 h2 h3 => ?_⟩, fun _ => ?_, ?_, by omega⟩
    · rw [at_]; exact h.b.i.trans (List.prefix_append _ _)
    · rw [e1]; exact h.b.n
    · rw [e2]; exact h.b.m
    · rw [oth s h1]; exact h.b.oth s h1 h2 h3
    · rw [e2]; exact h.m (by omega)
    · rw [at_, e1, e2]; simp only [List.length_append]; omega
  · have e : nmF 1 = nmN := rfl
    rw [e] at at_ oth
    have e1 := oth _ ne_IN
    have e2 := oth _ ne_NM.symm
    refine ⟨q1, ⟨?_, ?_, ?_, fun s h1 h2 h3 => ?_⟩, fun _ => ?_, ?_, by omega⟩
    · rw [e1]; exact h.b.i
    · rw [at_]; exact h.b.n.trans (List.prefix_append _ _)
    · rw [e2]; exact h.b.m
    · rw [oth s h2]; exact h.b.oth s h1 h2 h3
    · rw [e2]; exact h.m (by omega)
    · rw [at_, e1, e2]; simp only [List.length_append]; omega
  · have e : nmF 2 = nmM := rfl
    rw [e] at at_ oth
    have e1 := oth _ ne_IM
    have e2 := oth _ ne_NM
    refine ⟨q1, ⟨?_, ?_, ⟨t, ?_, .inl (h2 rfl)⟩, fun s h1 h2 h3 => ?_⟩, fun h => by omega, ?_, by omega⟩
    · rw [e1]; exact h.b.i
    · rw [e2]; exact h.b.n
    · rw [at_]; show (fget D.L nmM).now ++ t = _; rw [h.m (by omega)]
    · rw [oth s h3]; exact h.b.oth s h1 h2 h3
    · rw [at_, e1, e2]; simp only [List.length_append]; omega
theorem bw_ext {k : Nat} {l : List ByteArray} {D : DV} (hs : Sml l) (h1 : 1 ≤ k) (h2 : k ≤ 32) (hq : Qt 1048576 D) (he : Ext k (itA k l) D.L) : Bw k (itA k l) D.acts D 0 :=
  ⟨hq, he.beh, fun _ => by rw [he.m], by have := hs.fits h1 h2; rw [he.i, he.n, he.m]; show (bA k (itA k l)).a.length + (bA k (itA k l)).b.length + (bA k (itA k l)).m.length ≤ _; omega, by omega⟩
section
variable {w W W' : World} {p : Nat} {S0 : Nat → Prop} {D : DV}
/-- A new ground. -/
theorem Mvd.ground (h : Mvd w W p S0 D) (hb : Below W.heap.size W W') : ∃ Y, Mvd W' W' p Y D ∧ (∀ x, Y x → S0 x ∨ w.heap.size ≤ x) ∧ ∀ x, Y x → x < W.heap.size := by
  obtain ⟨S1, h1, h2, h3⟩ := h
  exact ⟨S1, ⟨S1, h1.next hb, fun _ q => .inl q, Upo.refl _ _⟩, h2, fun x hx => h1.lt hx⟩
end
end Go.Proofs.YthfnpagangjpbaaGreat
