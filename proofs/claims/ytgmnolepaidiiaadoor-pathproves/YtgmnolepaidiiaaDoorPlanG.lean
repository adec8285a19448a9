/-
  Plans over lists of texts. Own work.
-/
import Derived.Test.YtgmnolepaidiiaaDoorHList
namespace Go.Proofs.YtgmnolepaidiiaaDoor
open Go.RowKit
/-- A value that is a list of texts. -/
def RdL (w : World) (v : Value) (ss : List ByteArray) : Prop := ∃ ao b cap, v = .slice ao ss.length cap ∧ RdS w ao b 0 ss.length ss
theorem rdl_next {w w' : World} {v : Value} {ss : List ByteArray} (h : RdL w v ss) (hb : Below w.heap.size w w') : RdL w' v ss := by
  obtain ⟨ao, b, cap, hv, hr⟩ := h
  exact ⟨ao, b, cap, hv, hr.next hb (Nat.le_refl _)⟩
theorem rdl_own {w : World} {B : Nat} {v : Value} {ss : List ByteArray} (h : OwnS w B v ss) (hs : ∀ s ∈ ss, s.size ≤ 9223372036854775807) : RdL w v ss := by
  obtain ⟨ao, b, cap, hv, hr, _, _⟩ := owns_rds h hs
  exact ⟨ao, b, cap, hv, hr⟩
def planG (Vs : List Value) (Gs : List (Nat × List ByteArray)) (j : Nat) (v : Value) (w : World) : Prop :=
  match Gs.lookup j with
  | some ss => RdL w v ss
  | none => v = Vs.getD j undef
theorem planG_mono (Vs : List Value) (Gs : List (Nat × List ByteArray)) (j : Nat) (v : Value) (w w' : World) (h : planG Vs Gs j v w) (hb : Below w.heap.size w w') : planG Vs Gs j v w' := by
  unfold planG at *
  split
  · rename_i ss hs
    rw [hs] at h
    exact rdl_next h hb
  · rename_i hs
    rw [hs] at h
    exact h
end Go.Proofs.YtgmnolepaidiiaaDoor
