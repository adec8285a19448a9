/-
  The laws' inputs, opened: truths, held to the reach. Own work.
-/
import Derived.Test.YtmhedhhbdpdafaaDRowF
import Derived.Test.YtmhedhhbdpdafaaDRowG
namespace Go.Proofs.Ytmhedhhbdpdafaa
open Go.RowKit Go.ChangeShapes Go.WideShapes
theorem sliceRdLz {H : Type} {enc : TypeId × Value → H} {W : World} {fuel : Nat} {ao : Option Addr} {len cap : Nat} {x : DataW H × List MemPlace} (hf : DataW.trod enc Try.prog W 0 (fun _ => true) true fuel 28 [.slice ao len cap] = some x) (hw : ∀ y ∈ DataW.weights Try.prog 28 x.1, y ≤ reachBytes) :
    ∃ (b off : Nat) (l : List Bool), l.length = len ∧ RdL W ao b off l ∧ l.length ≤ 140737488351232 ∧ len ≤ cap ∧ (ao = none → cap = 0) := by
  obtain ⟨ao1, b1, off1, cap1, ks1, hv1, _, hl1⟩ := openLw hf hw
  obtain ⟨ao', b, off, cap', ks, hv, h1, h2, h3, h4⟩ := openL hf
  simp only [Value.slice.injEq] at hv hv1
  obtain ⟨rfl, rfl, rfl⟩ := hv
  exact ⟨b, off, ks, rfl, h1, by omega, h3, h4⟩
end Go.Proofs.Ytmhedhhbdpdafaa
