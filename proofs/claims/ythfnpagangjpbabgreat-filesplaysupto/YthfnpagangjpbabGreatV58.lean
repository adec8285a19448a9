/-
  Own work: DRow.
-/
import Derived.Deep.SlicePairs
import Derived.Carry
import Derived.OpenShut
import Derived.Test.YthfnpagangjpbabGreatV15
namespace Go.Proofs.YthfnpagangjpbabGreat
open Go.RowKit Go.ChangeShapes Go.WideShapes
theorem rowCellsI : Tryz.prog.cellsOf 3 = 1 := by kernel_rfl
theorem rowCellsS : Tryz.prog.cellsOf 9 = 1 := by kernel_rfl
theorem rowCellsB : Tryz.prog.cellsOf 4 = 1 := by kernel_rfl
theorem rowCellsL : Tryz.prog.cellsOf 49 = 1 := by kernel_rfl
theorem openL {H : Type} {enc : TypeId × Value → H} {W : World} {fuel : Nat} {v : Value} {x : DataW H × List MemPlace} (hf : DataW.trod enc Tryz.prog W 0 (fun _ => true) true fuel 49 [v] = some x) :
    ∃ (ao : Option Addr) (b off cap : Nat) (ks : List Bool), v = .slice ao ks.length cap ∧ RdL W ao b off ks ∧ ks.length ≤ maxLen ∧ ks.length ≤ cap ∧ (ao = none → cap = 0) := by
  rcases Go.Deep.open_slice Tryz.underlying49 hf with ⟨hcs, hx⟩ | ⟨a, len, cap, m, n, D, Pl, hcs, _, hl, hm, hmm, hx, hcell⟩
  · simp at hcs
    subst hcs
    exact ⟨none, 0, 0, 0, [], rfl, rdl_nil _ _ _ _, Nat.zero_le _, Nat.le_refl _, fun _ => rfl⟩
  · simp at hcs
    subst hcs
    simp only [if_true] at hmm
    have each : ∀ i, i < len → ∃ b : Bool, W.cell? (a.add i) = some (.bool b) := fun i hi => by
      obtain ⟨cs', h1, h2⟩ := hcell i (by omega)
      rw [rowCellsB] at h1
      obtain ⟨_, hlen, hc⟩ := World.cells?_some h1
      obtain ⟨b, rfl, _⟩ := DataW.trod_bool Tryz.underlying4 h2
      have q := hc 0 (by decide)
      simp only [Go.Deep.add_add, Nat.mul_one, Nat.add_zero] at q
      exact ⟨b, by simpa using q⟩
    obtain ⟨l, hL⟩ := Go.Deep.choose_lt each
    by_cases h0 : len = 0
    · subst h0
      exact ⟨some a, 0, 0, cap, [], rfl, rdl_nil _ _ _ _, Nat.zero_le _, Nat.zero_le _, fun h => by cases h⟩
    · obtain ⟨b, off, spot⟩ := a
      have hspot : spot = none := by simpa [Addr.add] using World.cell?_spot (hL 0 (by omega))
      subst hspot
      have hlen : ((List.range len).map l).length = len := by simp
      refine ⟨some ⟨b, off, none⟩, b, off, cap, (List.range len).map l, by rw [hlen], ⟨fun _ => rfl, fun j hj => ?_⟩, by rw [hlen]; omega, by rw [hlen]; exact hl, fun h => by cases h⟩
      rw [hlen] at hj
      have := hL j hj
      rw [Addr.add_mid] at this
      rw [this]
      simp [List.getD_eq_getElem?_getD, hj]
end Go.Proofs.YthfnpagangjpbabGreat
