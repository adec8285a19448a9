/-
  RecordLays' inputs, opened; how much they may be. Own work.
-/
import Derived.Test.YtggkjleibhpnfaaRows
import Derived.Test.YtggkjleibhpnfaaNLys
import Derived.OpenShut
import Derived.SliceStrings
import Derived.Deep.SlicePairs
import Derived.ChangeSame
namespace Go.Proofs.Ytggkjleibhpnfaa
open Go.RowKit Go.ChangeShapes Go.WideShapes
theorem u64_nat {a : Int} (wf : (Lit.int .u64 a).wf = true) : ∃ n : Nat, a = (n : Int) ∧ n < 18446744073709551616 := by
  have := bounds_u64 wf
  exact ⟨a.toNat, by omega, by omega⟩
theorem bk_strs {H : Type} (l : List ByteArray) : Rows.uptoBulkAll (strs (H := H) l) = (flat l).length + l.length := by
  induction l with
  | nil => simp [strs, Rows.uptoBulkAll, flat]
  | cons x r ih =>
    have e1 : flat (x :: r) = x.data.toList ++ flat r := by simp [flat]
    have e2 : strs (H := H) (x :: r) = .lit (.string x.data.toList) :: strs r := rfl
    rw [e1, e2, List.length_append, List.length_cons]
    simp only [Rows.uptoBulkAll, Rows.uptoBulk, ih]
    omega
theorem cellsS1 : Try.prog.cellsOf 9 = 1 := by kernel_rfl
theorem sliceRdU {H : Type} {enc : TypeId × Value → H} {W : World} {fuel : Nat} {ao : Option Addr} {len cap : Nat} {x : DataW H × List MemPlace} (hf : DataW.trod enc Try.prog W 0 (fun _ => true) true fuel 40 [.slice ao len cap] = some x) (hk : Rows.uptoBulk x.1 ≤ 1048576) :
    ∃ (b off : Nat) (ss : List ByteArray), len = ss.length ∧ RdS W ao b off ss.length ss ∧ ss.length ≤ 1048576 ∧ (ao = none → cap = 0) ∧ (flat ss).length ≤ 1048576 := by
  rcases open_strings Try.underlying40 Try.underlying9 cellsS1 hf with ⟨hcs, hx⟩ | ⟨a, len', cap', ss, hcs, _, hl, hm, hzl, hx, hcell, hws⟩
  · simp at hcs
    obtain ⟨rfl, rfl, rfl⟩ := hcs
    exact ⟨0, 0, [], rfl, ⟨rfl, fun h => absurd h (Nat.lt_irrefl 0), (fun j v h => by cases h), (fun s h => by cases h)⟩, Nat.zero_le _, fun _ => rfl, Nat.zero_le _⟩
  · simp at hcs
    obtain ⟨rfl, rfl, rfl⟩ := hcs
    simp only [if_true] at hzl
    rw [hx] at hk
    simp only [Rows.uptoBulk, bk_strs] at hk
    have hlen : (ss.take len).length = len := by rw [List.length_take]; omega
    have hsz : ∀ s ∈ ss.take len, s.size ≤ 9223372036854775807 := fun s hs => Nat.le_trans (hws s (List.mem_of_mem_take hs)) (by decide)
    by_cases h0 : len = 0
    · subst h0
      exact ⟨0, 0, [], rfl, ⟨rfl, fun h => absurd h (Nat.lt_irrefl 0), (fun j v h => by cases h), (fun s h => by cases h)⟩, Nat.zero_le _, (fun h => by cases h), Nat.zero_le _⟩
    · obtain ⟨b, off, spot⟩ := a
      have hspot : spot = none := by simpa [Addr.add] using World.cell?_spot (hcell 0 (by omega))
      subst hspot
      refine ⟨b, off, ss.take len, hlen.symm, ⟨rfl, fun _ => rfl, fun j v hv => ?_, hsz⟩, by omega, (fun h => by cases h), by omega⟩
      have hj : j < len := by have := (List.getElem?_eq_some_iff.1 hv).1; rw [List.length_map, hlen] at this; exact this
      have hc := hcell j (by omega)
      rw [Addr.add_mid] at hc
      rw [hc, ← hv]
      simp [hj, List.getD_eq_getElem?_getD, List.getElem?_eq_getElem (show j < ss.length by omega)]
end Go.Proofs.Ytggkjleibhpnfaa
