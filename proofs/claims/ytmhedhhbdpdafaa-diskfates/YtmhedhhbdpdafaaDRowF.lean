/-
  The laws' inputs, opened: a fate. Own work.
-/
import Derived.Test.YtmhedhhbdpdafaaDRow
import Derived.SizedLaws
namespace Go.Proofs.Ytmhedhhbdpdafaa
open Go.RowKit Go.ChangeShapes Go.WideShapes
theorem rowCellsF : Try.prog.cellsOf 54 = 3 := by kernel_rfl
theorem rowBytesB : Try.prog.bytesOf 4 = 1 := by kernel_rfl
/-- A list of truths that is held to the reach. -/
theorem openLw {H : Type} {enc : TypeId × Value → H} {W : World} {fuel : Nat} {v : Value} {x : DataW H × List MemPlace} (hf : DataW.trod enc Try.prog W 0 (fun _ => true) true fuel 28 [v] = some x) (hw : ∀ y ∈ DataW.weights Try.prog 28 x.1, y ≤ reachBytes) :
    ∃ (ao : Option Addr) (b off cap : Nat) (ks : List Bool), v = .slice ao ks.length cap ∧ RdL W ao b off ks ∧ ks.length ≤ 140737488351232 := by
  obtain ⟨ao, b, off, cap, ks, hv, h1, h2, h3, h4⟩ := openL hf
  refine ⟨ao, b, off, cap, ks, hv, h1, ?_⟩
  rcases Go.Deep.open_slice Try.underlying28 hf with ⟨hcs, hx⟩ | ⟨a, len, cap', m, n, D, Pl, hcs, _, hl, hm, hmm, hx, hcell⟩
  · simp at hcs
    rw [hv] at hcs
    simp at hcs
    omega
  · simp at hcs
    rw [hv] at hcs
    simp only [Value.slice.injEq] at hcs
    obtain ⟨rfl, rfl, rfl⟩ := hcs
    simp only [if_true] at hmm
    rw [hx] at hw
    have h5 := hw _ (by simp only [DataW.weights, Try.underlying28]; exact List.mem_cons_self)
    simp only [List.length_map, List.length_range, rowBytesB] at h5
    unfold reachBytes at h5
    omega
set_option maxRecDepth 100000 in
theorem openFt {H : Type} {enc : TypeId × Value → H} {W : World} {fuel : Nat} {v0 v1 v2 : Value} {x : DataW H × List MemPlace} (hf : DataW.trod enc Try.prog W 0 (fun _ => true) true fuel 54 [v0, v1, v2] = some x) (hw : ∀ y ∈ DataW.weights Try.prog 54 x.1, y ≤ reachBytes) :
    ∃ (a k : Int) (ao : Option Addr) (b off cap : Nat) (ks : List Bool), v0 = .int .i64 a ∧ v1 = .int .i64 k ∧ v2 = .slice ao ks.length cap ∧ RdL W ao b off ks ∧ ks.length ≤ 140737488355328 := by
  obtain ⟨xs, k, hk, hxy, _, hxl, hg⟩ := DataW.trod_struct Try.underlying54 hf
  match xs, hxl with
  | [y0, y1, y2], _ =>
    have g0 := hg 0 _ rfl
    have g1 := hg 1 _ rfl
    have g2 := hg 2 _ rfl
    simp [rowCellsI, rowCellsL] at g0 g1 g2
    obtain ⟨z0, e0, f0, _⟩ := DataW.trod_int Try.underlying3 g0
    obtain ⟨z1, e1, f1, _⟩ := DataW.trod_int Try.underlying3 g1
    simp only [List.cons.injEq, and_true] at e0 e1
    subst e0 e1
    rw [hxy] at hw
    obtain ⟨ao, b, off, cap, ks, rfl, h1, h2⟩ := openLw g2 (fun y hy => hw y (by
      simp only [DataW.weights, Try.underlying54, List.map_cons, List.map_nil, DataW.weightsEach, List.mem_append]
      exact Or.inr (Or.inr (Or.inl hy))))
    exact ⟨z0, z1, ao, b, off, cap, ks, rfl, rfl, rfl, h1, by omega⟩
theorem threeCellsF {cs : Array Value} (h : cs.size = 3) : ∃ x y z, cs = #[x, y, z] := by
  obtain ⟨l⟩ := cs
  match l, h with
  | [x, y, z], _ => exact ⟨x, y, z, rfl⟩
end Go.Proofs.Ytmhedhhbdpdafaa
