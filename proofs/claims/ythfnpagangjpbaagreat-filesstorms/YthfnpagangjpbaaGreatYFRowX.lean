/-
  The laws' inputs, opened: a storm. Own work.
-/
import Derived.Test.YthfnpagangjpbaaGreatYFStW
import Derived.Deep.SlicePairs
import Derived.Carry
import Derived.OpenShut
import Derived.SizedLaws
namespace Go.Proofs.YthfnpagangjpbaaGreat
open Go.RowKit Go.ChangeShapes Go.WideShapes
theorem rowCellsX : Tryz.prog.cellsOf 59 = 9 := by kernel_rfl
theorem rowCellsI : Tryz.prog.cellsOf 3 = 1 := by kernel_rfl
theorem rowCellsB : Tryz.prog.cellsOf 4 = 1 := by kernel_rfl
theorem rowCellsL : Tryz.prog.cellsOf 57 = 1 := by kernel_rfl
theorem rowBytesB : Tryz.prog.bytesOf 4 = 1 := by kernel_rfl
/-- A list of truths. -/
theorem openLX {H : Type} {enc : TypeId × Value → H} {W : World} {fuel : Nat} {v : Value} {x : DataW H × List MemPlace} (hf : DataW.trod enc Tryz.prog W 0 (fun _ => true) true fuel 57 [v] = some x) :
    ∃ (ao : Option Addr) (b off cap : Nat) (ks : List Bool), v = .slice ao ks.length cap ∧ RdL W ao b off ks ∧ ks.length ≤ maxLen ∧ ks.length ≤ cap ∧ (ao = none → cap = 0) := by
  rcases Go.Deep.open_slice Tryz.underlying57 hf with ⟨hcs, hx⟩ | ⟨a, len, cap, m, n, D, Pl, hcs, _, hl, hm, hmm, hx, hcell⟩
  · simp at hcs
    subst hcs
    exact ⟨none, 0, 0, 0, [], rfl, rdl_nil _ _ _ _, Nat.zero_le _, Nat.le_refl _, fun _ => rfl⟩
  · simp at hcs
    subst hcs
    simp only [if_true] at hmm
    have each : ∀ i, i < len → ∃ b : Bool, W.cell? (a.add i) = some (.bool b) := fun i hi => by
      obtain ⟨cs', h1, h2⟩ := hcell i (by omega)
      rw [rowCellsB] at h1
      obtain ⟨_, hlen, hc⟩ := World.cells?_some h1
      obtain ⟨b, rfl, _⟩ := DataW.trod_bool Tryz.underlying4 h2
      have q := hc 0 (by decide)
      simp only [Go.Deep.add_add, Nat.mul_one, Nat.add_zero] at q
      exact ⟨b, by simpa using q⟩
    obtain ⟨l, hL⟩ := Go.Deep.choose_lt each
    by_cases h0 : len = 0
    · subst h0
      exact ⟨some a, 0, 0, cap, [], rfl, rdl_nil _ _ _ _, Nat.zero_le _, Nat.zero_le _, fun h => by cases h⟩
    · obtain ⟨b, off, spot⟩ := a
      have hspot : spot = none := by simpa [Addr.add] using World.cell?_spot (hL 0 (by omega))
      subst hspot
      have hlen : ((List.range len).map l).length = len := by simp
      refine ⟨some ⟨b, off, none⟩, b, off, cap, (List.range len).map l, by rw [hlen], ⟨fun _ => rfl, fun j hj => ?_⟩, by rw [hlen]; omega, by rw [hlen]; exact hl, fun h => by cases h⟩
      rw [hlen] at hj
      have := hL j hj
      rw [Addr.add_mid] at this
      rw [this]
      simp [List.getD_eq_getElem?_getD, hj]
/-- A list of truths that is held to the reach. -/
theorem openLwX {H : Type} {enc : TypeId × Value → H} {W : World} {fuel : Nat} {v : Value} {x : DataW H × List MemPlace} (hf : DataW.trod enc Tryz.prog W 0 (fun _ => true) true fuel 57 [v] = some x) (hw : ∀ y ∈ DataW.weights Tryz.prog 57 x.1, y ≤ reachBytes) :
    ∃ (ao : Option Addr) (b off cap : Nat) (ks : List Bool), v = .slice ao ks.length cap ∧ RdL W ao b off ks ∧ ks.length ≤ 140737488351232 := by
  obtain ⟨ao, b, off, cap, ks, hv, h1, h2, h3, h4⟩ := openLX hf
  refine ⟨ao, b, off, cap, ks, hv, h1, ?_⟩
  rcases Go.Deep.open_slice Tryz.underlying57 hf with ⟨hcs, hx⟩ | ⟨a, len, cap', m, n, D, Pl, hcs, _, hl, hm, hmm, hx, hcell⟩
  · simp at hcs
    rw [hv] at hcs
    simp at hcs
    omega
  · simp at hcs
    rw [hv] at hcs
    simp only [Value.slice.injEq] at hcs
    obtain ⟨rfl, rfl, rfl⟩ := hcs
    simp only [if_true] at hmm
    rw [hx] at hw
    have h5 := hw _ (by simp only [DataW.weights, Tryz.underlying57]; exact List.mem_cons_self)
    simp only [List.length_map, List.length_range, rowBytesB] at h5
    unfold reachBytes at h5
    omega
set_option maxRecDepth 100000 in
theorem openStorm {H : Type} {enc : TypeId × Value → H} {W : World} {fuel : Nat} {v0 v1 v2 v3 v4 v5 v6 v7 v8 : Value} {x : DataW H × List MemPlace} (hf : DataW.trod enc Tryz.prog W 0 (fun _ => true) true fuel 59 [v0, v1, v2, v3, v4, v5, v6, v7, v8] = some x) (hw : ∀ y ∈ DataW.weights Tryz.prog 59 x.1, y ≤ reachBytes) :
    ∃ (x0 x1 x2 x6 x7 : Int) (pw : Bool) (ka ta ga : Option Addr) (kb ko kc tb tO tc gb gO gc : Nat) (ks ts gs : List Bool), v0 = .int .i64 x0 ∧ v1 = .int .i64 x1 ∧ v2 = .int .i64 x2 ∧ v3 = .slice ka ks.length kc ∧ v4 = .bool pw ∧ v5 = .slice ta ts.length tc ∧ v6 = .int .i64 x6 ∧ v7 = .int .i64 x7 ∧ v8 = .slice ga gs.length gc ∧ RdL W ka kb ko ks ∧ RdL W ta tb tO ts ∧ RdL W ga gb gO gs ∧ ks.length ≤ 140737488355328 ∧ ts.length ≤ 140737488355328 ∧ gs.length ≤ 140737488355328 := by
  obtain ⟨xs, k, hk, hxy, _, hxl, hg⟩ := DataW.trod_struct Tryz.underlying59 hf
  match xs, hxl with
  | [y0, y1, y2, y3, y4, y5, y6, y7, y8], _ =>
    have g0 := hg 0 _ rfl
    have g1 := hg 1 _ rfl
    have g2 := hg 2 _ rfl
    have g3 := hg 3 _ rfl
    have g4 := hg 4 _ rfl
    have g5 := hg 5 _ rfl
    have g6 := hg 6 _ rfl
    have g7 := hg 7 _ rfl
    have g8 := hg 8 _ rfl
    simp [rowCellsI, rowCellsL, rowCellsB] at g0 g1 g2 g3 g4 g5 g6 g7 g8
    obtain ⟨z0, e0, _, _⟩ := DataW.trod_int Tryz.underlying3 g0
    obtain ⟨z1, e1, _, _⟩ := DataW.trod_int Tryz.underlying3 g1
    obtain ⟨z2, e2, _, _⟩ := DataW.trod_int Tryz.underlying3 g2
    obtain ⟨z4, e4, _⟩ := DataW.trod_bool Tryz.underlying4 g4
    obtain ⟨z6, e6, _, _⟩ := DataW.trod_int Tryz.underlying3 g6
    obtain ⟨z7, e7, _, _⟩ := DataW.trod_int Tryz.underlying3 g7
    simp only [List.cons.injEq, and_true] at e0 e1 e2 e4 e6 e7
    subst e0 e1 e2 e4 e6 e7
    rw [hxy] at hw
    have hw3 : ∀ y ∈ DataW.weights Tryz.prog 57 y3.1, y ≤ reachBytes := fun y hy => hw y (by
      simp only [DataW.weights, Tryz.underlying59, List.map_cons, List.map_nil, DataW.weightsEach, List.mem_append]
      exact Or.inr (Or.inr (Or.inr (Or.inl hy))))
    have hw5 : ∀ y ∈ DataW.weights Tryz.prog 57 y5.1, y ≤ reachBytes := fun y hy => hw y (by
      simp only [DataW.weights, Tryz.underlying59, List.map_cons, List.map_nil, DataW.weightsEach, List.mem_append]
      exact Or.inr (Or.inr (Or.inr (Or.inr (Or.inr (Or.inl hy))))))
    have hw8 : ∀ y ∈ DataW.weights Tryz.prog 57 y8.1, y ≤ reachBytes := fun y hy => hw y (by
      simp only [DataW.weights, Tryz.underlying59, List.map_cons, List.map_nil, DataW.weightsEach, List.mem_append]
      exact Or.inr (Or.inr (Or.inr (Or.inr (Or.inr (Or.inr (Or.inr (Or.inr (Or.inl hy)))))))))
    obtain ⟨ka, kb, ko, kc, ks, rfl, h1, h2⟩ := openLwX g3 hw3
    obtain ⟨ta, tb, tO, tc, ts, rfl, h3, h4⟩ := openLwX g5 hw5
    obtain ⟨ga, gb, gO, gc, gs, rfl, h5, h6⟩ := openLwX g8 hw8
    exact ⟨z0, z1, z2, z6, z7, z4, ka, ta, ga, kb, ko, kc, tb, tO, tc, gb, gO, gc, ks, ts, gs, rfl, rfl, rfl, rfl, rfl, rfl, rfl, rfl, rfl, h1, h3, h5, by omega, by omega, by omega⟩
theorem nineCells {cs : Array Value} (h : cs.size = 9) : ∃ a b c d e f g h i, cs = #[a, b, c, d, e, f, g, h, i] := by
  obtain ⟨l⟩ := cs
  match l, h with
  | [a, b, c, d, e, f, g, h, i], _ => exact ⟨a, b, c, d, e, f, g, h, i, rfl⟩
end Go.Proofs.YthfnpagangjpbaaGreat
