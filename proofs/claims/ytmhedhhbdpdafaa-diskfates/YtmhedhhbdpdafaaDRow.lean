/-
  The laws' inputs, opened. Own work.
-/
import Derived.Test.YtmhedhhbdpdafaaDTwo
import Derived.Deep.SlicePairs
import Derived.Carry
import Derived.OpenShut
namespace Go.Proofs.Ytmhedhhbdpdafaa
open Go.RowKit Go.ChangeShapes Go.WideShapes
instance : Inhabited OpV := ⟨⟨0, 0, ⟨#[]⟩, ⟨#[]⟩, 0, 0, none, 0, 0, 0, []⟩⟩
theorem rowCellsO : Try.prog.cellsOf 30 = 7 := by kernel_rfl
theorem rowCellsI : Try.prog.cellsOf 3 = 1 := by kernel_rfl
theorem rowCellsS : Try.prog.cellsOf 9 = 1 := by kernel_rfl
theorem rowCellsB : Try.prog.cellsOf 4 = 1 := by kernel_rfl
theorem rowCellsL : Try.prog.cellsOf 28 = 1 := by kernel_rfl
/-- A list of truths. -/
theorem openL {H : Type} {enc : TypeId × Value → H} {W : World} {fuel : Nat} {v : Value} {x : DataW H × List MemPlace} (hf : DataW.trod enc Try.prog W 0 (fun _ => true) true fuel 28 [v] = some x) :
    ∃ (ao : Option Addr) (b off cap : Nat) (ks : List Bool), v = .slice ao ks.length cap ∧ RdL W ao b off ks ∧ ks.length ≤ maxLen ∧ ks.length ≤ cap ∧ (ao = none → cap = 0) := by
  rcases Go.Deep.open_slice Try.underlying28 hf with ⟨hcs, hx⟩ | ⟨a, len, cap, m, n, D, Pl, hcs, _, hl, hm, hmm, hx, hcell⟩
  · simp at hcs
    subst hcs
    exact ⟨none, 0, 0, 0, [], rfl, rdl_nil _ _ _ _, Nat.zero_le _, Nat.le_refl _, fun _ => rfl⟩
  · simp at hcs
    subst hcs
    simp only [if_true] at hmm
    have each : ∀ i, i < len → ∃ b : Bool, W.cell? (a.add i) = some (.bool b) := fun i hi => by
      obtain ⟨cs', h1, h2⟩ := hcell i (by omega)
      rw [rowCellsB] at h1
      obtain ⟨_, hlen, hc⟩ := World.cells?_some h1
      obtain ⟨b, rfl, _⟩ := DataW.trod_bool Try.underlying4 h2
      have q := hc 0 (by decide)
      simp only [Go.Deep.add_add, Nat.mul_one, Nat.add_zero] at q
      exact ⟨b, by simpa using q⟩
    obtain ⟨l, hL⟩ := Go.Deep.choose_lt each
    by_cases h0 : len = 0
    · subst h0
      exact ⟨some a, 0, 0, cap, [], rfl, rdl_nil _ _ _ _, Nat.zero_le _, Nat.zero_le _, fun h => by cases h⟩
    · obtain ⟨b, off, spot⟩ := a
      have hspot : spot = none := by simpa [Addr.add] using World.cell?_spot (hL 0 (by omega))
      subst hspot
      have hlen : ((List.range len).map l).length = len := by simp
      refine ⟨some ⟨b, off, none⟩, b, off, cap, (List.range len).map l, by rw [hlen], ⟨fun _ => rfl, fun j hj => ?_⟩, by rw [hlen]; omega, by rw [hlen]; exact hl, fun h => by cases h⟩
      rw [hlen] at hj
      have := hL j hj
      rw [Addr.add_mid] at this
      rw [this]
      simp [List.getD_eq_getElem?_getD, hj]
set_option maxRecDepth 100000 in
theorem openOp {H : Type} {enc : TypeId × Value → H} {W : World} {fuel : Nat} {cs : List Value} {x : DataW H × List MemPlace} (hl : cs.length = 7) (hf : DataW.trod enc Try.prog W 0 (fun _ => true) true fuel 30 cs = some x) :
    ∃ o : OpV, cs = [.int .i64 o.kind, .int .i64 o.which, .string o.name, .string o.data, .int .i64 o.at_, .int .i64 o.n, .slice o.ka o.keep.length o.kc] ∧ OpOk W o := by
  obtain ⟨xs, k, hk, hxy, _, hxl, hg⟩ := DataW.trod_struct Try.underlying30 hf
  match xs, hxl, cs, hl with
  | [y0, y1, y2, y3, y4, y5, y6], _, [v0, v1, v2, v3, v4, v5, v6], _ =>
    have g0 := hg 0 _ rfl
    have g1 := hg 1 _ rfl
    have g2 := hg 2 _ rfl
    have g3 := hg 3 _ rfl
    have g4 := hg 4 _ rfl
    have g5 := hg 5 _ rfl
    have g6 := hg 6 _ rfl
    simp [rowCellsI, rowCellsS, rowCellsL] at g0 g1 g2 g3 g4 g5 g6
    obtain ⟨z0, e0, f0, _⟩ := DataW.trod_int Try.underlying3 g0
    obtain ⟨z1, e1, f1, _⟩ := DataW.trod_int Try.underlying3 g1
    obtain ⟨z2, e2, f2, w2⟩ := DataW.trod_string Try.underlying9 g2
    obtain ⟨z3, e3, f3, _⟩ := DataW.trod_string Try.underlying9 g3
    obtain ⟨z4, e4, f4, w4⟩ := DataW.trod_int Try.underlying3 g4
    obtain ⟨z5, e5, f5, w5⟩ := DataW.trod_int Try.underlying3 g5
    simp only [List.cons.injEq, and_true] at e0 e1 e2 e3 e4 e5
    subst e0 e1 e2 e3 e4 e5
    have b4 := bounds_i64 w4
    have b5 := bounds_i64 w5
    obtain ⟨ao, b, off, cap, ks, rfl, h1, h2, h3, h4⟩ := openL g6
    exact ⟨⟨z0, z1, z2, z3, z4, z5, ao, cap, b, off, ks⟩, rfl, ⟨w2, by simp only; omega, by simp only; omega, by simp only; omega, by simp only; omega, h1, by simp only; unfold maxLen at h2; omega⟩⟩
theorem sliceRdO {H : Type} {enc : TypeId × Value → H} {W : World} {fuel : Nat} {ao : Option Addr} {len cap : Nat} {x : DataW H × List MemPlace} (hf : DataW.trod enc Try.prog W 0 (fun _ => true) true fuel 22 [.slice ao len cap] = some x) :
    ∃ (b off : Nat) (l : Nat → OpV), RdO W ao b off len l ∧ len ≤ maxLen ∧ len ≤ cap ∧ (ao = none → cap = 0) := by
  rcases Go.Deep.open_slice Try.underlying22 hf with ⟨hcs, hx⟩ | ⟨a, len', cap', m, n, D, Pl, hcs, _, hl, hm, hmm, hx, hcell⟩
  · simp at hcs
    obtain ⟨rfl, rfl, rfl⟩ := hcs
    exact ⟨0, 0, fun _ => ⟨0, 0, ⟨#[]⟩, ⟨#[]⟩, 0, 0, none, 0, 0, 0, []⟩, ⟨fun h => absurd h (Nat.lt_irrefl 0), fun j hj => absurd hj (Nat.not_lt_zero j)⟩, Nat.zero_le _, Nat.le_refl _, fun _ => rfl⟩
  · simp at hcs
    obtain ⟨rfl, rfl, rfl⟩ := hcs
    simp only [if_true] at hmm
    have each : ∀ i, i < len → ∃ o : OpV, W.cell? (a.add (i * 7 + 0)) = some (.int .i64 o.kind) ∧ W.cell? (a.add (i * 7 + 1)) = some (.int .i64 o.which) ∧ W.cell? (a.add (i * 7 + 2)) = some (.string o.name) ∧ W.cell? (a.add (i * 7 + 3)) = some (.string o.data) ∧ W.cell? (a.add (i * 7 + 4)) = some (.int .i64 o.at_) ∧ W.cell? (a.add (i * 7 + 5)) = some (.int .i64 o.n) ∧ W.cell? (a.add (i * 7 + 6)) = some (.slice o.ka o.keep.length o.kc) ∧ OpOk W o := fun i hi => by
      obtain ⟨cs', h1, h2⟩ := hcell i (by omega)
      rw [rowCellsO] at h1
      obtain ⟨_, hlen, hc⟩ := World.cells?_some h1
      obtain ⟨o, rfl, ho⟩ := openOp hlen h2
      have q := fun t (ht : t < 7) => hc t ht
      simp only [Go.Deep.add_add] at q
      exact ⟨o, by simpa using q 0 (by decide), by simpa using q 1 (by decide), by simpa using q 2 (by decide), by simpa using q 3 (by decide), by simpa using q 4 (by decide), by simpa using q 5 (by decide), by simpa using q 6 (by decide), ho⟩
    obtain ⟨l, hL⟩ := Go.Deep.choose_lt each
    by_cases h0 : len = 0
    · subst h0
      exact ⟨0, 0, l, ⟨fun h => absurd h (Nat.lt_irrefl 0), fun j hj => absurd hj (Nat.not_lt_zero j)⟩, Nat.zero_le _, hl, fun h => by cases h⟩
    · obtain ⟨b, off, spot⟩ := a
      have hspot : spot = none := by simpa [Addr.add] using World.cell?_spot (hL 0 (by omega)).1
      subst hspot
      refine ⟨b, off, l, ⟨fun _ => rfl, fun j hj => ?_⟩, Nat.le_trans hl hm, hl, fun h => by cases h⟩
      have := hL j hj
      simp only [Addr.add_mid] at this
      exact this
end Go.Proofs.Ytmhedhhbdpdafaa
