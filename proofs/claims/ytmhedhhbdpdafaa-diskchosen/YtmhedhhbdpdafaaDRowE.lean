/-
  The laws' inputs, opened: edits, choices. Own work.
-/
import Derived.Test.YtmhedhhbdpdafaaDRow
import Derived.Test.YtmhedhhbdpdafaaDEdW
namespace Go.Proofs.Ytmhedhhbdpdafaa
open Go.RowKit Go.ChangeShapes Go.WideShapes
instance : Inhabited EdV := ⟨⟨0, ⟨#[]⟩, false⟩⟩
theorem rowCellsE : Try.prog.cellsOf 87 = 3 := by kernel_rfl
theorem sliceRdL {H : Type} {enc : TypeId × Value → H} {W : World} {fuel : Nat} {ao : Option Addr} {len cap : Nat} {x : DataW H × List MemPlace} (hf : DataW.trod enc Try.prog W 0 (fun _ => true) true fuel 28 [.slice ao len cap] = some x) :
    ∃ (b off : Nat) (l : List Bool), l.length = len ∧ RdL W ao b off l ∧ l.length ≤ maxLen ∧ len ≤ cap ∧ (ao = none → cap = 0) := by
  obtain ⟨ao', b, off, cap', ks, hv, h1, h2, h3, h4⟩ := openL hf
  simp only [Value.slice.injEq] at hv
  obtain ⟨rfl, rfl, rfl⟩ := hv
  exact ⟨b, off, ks, rfl, h1, h2, h3, h4⟩
set_option maxRecDepth 100000 in
theorem openEd {H : Type} {enc : TypeId × Value → H} {W : World} {fuel : Nat} {cs : List Value} {x : DataW H × List MemPlace} (hl : cs.length = 3) (hf : DataW.trod enc Try.prog W 0 (fun _ => true) true fuel 87 cs = some x) :
    ∃ o : EdV, cs = [.int .i64 o.at_, .string o.data, .bool o.cut] := by
  obtain ⟨xs, k, hk, hxy, _, hxl, hg⟩ := DataW.trod_struct Try.underlying87 hf
  match xs, hxl, cs, hl with
  | [y0, y1, y2], _, [v0, v1, v2], _ =>
    have g0 := hg 0 _ rfl
    have g1 := hg 1 _ rfl
    have g2 := hg 2 _ rfl
    simp [rowCellsI, rowCellsS, rowCellsB] at g0 g1 g2
    obtain ⟨z0, e0, f0, _⟩ := DataW.trod_int Try.underlying3 g0
    obtain ⟨z1, e1, f1, _⟩ := DataW.trod_string Try.underlying9 g1
    obtain ⟨z2, e2, _⟩ := DataW.trod_bool Try.underlying4 g2
    simp only [List.cons.injEq, and_true] at e0 e1 e2
    subst e0 e1 e2
    exact ⟨⟨z0, z1, z2⟩, rfl⟩
theorem sliceRdE {H : Type} {enc : TypeId × Value → H} {W : World} {fuel : Nat} {ao : Option Addr} {len cap : Nat} {x : DataW H × List MemPlace} (hf : DataW.trod enc Try.prog W 0 (fun _ => true) true fuel 59 [.slice ao len cap] = some x) :
    ∃ (b off : Nat) (l : Nat → EdV), RdE W ao b off len l ∧ len ≤ maxLen ∧ len ≤ cap ∧ (ao = none → cap = 0) := by
  rcases Go.Deep.open_slice Try.underlying59 hf with ⟨hcs, hx⟩ | ⟨a, len', cap', m, n, D, Pl, hcs, _, hl, hm, hmm, hx, hcell⟩
  · simp at hcs
    obtain ⟨rfl, rfl, rfl⟩ := hcs
    exact ⟨0, 0, fun _ => default, ⟨fun h => absurd h (Nat.lt_irrefl 0), fun j hj => absurd hj (Nat.not_lt_zero j)⟩, Nat.zero_le _, Nat.le_refl _, fun _ => rfl⟩
  · simp at hcs
    obtain ⟨rfl, rfl, rfl⟩ := hcs
    simp only [if_true] at hmm
    have each : ∀ i, i < len → ∃ o : EdV, W.cell? (a.add (i * 3 + 0)) = some (.int .i64 o.at_) ∧ W.cell? (a.add (i * 3 + 1)) = some (.string o.data) ∧ W.cell? (a.add (i * 3 + 2)) = some (.bool o.cut) := fun i hi => by
      obtain ⟨cs', h1, h2⟩ := hcell i (by omega)
      rw [rowCellsE] at h1
      obtain ⟨_, hlen, hc⟩ := World.cells?_some h1
      obtain ⟨o, rfl⟩ := openEd hlen h2
      have q := fun t (ht : t < 3) => hc t ht
      simp only [Go.Deep.add_add] at q
      exact ⟨o, by simpa using q 0 (by decide), by simpa using q 1 (by decide), by simpa using q 2 (by decide)⟩
    obtain ⟨l, hL⟩ := Go.Deep.choose_lt each
    by_cases h0 : len = 0
    · subst h0
      exact ⟨0, 0, l, ⟨fun h => absurd h (Nat.lt_irrefl 0), fun j hj => absurd hj (Nat.not_lt_zero j)⟩, Nat.zero_le _, hl, fun h => by cases h⟩
    · obtain ⟨b, off, spot⟩ := a
      have hspot : spot = none := by simpa [Addr.add] using World.cell?_spot (hL 0 (by omega)).1
      subst hspot
      refine ⟨b, off, l, ⟨fun _ => rfl, fun j hj => ?_⟩, Nat.le_trans hl hm, hl, fun h => by cases h⟩
      have := hL j hj
      simp only [Addr.add_mid] at this
      exact this
end Go.Proofs.Ytmhedhhbdpdafaa
