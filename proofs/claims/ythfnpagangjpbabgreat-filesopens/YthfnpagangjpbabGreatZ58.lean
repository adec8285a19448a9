/-
  DRow, DRowG. Own work.
-/
import Derived.Test.YthfnpagangjpbabGreatZ15
import Derived.Deep.SlicePairs
import Derived.Carry
import Derived.OpenShut
/-
  The laws' inputs, opened. Own work.
-/
namespace Go.Proofs.YthfnpagangjpbabGreat
open Go.RowKit Go.ChangeShapes Go.WideShapes
instance : Inhabited OpV := ⟨⟨0, 0, ⟨#[]⟩, ⟨#[]⟩, 0, 0, none, 0, 0, 0, []⟩⟩
theorem rowCellsI : Tryz.prog.cellsOf 3 = 1 := by kernel_rfl
theorem rowCellsS : Tryz.prog.cellsOf 9 = 1 := by kernel_rfl
theorem rowCellsB : Tryz.prog.cellsOf 4 = 1 := by kernel_rfl
theorem rowCellsL : Tryz.prog.cellsOf 49 = 1 := by kernel_rfl
/-- A list of truths. -/
theorem openL {H : Type} {enc : TypeId × Value → H} {W : World} {fuel : Nat} {v : Value} {x : DataW H × List MemPlace} (hf : DataW.trod enc Tryz.prog W 0 (fun _ => true) true fuel 49 [v] = some x) :
    ∃ (ao : Option Addr) (b off cap : Nat) (ks : List Bool), v = .slice ao ks.length cap ∧ RdL W ao b off ks ∧ ks.length ≤ maxLen ∧ ks.length ≤ cap ∧ (ao = none → cap = 0) := by
  rcases Go.Deep.open_slice Tryz.underlying49 hf with ⟨hcs, hx⟩ | ⟨a, len, cap, m, n, D, Pl, hcs, _, hl, hm, hmm, hx, hcell⟩
  · simp at hcs
    subst hcs
    exact ⟨none, 0, 0, 0, [], rfl, rdl_nil _ _ _ _, Nat.zero_le _, Nat.le_refl _, fun _ => rfl⟩
  · simp at hcs
    subst hcs
    simp only [if_true] at hmm
    have each : ∀ i, i < len → ∃ b : Bool, W.cell? (a.add i) = some (.bool b) := fun i hi => by
      obtain ⟨cs', h1, h2⟩ := hcell i (by omega)
      rw [rowCellsB] at h1
      obtain ⟨_, hlen, hc⟩ := World.cells?_some h1
      obtain ⟨b, rfl, _⟩ := DataW.trod_bool Tryz.underlying4 h2
      have q := hc 0 (by decide)
      simp only [Go.Deep.add_add, Nat.mul_one, Nat.add_zero] at q
      exact ⟨b, by simpa using q⟩
    obtain ⟨l, hL⟩ := Go.Deep.choose_lt each
    by_cases h0 : len = 0
    · subst h0
      exact ⟨some a, 0, 0, cap, [], rfl, rdl_nil _ _ _ _, Nat.zero_le _, Nat.zero_le _, fun h => by cases h⟩
    · obtain ⟨b, off, spot⟩ := a
      have hspot : spot = none := by simpa [Addr.add] using World.cell?_spot (hL 0 (by omega))
      subst hspot
      have hlen : ((List.range len).map l).length = len := by simp
      refine ⟨some ⟨b, off, none⟩, b, off, cap, (List.range len).map l, by rw [hlen], ⟨fun _ => rfl, fun j hj => ?_⟩, by rw [hlen]; omega, by rw [hlen]; exact hl, fun h => by cases h⟩
      rw [hlen] at hj
      have := hL j hj
      rw [Addr.add_mid] at this
      rw [this]
      simp [List.getD_eq_getElem?_getD, hj]
end Go.Proofs.YthfnpagangjpbabGreat
/-
  The laws' inputs, opened: files. Own work.
-/
namespace Go.Proofs.YthfnpagangjpbabGreat
open Go.RowKit Go.ChangeShapes Go.WideShapes
theorem rowCellsFi : Tryz.prog.cellsOf 25 = 2 := by kernel_rfl
set_option maxRecDepth 100000 in
theorem openFi {H : Type} {enc : TypeId × Value → H} {W : World} {fuel : Nat} {cs : List Value} {x : DataW H × List MemPlace} (hl : cs.length = 2) (hf : DataW.trod enc Tryz.prog W 0 (fun _ => true) true fuel 25 cs = some x) :
    ∃ o : List UInt8 × List UInt8, cs = [.string ⟨o.1.toArray⟩, .string ⟨o.2.toArray⟩] ∧ o.1.length ≤ maxLen ∧ o.2.length ≤ maxLen := by
  obtain ⟨xs, k, hk, hxy, _, hxl, hg⟩ := DataW.trod_struct Tryz.underlying25 hf
  match xs, hxl, cs, hl with
  | [y0, y1], _, [v0, v1], _ =>
    have g0 := hg 0 _ rfl
    have g1 := hg 1 _ rfl
    simp [rowCellsS] at g0 g1
    obtain ⟨z0, e0, f0, w0⟩ := DataW.trod_string Tryz.underlying9 g0
    obtain ⟨z1, e1, f1, w1⟩ := DataW.trod_string Tryz.underlying9 g1
    simp only [List.cons.injEq, and_true] at e0 e1
    subst e0 e1
    exact ⟨(z0.data.toList, z1.data.toList), rfl, by rw [size_list]; exact w0, by rw [size_list]; exact w1⟩
/-- A list of files. -/
theorem sliceRdFi {H : Type} {enc : TypeId × Value → H} {W : World} {fuel : Nat} {ao : Option Addr} {len cap : Nat} {x : DataW H × List MemPlace} (hf : DataW.trod enc Tryz.prog W 0 (fun _ => true) true fuel 22 [.slice ao len cap] = some x) :
    ∃ (b off : Nat) (l : List (List UInt8 × List UInt8)), l.length = len ∧ RdF W ao b off l ∧ (∀ y ∈ l, y.1.length ≤ maxLen ∧ y.2.length ≤ maxLen) ∧ len ≤ maxLen ∧ len ≤ cap ∧ (ao = none → cap = 0) := by
  rcases Go.Deep.open_slice Tryz.underlying22 hf with ⟨hcs, hx⟩ | ⟨a, len', cap', m, n, D, Pl, hcs, _, hl, hm, hmm, hx, hcell⟩
  · simp at hcs
    obtain ⟨rfl, rfl, rfl⟩ := hcs
    exact ⟨0, 0, [], rfl, ⟨fun h => absurd h (Nat.lt_irrefl 0), fun j hj => absurd hj (Nat.not_lt_zero j), fun j hj => absurd hj (Nat.not_lt_zero j)⟩, by simp, Nat.zero_le _, Nat.le_refl _, fun _ => rfl⟩
  · simp at hcs
    obtain ⟨rfl, rfl, rfl⟩ := hcs
    simp only [if_true] at hmm
    have each : ∀ i, i < len → ∃ o : List UInt8 × List UInt8, W.cell? (a.add (i * 2 + 0)) = some (.string ⟨o.1.toArray⟩) ∧ W.cell? (a.add (i * 2 + 1)) = some (.string ⟨o.2.toArray⟩) ∧ o.1.length ≤ maxLen ∧ o.2.length ≤ maxLen := fun i hi => by
      obtain ⟨cs', h1, h2⟩ := hcell i (by omega)
      rw [rowCellsFi] at h1
      obtain ⟨_, hlen, hc⟩ := World.cells?_some h1
      obtain ⟨o, rfl, ho1, ho2⟩ := openFi hlen h2
      have q := fun t (ht : t < 2) => hc t ht
      simp only [Go.Deep.add_add] at q
      exact ⟨o, by simpa using q 0 (by decide), by simpa using q 1 (by decide), ho1, ho2⟩
    obtain ⟨l, hL⟩ := Go.Deep.choose_lt each
    have hlen : ((List.range len).map l).length = len := by simp
    by_cases h0 : len = 0
    · subst h0
      exact ⟨0, 0, [], rfl, ⟨fun h => absurd h (Nat.lt_irrefl 0), fun j hj => absurd hj (Nat.not_lt_zero j), fun j hj => absurd hj (Nat.not_lt_zero j)⟩, by simp, Nat.zero_le _, hl, fun h => by cases h⟩
    · obtain ⟨b, off, spot⟩ := a
      have hspot : spot = none := by simpa [Addr.add] using World.cell?_spot (hL 0 (by omega)).1
      subst hspot
      have hg : ∀ j, j < len → ((List.range len).map l).getD j ([], []) = l j := fun j hj => by simp [List.getD_eq_getElem?_getD, hj]
      refine ⟨b, off, (List.range len).map l, hlen, ⟨fun _ => rfl, fun j hj => ?_, fun j hj => ?_⟩, fun y hy => ?_, Nat.le_trans hl hm, hl, fun h => by cases h⟩
      · rw [hlen] at hj
        have := (hL j hj).1
        simp only [Addr.add_mid, Nat.add_zero] at this
        rw [hg j hj]; exact this
      · rw [hlen] at hj
        have := (hL j hj).2.1
        simp only [Addr.add_mid] at this
        rw [hg j hj, Nat.add_assoc]; exact this
      · obtain ⟨i, hi, rfl⟩ := List.mem_map.1 hy
        exact (hL i (List.mem_range.1 hi)).2.2
end Go.Proofs.YthfnpagangjpbabGreat
