/-
  DRow, DRowG, QRow in one text. Own work.
-/
import Derived.Test.YtmhedhhbdpdafabGAl
import Derived.Deep.SlicePairs
import Derived.Carry
import Derived.OpenShut
import Derived.Test.YtmhedhhbdpdafabRows
import Derived.Test.YtmhedhhbdpdafabQMain
import Derived.Test.YtmhedhhbdpdafabGNw
/-
  The laws' inputs, opened. Own work.
-/
namespace Go.Proofs.Ytmhedhhbdpdafab
open Go.RowKit Go.ChangeShapes Go.WideShapes
instance : Inhabited OpV := ⟨⟨0, 0, ⟨#[]⟩, ⟨#[]⟩, 0, 0, none, 0, 0, 0, []⟩⟩
theorem rowCellsO : Try.prog.cellsOf 38 = 7 := by kernel_rfl
theorem rowCellsI : Try.prog.cellsOf 3 = 1 := by kernel_rfl
theorem rowCellsS : Try.prog.cellsOf 9 = 1 := by kernel_rfl
theorem rowCellsB : Try.prog.cellsOf 4 = 1 := by kernel_rfl
theorem rowCellsL : Try.prog.cellsOf 36 = 1 := by kernel_rfl
/-- A list of truths. -/
theorem openL {H : Type} {enc : TypeId × Value → H} {W : World} {fuel : Nat} {v : Value} {x : DataW H × List MemPlace} (hf : DataW.trod enc Try.prog W 0 (fun _ => true) true fuel 36 [v] = some x) :
    ∃ (ao : Option Addr) (b off cap : Nat) (ks : List Bool), v = .slice ao ks.length cap ∧ RdL W ao b off ks ∧ ks.length ≤ maxLen ∧ ks.length ≤ cap ∧ (ao = none → cap = 0) := by
  rcases Go.Deep.open_slice Try.underlying36 hf with ⟨hcs, hx⟩ | ⟨a, len, cap, m, n, D, Pl, hcs, _, hl, hm, hmm, hx, hcell⟩
  · simp at hcs
    subst hcs
    exact ⟨none, 0, 0, 0, [], rfl, rdl_nil _ _ _ _, Nat.zero_le _, Nat.le_refl _, fun _ => rfl⟩
  · simp at hcs
    subst hcs
    simp only [if_true] at hmm
    have each : ∀ i, i < len → ∃ b : Bool, W.cell? (a.add i) = some (.bool b) := fun i hi => by
      obtain ⟨cs', h1, h2⟩ := hcell i (by omega)
      rw [rowCellsB] at h1
      obtain ⟨_, hlen, hc⟩ := World.cells?_some h1
      obtain ⟨b, rfl, _⟩ := DataW.trod_bool Try.underlying4 h2
      have q := hc 0 (by decide)
      simp only [Go.Deep.add_add, Nat.mul_one, Nat.add_zero] at q
      exact ⟨b, by simpa using q⟩
    obtain ⟨l, hL⟩ := Go.Deep.choose_lt each
    by_cases h0 : len = 0
    · subst h0
      exact ⟨some a, 0, 0, cap, [], rfl, rdl_nil _ _ _ _, Nat.zero_le _, Nat.zero_le _, fun h => by cases h⟩
    · obtain ⟨b, off, spot⟩ := a
      have hspot : spot = none := by simpa [Addr.add] using World.cell?_spot (hL 0 (by omega))
      subst hspot
      have hlen : ((List.range len).map l).length = len := by simp
      refine ⟨some ⟨b, off, none⟩, b, off, cap, (List.range len).map l, by rw [hlen], ⟨fun _ => rfl, fun j hj => ?_⟩, by rw [hlen]; omega, by rw [hlen]; exact hl, fun h => by cases h⟩
      rw [hlen] at hj
      have := hL j hj
      rw [Addr.add_mid] at this
      rw [this]
      simp [List.getD_eq_getElem?_getD, hj]
set_option maxRecDepth 100000 in
theorem openOp {H : Type} {enc : TypeId × Value → H} {W : World} {fuel : Nat} {cs : List Value} {x : DataW H × List MemPlace} (hl : cs.length = 7) (hf : DataW.trod enc Try.prog W 0 (fun _ => true) true fuel 38 cs = some x) :
    ∃ o : OpV, cs = [.int .i64 o.kind, .int .i64 o.which, .string o.name, .string o.data, .int .i64 o.at_, .int .i64 o.n, .slice o.ka o.keep.length o.kc] ∧ OpOk W o := by
  obtain ⟨xs, k, hk, hxy, _, hxl, hg⟩ := DataW.trod_struct Try.underlying38 hf
  match xs, hxl, cs, hl with
  | [y0, y1, y2, y3, y4, y5, y6], _, [v0, v1, v2, v3, v4, v5, v6], _ =>
    have g0 := hg 0 _ rfl
    have g1 := hg 1 _ rfl
    have g2 := hg 2 _ rfl
    have g3 := hg 3 _ rfl
    have g4 := hg 4 _ rfl
    have g5 := hg 5 _ rfl
    have g6 := hg 6 _ rfl
    simp [rowCellsI, rowCellsS, rowCellsL] at g0 g1 g2 g3 g4 g5 g6
    obtain ⟨z0, e0, f0, _⟩ := DataW.trod_int Try.underlying3 g0
    obtain ⟨z1, e1, f1, _⟩ := DataW.trod_int Try.underlying3 g1
    obtain ⟨z2, e2, f2, w2⟩ := DataW.trod_string Try.underlying9 g2
    obtain ⟨z3, e3, f3, _⟩ := DataW.trod_string Try.underlying9 g3
    obtain ⟨z4, e4, f4, w4⟩ := DataW.trod_int Try.underlying3 g4
    obtain ⟨z5, e5, f5, w5⟩ := DataW.trod_int Try.underlying3 g5
    simp only [List.cons.injEq, and_true] at e0 e1 e2 e3 e4 e5
    subst e0 e1 e2 e3 e4 e5
    have b4 := bounds_i64 w4
    have b5 := bounds_i64 w5
    obtain ⟨ao, b, off, cap, ks, rfl, h1, h2, h3, h4⟩ := openL g6
    exact ⟨⟨z0, z1, z2, z3, z4, z5, ao, cap, b, off, ks⟩, rfl, ⟨w2, by simp only; omega, by simp only; omega, by simp only; omega, by simp only; omega, h1, by simp only; unfold maxLen at h2; omega⟩⟩
theorem sliceRdO {H : Type} {enc : TypeId × Value → H} {W : World} {fuel : Nat} {ao : Option Addr} {len cap : Nat} {x : DataW H × List MemPlace} (hf : DataW.trod enc Try.prog W 0 (fun _ => true) true fuel 24 [.slice ao len cap] = some x) :
    ∃ (b off : Nat) (l : Nat → OpV), RdO W ao b off len l ∧ len ≤ maxLen ∧ len ≤ cap ∧ (ao = none → cap = 0) := by
  rcases Go.Deep.open_slice Try.underlying24 hf with ⟨hcs, hx⟩ | ⟨a, len', cap', m, n, D, Pl, hcs, _, hl, hm, hmm, hx, hcell⟩
  · simp at hcs
    obtain ⟨rfl, rfl, rfl⟩ := hcs
    exact ⟨0, 0, fun _ => ⟨0, 0, ⟨#[]⟩, ⟨#[]⟩, 0, 0, none, 0, 0, 0, []⟩, ⟨fun h => absurd h (Nat.lt_irrefl 0), fun j hj => absurd hj (Nat.not_lt_zero j)⟩, Nat.zero_le _, Nat.le_refl _, fun _ => rfl⟩
  · simp at hcs
    obtain ⟨rfl, rfl, rfl⟩ := hcs
    simp only [if_true] at hmm
    have each : ∀ i, i < len → ∃ o : OpV, W.cell? (a.add (i * 7 + 0)) = some (.int .i64 o.kind) ∧ W.cell? (a.add (i * 7 + 1)) = some (.int .i64 o.which) ∧ W.cell? (a.add (i * 7 + 2)) = some (.string o.name) ∧ W.cell? (a.add (i * 7 + 3)) = some (.string o.data) ∧ W.cell? (a.add (i * 7 + 4)) = some (.int .i64 o.at_) ∧ W.cell? (a.add (i * 7 + 5)) = some (.int .i64 o.n) ∧ W.cell? (a.add (i * 7 + 6)) = some (.slice o.ka o.keep.length o.kc) ∧ OpOk W o := fun i hi => by
      obtain ⟨cs', h1, h2⟩ := hcell i (by omega)
      rw [rowCellsO] at h1
      obtain ⟨_, hlen, hc⟩ := World.cells?_some h1
      obtain ⟨o, rfl, ho⟩ := openOp hlen h2
      have q := fun t (ht : t < 7) => hc t ht
      simp only [Go.Deep.add_add] at q
      exact ⟨o, by simpa using q 0 (by decide), by simpa using q 1 (by decide), by simpa using q 2 (by decide), by simpa using q 3 (by decide), by simpa using q 4 (by decide), by simpa using q 5 (by decide), by simpa using q 6 (by decide), ho⟩
    obtain ⟨l, hL⟩ := Go.Deep.choose_lt each
    by_cases h0 : len = 0
    · subst h0
      exact ⟨0, 0, l, ⟨fun h => absurd h (Nat.lt_irrefl 0), fun j hj => absurd hj (Nat.not_lt_zero j)⟩, Nat.zero_le _, hl, fun h => by cases h⟩
    · obtain ⟨b, off, spot⟩ := a
      have hspot : spot = none := by simpa [Addr.add] using World.cell?_spot (hL 0 (by omega)).1
      subst hspot
      refine ⟨b, off, l, ⟨fun _ => rfl, fun j hj => ?_⟩, Nat.le_trans hl hm, hl, fun h => by cases h⟩
      have := hL j hj
      simp only [Addr.add_mid] at this
      exact this
end Go.Proofs.Ytmhedhhbdpdafab
/-
  The laws' inputs, opened: files. Own work.
-/
namespace Go.Proofs.Ytmhedhhbdpdafab
open Go.RowKit Go.ChangeShapes Go.WideShapes
theorem rowCellsFi : Try.prog.cellsOf 52 = 2 := by kernel_rfl
set_option maxRecDepth 100000 in
theorem openFi {H : Type} {enc : TypeId × Value → H} {W : World} {fuel : Nat} {cs : List Value} {x : DataW H × List MemPlace} (hl : cs.length = 2) (hf : DataW.trod enc Try.prog W 0 (fun _ => true) true fuel 52 cs = some x) :
    ∃ o : List UInt8 × List UInt8, cs = [.string ⟨o.1.toArray⟩, .string ⟨o.2.toArray⟩] ∧ o.1.length ≤ maxLen ∧ o.2.length ≤ maxLen := by
  obtain ⟨xs, k, hk, hxy, _, hxl, hg⟩ := DataW.trod_struct Try.underlying52 hf
  match xs, hxl, cs, hl with
  | [y0, y1], _, [v0, v1], _ =>
    have g0 := hg 0 _ rfl
    have g1 := hg 1 _ rfl
    simp [rowCellsS] at g0 g1
    obtain ⟨z0, e0, f0, w0⟩ := DataW.trod_string Try.underlying9 g0
    obtain ⟨z1, e1, f1, w1⟩ := DataW.trod_string Try.underlying9 g1
    simp only [List.cons.injEq, and_true] at e0 e1
    subst e0 e1
    exact ⟨(z0.data.toList, z1.data.toList), rfl, by rw [size_list]; exact w0, by rw [size_list]; exact w1⟩
/-- A list of files. -/
theorem sliceRdFi {H : Type} {enc : TypeId × Value → H} {W : World} {fuel : Nat} {ao : Option Addr} {len cap : Nat} {x : DataW H × List MemPlace} (hf : DataW.trod enc Try.prog W 0 (fun _ => true) true fuel 23 [.slice ao len cap] = some x) :
    ∃ (b off : Nat) (l : List (List UInt8 × List UInt8)), l.length = len ∧ RdF W ao b off l ∧ (∀ y ∈ l, y.1.length ≤ maxLen ∧ y.2.length ≤ maxLen) ∧ len ≤ maxLen ∧ len ≤ cap ∧ (ao = none → cap = 0) := by
  rcases Go.Deep.open_slice Try.underlying23 hf with ⟨hcs, hx⟩ | ⟨a, len', cap', m, n, D, Pl, hcs, _, hl, hm, hmm, hx, hcell⟩
  · simp at hcs
    obtain ⟨rfl, rfl, rfl⟩ := hcs
    exact ⟨0, 0, [], rfl, ⟨fun h => absurd h (Nat.lt_irrefl 0), fun j hj => absurd hj (Nat.not_lt_zero j), fun j hj => absurd hj (Nat.not_lt_zero j)⟩, by simp, Nat.zero_le _, Nat.le_refl _, fun _ => rfl⟩
  · simp at hcs
    obtain ⟨rfl, rfl, rfl⟩ := hcs
    simp only [if_true] at hmm
    have each : ∀ i, i < len → ∃ o : List UInt8 × List UInt8, W.cell? (a.add (i * 2 + 0)) = some (.string ⟨o.1.toArray⟩) ∧ W.cell? (a.add (i * 2 + 1)) = some (.string ⟨o.2.toArray⟩) ∧ o.1.length ≤ maxLen ∧ o.2.length ≤ maxLen := fun i hi => by
      obtain ⟨cs', h1, h2⟩ := hcell i (by omega)
      rw [rowCellsFi] at h1
      obtain ⟨_, hlen, hc⟩ := World.cells?_some h1
      obtain ⟨o, rfl, ho1, ho2⟩ := openFi hlen h2
      have q := fun t (ht : t < 2) => hc t ht
      simp only [Go.Deep.add_add] at q
      exact ⟨o, by simpa using q 0 (by decide), by simpa using q 1 (by decide), ho1, ho2⟩
    obtain ⟨l, hL⟩ := Go.Deep.choose_lt each
    have hlen : ((List.range len).map l).length = len := by simp
    by_cases h0 : len = 0
    · subst h0
      exact ⟨0, 0, [], rfl, ⟨fun h => absurd h (Nat.lt_irrefl 0), fun j hj => absurd hj (Nat.not_lt_zero j), fun j hj => absurd hj (Nat.not_lt_zero j)⟩, by simp, Nat.zero_le _, hl, fun h => by cases h⟩
    · obtain ⟨b, off, spot⟩ := a
      have hspot : spot = none := by simpa [Addr.add] using World.cell?_spot (hL 0 (by omega)).1
      subst hspot
      have hg : ∀ j, j < len → ((List.range len).map l).getD j ([], []) = l j := fun j hj => by simp [List.getD_eq_getElem?_getD, hj]
      refine ⟨b, off, (List.range len).map l, hlen, ⟨fun _ => rfl, fun j hj => ?_, fun j hj => ?_⟩, fun y hy => ?_, Nat.le_trans hl hm, hl, fun h => by cases h⟩
      · rw [hlen] at hj
        have := (hL j hj).1
        simp only [Addr.add_mid, Nat.add_zero] at this
        rw [hg j hj]; exact this
      · rw [hlen] at hj
        have := (hL j hj).2.1
        simp only [Addr.add_mid] at this
        rw [hg j hj, Nat.add_assoc]; exact this
      · obtain ⟨i, hi, rfl⟩ := List.mem_map.1 hy
        exact (hL i (List.mem_range.1 hi)).2.2
end Go.Proofs.Ytmhedhhbdpdafab
/-
  DiskPlays' inputs, opened; how much they may be. Own work.
-/
namespace Go.Proofs.Ytmhedhhbdpdafab
open Go.RowKit Go.ChangeShapes Go.WideShapes
theorem bk_one {H : Type} (d : DataW H) : 1 ≤ Rows.uptoBulk d := by
  cases d with
  | lit l => cases l <;> simp [Rows.uptoBulk]
  | nil => simp [Rows.uptoBulk]
  | ptr d => simp [Rows.uptoBulk]
  | slice elems spare => simp [Rows.uptoBulk]
  | agg parts => simp [Rows.uptoBulk]
  | iface t d => simp [Rows.uptoBulk]
  | map entries => simp [Rows.uptoBulk]
  | held h => simp [Rows.uptoBulk]
theorem bk_part {H : Type} {d : DataW H} {l : List (DataW H)} (h : d ∈ l) : Rows.uptoBulk d ≤ Rows.uptoBulkAll l := by
  induction l with
  | nil => cases h
  | cons x r ih =>
    simp only [Rows.uptoBulkAll]
    rcases List.mem_cons.1 h with rfl | e
    · omega
    · have := ih e; omega
theorem bk_app {H : Type} (l r : List (DataW H)) : Rows.uptoBulkAll (l ++ r) = Rows.uptoBulkAll l + Rows.uptoBulkAll r := by
  induction l with
  | nil => simp [Rows.uptoBulkAll]
  | cons x l ih => simp only [List.cons_append, Rows.uptoBulkAll, ih]; omega
theorem bk_len {H : Type} (l : List (DataW H)) : l.length ≤ Rows.uptoBulkAll l := by
  induction l with
  | nil => simp [Rows.uptoBulkAll]
  | cons x r ih => have := bk_one x; simp only [Rows.uptoBulkAll, List.length_cons]; omega
/-- A slice is no longer than its bulk. -/
theorem bk_slice {H : Type} {enc : TypeId × Value → H} {W : World} {fuel : Nat} {t e : TypeId} {ao : Option Addr} {n cap : Nat} {x : DataW H × List MemPlace} (ht : Try.prog.underlying t = some (.slice e)) (hf : DataW.trod enc Try.prog W 0 (fun _ => true) true fuel t [.slice ao n cap] = some x) : n ≤ Rows.uptoBulk x.1 := by
  rcases Go.Deep.open_slice ht hf with ⟨hcs, hx⟩ | ⟨a, len', cap', m, n', D, Pl, hcs, _, hl, hm, hmm, hx, hcell⟩
  · simp at hcs
    omega
  · simp at hcs
    obtain ⟨_, rfl, _⟩ := hcs
    have := bk_len (H := H) ((List.range n).map D)
    rw [hx]
    simp only [Rows.uptoBulk]
    simp only [List.length_map, List.length_range] at this
    omega
theorem bk_string {H : Type} (s : ByteArray) : s.size + 1 = Rows.uptoBulk (DataW.lit (H := H) (.string s.data.toList)) := by
  simp only [Rows.uptoBulk]
  rw [Array.length_toList]; rfl
set_option maxRecDepth 100000 in
theorem openOpz {H : Type} {enc : TypeId × Value → H} {W : World} {fuel : Nat} {cs : List Value} {x : DataW H × List MemPlace} (hl : cs.length = 7) (hf : DataW.trod enc Try.prog W 0 (fun _ => true) true fuel 38 cs = some x) (hb : Rows.uptoBulk x.1 ≤ 1048576) :
    ∃ o : OpV, cs = [.int .i64 o.kind, .int .i64 o.which, .string o.name, .string o.data, .int .i64 o.at_, .int .i64 o.n, .slice o.ka o.keep.length o.kc] ∧ OpOz W o := by
  obtain ⟨xs, k, hk, hxy, _, hxl, hg⟩ := DataW.trod_struct Try.underlying38 hf
  match xs, hxl, cs, hl with
  | [y0, y1, y2, y3, y4, y5, y6], _, [v0, v1, v2, v3, v4, v5, v6], _ =>
    have g0 := hg 0 _ rfl
    have g1 := hg 1 _ rfl
    have g2 := hg 2 _ rfl
    have g3 := hg 3 _ rfl
    have g4 := hg 4 _ rfl
    have g5 := hg 5 _ rfl
    have g6 := hg 6 _ rfl
    simp [rowCellsI, rowCellsS, rowCellsL] at g0 g1 g2 g3 g4 g5 g6
    obtain ⟨z0, e0, f0, _⟩ := DataW.trod_int Try.underlying3 g0
    obtain ⟨z1, e1, f1, _⟩ := DataW.trod_int Try.underlying3 g1
    obtain ⟨z2, e2, f2, w2⟩ := DataW.trod_string Try.underlying9 g2
    obtain ⟨z3, e3, f3, _⟩ := DataW.trod_string Try.underlying9 g3
    obtain ⟨z4, e4, f4, w4⟩ := DataW.trod_int Try.underlying3 g4
    obtain ⟨z5, e5, f5, w5⟩ := DataW.trod_int Try.underlying3 g5
    simp only [List.cons.injEq, and_true] at e0 e1 e2 e3 e4 e5
    subst e0 e1 e2 e3 e4 e5
    have b4 := bounds_i64 w4
    have b5 := bounds_i64 w5
    obtain ⟨ao, b, off, cap, ks, rfl, h1, h2, h3, h4⟩ := openL g6
    have q6 := bk_slice Try.underlying36 g6
    have q3 := bk_string (H := H) z3
    have q : Rows.uptoBulk y3.1 + Rows.uptoBulk y6.1 ≤ Rows.uptoBulk x.1 := by
      rw [hxy]
      simp only [List.map_cons, List.map_nil, Rows.uptoBulk, Rows.uptoBulkAll]
      omega
    rw [f3] at q
    simp only at q
    exact ⟨⟨z0, z1, z2, z3, z4, z5, ao, cap, b, off, ks⟩, rfl, ⟨⟨w2, by simp only; omega, by simp only; omega, by simp only; omega, by simp only; omega, h1, by simp only; unfold maxLen at h2; omega⟩, by simp only; omega, by simp only; omega, h4⟩⟩
theorem sliceRdZ {H : Type} {enc : TypeId × Value → H} {W : World} {fuel : Nat} {ao : Option Addr} {len cap : Nat} {x : DataW H × List MemPlace} (hf : DataW.trod enc Try.prog W 0 (fun _ => true) true fuel 24 [.slice ao len cap] = some x) (hb : Rows.uptoBulk x.1 ≤ 1048576) :
    ∃ (b off : Nat) (l : Nat → OpV), RdZ W ao b off len l ∧ len ≤ maxLen := by
  rcases Go.Deep.open_slice Try.underlying24 hf with ⟨hcs, hx⟩ | ⟨a, len', cap', m, n, D, Pl, hcs, _, hl, hm, hmm, hx, hcell⟩
  · simp at hcs
    obtain ⟨rfl, rfl, rfl⟩ := hcs
    exact ⟨0, 0, fun _ => ⟨0, 0, ⟨#[]⟩, ⟨#[]⟩, 0, 0, none, 0, 0, 0, []⟩, ⟨⟨fun h => absurd h (Nat.lt_irrefl 0), fun j hj => absurd hj (Nat.not_lt_zero j)⟩, fun j hj => absurd hj (Nat.not_lt_zero j)⟩, Nat.zero_le _⟩
  · simp at hcs
    obtain ⟨rfl, rfl, rfl⟩ := hcs
    simp only [if_true] at hmm
    have each : ∀ i, i < len → ∃ o : OpV, (W.cell? (a.add (i * 7 + 0)) = some (.int .i64 o.kind) ∧ W.cell? (a.add (i * 7 + 1)) = some (.int .i64 o.which) ∧ W.cell? (a.add (i * 7 + 2)) = some (.string o.name) ∧ W.cell? (a.add (i * 7 + 3)) = some (.string o.data) ∧ W.cell? (a.add (i * 7 + 4)) = some (.int .i64 o.at_) ∧ W.cell? (a.add (i * 7 + 5)) = some (.int .i64 o.n) ∧ W.cell? (a.add (i * 7 + 6)) = some (.slice o.ka o.keep.length o.kc) ∧ OpOk W o) ∧ OpOz W o := fun i hi => by
      obtain ⟨cs', h1, h2⟩ := hcell i (by omega)
      rw [rowCellsO] at h1
      obtain ⟨_, hlen, hc⟩ := World.cells?_some h1
      have hq : Rows.uptoBulk (D i) ≤ 1048576 := by
        have h3 : Rows.uptoBulk (D i) ≤ Rows.uptoBulkAll ((List.range len).map D) := bk_part (List.mem_map.2 ⟨i, List.mem_range.2 hi, rfl⟩)
        rw [hx] at hb
        simp only [Rows.uptoBulk] at hb
        omega
      obtain ⟨o, rfl, ho⟩ := openOpz hlen h2 hq
      have q := fun t (ht : t < 7) => hc t ht
      simp only [Go.Deep.add_add] at q
      exact ⟨o, ⟨by simpa using q 0 (by decide), by simpa using q 1 (by decide), by simpa using q 2 (by decide), by simpa using q 3 (by decide), by simpa using q 4 (by decide), by simpa using q 5 (by decide), by simpa using q 6 (by decide), ho.ok⟩, ho⟩
    obtain ⟨l, hL⟩ := Go.Deep.choose_lt each
    by_cases h0 : len = 0
    · subst h0
      exact ⟨0, 0, l, ⟨⟨fun h => absurd h (Nat.lt_irrefl 0), fun j hj => absurd hj (Nat.not_lt_zero j)⟩, fun j hj => absurd hj (Nat.not_lt_zero j)⟩, Nat.zero_le _⟩
    · obtain ⟨b, off, spot⟩ := a
      have hspot : spot = none := by simpa [Addr.add] using World.cell?_spot (hL 0 (by omega)).1.1
      subst hspot
      refine ⟨b, off, l, ⟨⟨fun _ => rfl, fun j hj => ?_⟩, fun j hj => (hL j hj).2⟩, Nat.le_trans hl hm⟩
      have := (hL j hj).1
      simp only [Addr.add_mid] at this
      exact this
theorem byt_bk {H : Type} (f : Nat → List UInt8 × List UInt8) (D : Nat → DataW H) : ∀ n, (∀ i, i < n → (f i).2.length ≤ Rows.uptoBulk (D i)) → byt ((List.range n).map f) ≤ Rows.uptoBulkAll ((List.range n).map D)
  | 0, _ => by simp [byt, Rows.uptoBulkAll]
  | n + 1, h => by
    have h1 := byt_bk f D n fun i hi => h i (by omega)
    have h2 := h n (by omega)
    rw [List.range_succ, List.map_append, List.map_append, bk_app]
    simp only [List.map_cons, List.map_nil, Rows.uptoBulkAll]
    rw [byt_snoc]
    omega
set_option maxRecDepth 100000 in
theorem openFiz {H : Type} {enc : TypeId × Value → H} {W : World} {fuel : Nat} {cs : List Value} {x : DataW H × List MemPlace} (hl : cs.length = 2) (hf : DataW.trod enc Try.prog W 0 (fun _ => true) true fuel 52 cs = some x) :
    ∃ o : List UInt8 × List UInt8, cs = [.string ⟨o.1.toArray⟩, .string ⟨o.2.toArray⟩] ∧ o.1.length ≤ maxLen ∧ o.2.length ≤ Rows.uptoBulk x.1 := by
  obtain ⟨xs, k, hk, hxy, _, hxl, hg⟩ := DataW.trod_struct Try.underlying52 hf
  match xs, hxl, cs, hl with
  | [y0, y1], _, [v0, v1], _ =>
    have g0 := hg 0 _ rfl
    have g1 := hg 1 _ rfl
    simp [rowCellsS] at g0 g1
    obtain ⟨z0, e0, f0, w0⟩ := DataW.trod_string Try.underlying9 g0
    obtain ⟨z1, e1, f1, w1⟩ := DataW.trod_string Try.underlying9 g1
    simp only [List.cons.injEq, and_true] at e0 e1
    subst e0 e1
    have q1 := bk_string (H := H) z1
    have q : Rows.uptoBulk y1.1 ≤ Rows.uptoBulk x.1 := by
      rw [hxy]
      simp only [List.map_cons, List.map_nil, Rows.uptoBulk, Rows.uptoBulkAll]
      omega
    rw [f1] at q
    simp only at q
    exact ⟨(z0.data.toList, z1.data.toList), rfl, by rw [size_list]; exact w0, by rw [size_list]; omega⟩
/-- A list of files, small. -/
theorem sliceRdFz {H : Type} {enc : TypeId × Value → H} {W : World} {fuel : Nat} {ao : Option Addr} {len cap : Nat} {x : DataW H × List MemPlace} (hf : DataW.trod enc Try.prog W 0 (fun _ => true) true fuel 23 [.slice ao len cap] = some x) (hb : Rows.uptoBulk x.1 ≤ 1048576) :
    ∃ (b off : Nat) (l : List (List UInt8 × List UInt8)), l.length = len ∧ RdF W ao b off l ∧ (∀ y ∈ l, y.1.length ≤ maxLen) ∧ len ≤ 1048576 ∧ byt l ≤ 1048576 ∧ (ao = none → cap = 0) := by
  have hlb := bk_slice Try.underlying23 hf
  rcases Go.Deep.open_slice Try.underlying23 hf with ⟨hcs, hx⟩ | ⟨a, len', cap', m, n, D, Pl, hcs, _, hl, hm, hmm, hx, hcell⟩
  · simp at hcs
    obtain ⟨rfl, rfl, rfl⟩ := hcs
    exact ⟨0, 0, [], rfl, ⟨fun h => absurd h (Nat.lt_irrefl 0), fun j hj => absurd hj (Nat.not_lt_zero j), fun j hj => absurd hj (Nat.not_lt_zero j)⟩, by simp, Nat.zero_le _, by simp [byt], fun _ => rfl⟩
  · simp at hcs
    obtain ⟨rfl, rfl, rfl⟩ := hcs
    simp only [if_true] at hmm
    have each : ∀ i, i < len → ∃ o : List UInt8 × List UInt8, W.cell? (a.add (i * 2 + 0)) = some (.string ⟨o.1.toArray⟩) ∧ W.cell? (a.add (i * 2 + 1)) = some (.string ⟨o.2.toArray⟩) ∧ o.1.length ≤ maxLen ∧ o.2.length ≤ Rows.uptoBulk (D i) := fun i hi => by
      obtain ⟨cs', h1, h2⟩ := hcell i (by omega)
      rw [rowCellsFi] at h1
      obtain ⟨_, hlen, hc⟩ := World.cells?_some h1
      obtain ⟨o, rfl, ho1, ho2⟩ := openFiz hlen h2
      have q := fun t (ht : t < 2) => hc t ht
      simp only [Go.Deep.add_add] at q
      exact ⟨o, by simpa using q 0 (by decide), by simpa using q 1 (by decide), ho1, ho2⟩
    obtain ⟨l, hL⟩ := Go.Deep.choose_lt each
    have hlen : ((List.range len).map l).length = len := by simp
    have hby := byt_bk l D len fun i hi => (hL i hi).2.2.2
    have hby2 : byt ((List.range len).map l) ≤ 1048576 := by
      rw [hx] at hb
      simp only [Rows.uptoBulk] at hb
      omega
    by_cases h0 : len = 0
    · subst h0
      exact ⟨0, 0, [], rfl, ⟨fun h => absurd h (Nat.lt_irrefl 0), fun j hj => absurd hj (Nat.not_lt_zero j), fun j hj => absurd hj (Nat.not_lt_zero j)⟩, by simp, Nat.zero_le _, by simp [byt], fun h => by cases h⟩
    · obtain ⟨b, off, spot⟩ := a
      have hspot : spot = none := by simpa [Addr.add] using World.cell?_spot (hL 0 (by omega)).1
      subst hspot
      have hg : ∀ j, j < len → ((List.range len).map l).getD j ([], []) = l j := fun j hj => by simp [List.getD_eq_getElem?_getD, hj]
      refine ⟨b, off, (List.range len).map l, hlen, ⟨fun _ => rfl, fun j hj => ?_, fun j hj => ?_⟩, fun y hy => ?_, by omega, hby2, fun h => by cases h⟩
      · rw [hlen] at hj
        have := (hL j hj).1
        simp only [Addr.add_mid, Nat.add_zero] at this
        rw [hg j hj]; exact this
      · rw [hlen] at hj
        have := (hL j hj).2.1
        simp only [Addr.add_mid] at this
        rw [hg j hj, Nat.add_assoc]; exact this
      · obtain ⟨i, hi, rfl⟩ := List.mem_map.1 hy
        exact (hL i (List.mem_range.1 hi)).2.2.1
end Go.Proofs.Ytmhedhhbdpdafab
