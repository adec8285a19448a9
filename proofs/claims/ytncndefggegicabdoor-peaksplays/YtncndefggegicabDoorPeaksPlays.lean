/-
  PeaksPlays: the row. Own work.
-/
import Derived.Test.YtncndefggegicabDoorRows
import Derived.Test.YtncndefggegicabDoorCards
import Derived.Test.YtncndefggegicabDoorTie
import Derived.Deep.DeepHandedRow
import Derived.Lib.LaidTab
import Derived.Stop.LaidErr
import Derived.Test.YtncndefggegicabDoorKPp
import Derived.WalkKit
import Derived.ProofKit
import Derived.OpenShut
import Derived.Below
import Derived.ChangeSame
import Derived.SizedLaws
import Derived.ChangeMaps5
import Derived.Deep.Slices
import Derived.Carry
import Derived.SliceStrings
import Derived.Carry
namespace Go.Proofs.YtncndefggegicabDoor.peaksPlays
open Go.ChangeShapes Go.WideShapes Go.ChangeAt Go.RowKit
theorem own : ownKnob Tryd.prog.godebug = none := by kernel_rfl
theorem laidOut : laidOutB Tryd.prog = true := by kernel_rfl
theorem cellsZ1 : Tryd.prog.cellsOf 3 = 1 := by kernel_rfl
def ivz : Value → Int
  | .int _ z => z
  | _ => 0
theorem cellsO5 : Tryd.prog.cellsOf 34 = 5 := by kernel_rfl
theorem cellsOS : Tryd.prog.cellsOf 9 = 1 := by kernel_rfl
theorem cellsOB : Tryd.prog.cellsOf 4 = 1 := by kernel_rfl
theorem weightsAll_memO {H : Type} {P : Program} {t : TypeId} {d : DataW H} {y : Nat} : ∀ {ds : List (DataW H)}, d ∈ ds → y ∈ DataW.weights P t d → y ∈ DataW.weightsAll P t ds
  | [], h, _ => by cases h
  | x :: r, h, hy => by
    simp only [DataW.weightsAll, List.mem_append]
    rcases List.mem_cons.1 h with rfl | h
    · exact .inl hy
    · exact .inr (weightsAll_memO h hy)
set_option maxRecDepth 100000 in
theorem openOp {H : Type} {enc : TypeId × Value → H} {W : World} {fuel : Nat} {cs : List Value} {x : DataW H × List MemPlace} (hl : cs.length = 5) (hf : DataW.trod enc Tryd.prog W 0 (fun _ => true) true fuel 34 cs = some x) (hw : ∀ y ∈ DataW.weights Tryd.prog 34 x.1, y ≤ reachBytes) :
    ∃ o : OpV, cs = [.int .i64 o.kind, .int .i64 o.which, .int .i64 o.h, .string o.s, .bool o.r] ∧ o.s.size ≤ 140737488351232 := by
  obtain ⟨xs, k, hk, hxy, _, hxl, hg⟩ := DataW.trod_struct Tryd.underlying34 hf
  match xs, hxl, cs, hl with
  | [y0, y1, y2, y3, y4], _, [v0, v1, v2, v3, v4], _ =>
    have g0 := hg 0 _ rfl
    have g1 := hg 1 _ rfl
    have g2 := hg 2 _ rfl
    have g3 := hg 3 _ rfl
    have g4 := hg 4 _ rfl
    simp [cellsZ1, cellsOS, cellsOB] at g0 g1 g2 g3 g4
    obtain ⟨z0, e0, f0, _⟩ := DataW.trod_int Tryd.underlying3 g0
    obtain ⟨z1, e1, f1, _⟩ := DataW.trod_int Tryd.underlying3 g1
    obtain ⟨z2, e2, f2, _⟩ := DataW.trod_int Tryd.underlying3 g2
    obtain ⟨z3, e3, f3, _⟩ := DataW.trod_string Tryd.underlying9 g3
    obtain ⟨z4, e4, f4⟩ := DataW.trod_bool Tryd.underlying4 g4
    simp only [List.cons.injEq, and_true] at e0 e1 e2 e3 e4
    subst e0 e1 e2 e3 e4
    refine ⟨⟨z0, z1, z2, z3, z4⟩, rfl, ?_⟩
    rw [hxy] at hw
    refine hw z3.size ?_
    subst f3
    simp [DataW.weights, DataW.weightsEach, Tryd.underlying34, Array.length_toList]
theorem sliceRdO {H : Type} {enc : TypeId × Value → H} {W : World} {fuel : Nat} {ao : Option Addr} {len cap : Nat} {x : DataW H × List MemPlace} {ts : List TypeId} {ds : List (DataW H)} {j : Nat} (hf : DataW.trod enc Tryd.prog W 0 (fun _ => true) true fuel 26 [.slice ao len cap] = some x)
    (hz : (DataW.weightsEach Tryd.prog ts ds).all (· ≤ reachBytes) = true) (hj : ts[j]? = some 26) (hd : ds[j]? = some x.1) :
    ∃ (b off : Nat) (l : Nat → OpV), RdO W ao b off len l ∧ len ≤ maxLen ∧ len ≤ cap ∧ (ao = none → cap = 0) := by
  rcases Go.Deep.open_slice Tryd.underlying26 hf with ⟨hcs, hx⟩ | ⟨a, len', cap', m, n, D, Pl, hcs, _, hl, hm, hmm, hx, hcell⟩
  · simp at hcs
    obtain ⟨rfl, rfl, rfl⟩ := hcs
    exact ⟨0, 0, fun _ => default, ⟨fun h => absurd h (Nat.lt_irrefl 0), fun j hj => absurd hj (Nat.not_lt_zero j)⟩, Nat.zero_le _, Nat.le_refl _, fun _ => rfl⟩
  · simp at hcs
    obtain ⟨rfl, rfl, rfl⟩ := hcs
    simp only [if_true] at hmm
    have hz2 := List.all_eq_true.1 hz
    have hall : ∀ y ∈ DataW.weights Tryd.prog 26 x.1, y ≤ reachBytes := fun y hy => of_decide_eq_true (hz2 y (DataW.weights_mem_each hj hd y hy))
    rw [hx] at hall
    have each : ∀ i, i < len → ∃ o : OpV, W.cell? (a.add (i * 5 + 0)) = some (.int .i64 o.kind) ∧ W.cell? (a.add (i * 5 + 1)) = some (.int .i64 o.which) ∧ W.cell? (a.add (i * 5 + 2)) = some (.int .i64 o.h) ∧ W.cell? (a.add (i * 5 + 3)) = some (.string o.s) ∧ W.cell? (a.add (i * 5 + 4)) = some (.bool o.r) ∧ o.s.size ≤ 140737488351232 := fun i hi => by
      obtain ⟨cs', h1, h2⟩ := hcell i (by omega)
      rw [cellsO5] at h1
      obtain ⟨_, hlen, hc⟩ := World.cells?_some h1
      obtain ⟨o, rfl, ho⟩ := openOp hlen h2 (fun y hy => hall y (by
        simp only [DataW.weights, Tryd.underlying26, List.mem_cons, List.mem_append]
        exact Or.inr (Or.inl (weightsAll_memO (List.mem_map.2 ⟨i, List.mem_range.2 hi, rfl⟩) hy))))
      have q := fun t (ht : t < 5) => hc t ht
      simp only [Go.Deep.add_add] at q
      exact ⟨o, by simpa using q 0 (by decide), by simpa using q 1 (by decide), by simpa using q 2 (by decide), by simpa using q 3 (by decide), by simpa using q 4 (by decide), ho⟩
    obtain ⟨l, hL⟩ := Go.Deep.choose_lt each
    by_cases h0 : len = 0
    · subst h0
      exact ⟨0, 0, fun _ => default, ⟨fun h => absurd h (Nat.lt_irrefl 0), fun j hj => absurd hj (Nat.not_lt_zero j)⟩, Nat.zero_le _, hl, fun h => by cases h⟩
    · obtain ⟨b, off, spot⟩ := a
      have hspot : spot = none := by simpa [Addr.add] using World.cell?_spot (hL 0 (by omega)).1
      subst hspot
      refine ⟨b, off, l, ⟨fun _ => rfl, fun j hj => ?_⟩, Nat.le_trans hl hm, hl, fun h => by cases h⟩
      have := hL j hj
      simp only [Addr.add_mid] at this
      exact this
theorem cellsBg : Tryd.prog.cellsOf 25 = 4 := by kernel_rfl
theorem cellsS1 : Tryd.prog.cellsOf 9 = 1 := by kernel_rfl
theorem cellsBb : Tryd.prog.cellsOf 4 = 1 := by kernel_rfl
theorem cellsBu : Tryd.prog.cellsOf 22 = 1 := by kernel_rfl
theorem cellsBs : Tryd.prog.cellsOf 23 = 1 := by kernel_rfl
theorem bytesBs : Tryd.prog.bytesOf 9 = 16 := by kernel_rfl
theorem weights_strB {H : Type} (l : List ByteArray) (s : ByteArray) (hs : s ∈ l) : s.size ∈ DataW.weightsAll Tryd.prog 9 (strs (H := H) l) := by
  induction l with
  | nil => cases hs
  | cons x r ih =>
    simp only [strs, List.map_cons, DataW.weightsAll, DataW.weights, List.mem_append, List.mem_singleton]
    rcases List.mem_cons.1 hs with rfl | h
    · left; rw [Array.length_toList]; rfl
    · right; exact ih h
theorem sliceBg {H : Type} {enc : TypeId × Value → H} {W : World} {fuel : Nat} {v : Value} {x : DataW H × List MemPlace} (hf : DataW.trod enc Tryd.prog W 0 (fun _ => true) true fuel 23 [v] = some x) (hw : ∀ y ∈ DataW.weights Tryd.prog 23 x.1, y ≤ reachBytes) :
    ∃ (ao : Option Addr) (b off len cap : Nat) (ss : List ByteArray), v = .slice ao len cap ∧ RdS W ao b off len ss ∧ (∀ s ∈ ss, s.size ≤ 140737488351232) ∧ len ≤ 8796093021952 ∧ (ao = none → cap = 0) := by
  rcases open_strings Tryd.underlying23 Tryd.underlying9 cellsS1 hf with ⟨hcs, hx⟩ | ⟨a, len, cap, ss, hcs, _, hl, hm, hzl, hx, hcell, hws⟩
  · simp at hcs
    subst hcs
    exact ⟨none, 0, 0, 0, 0, [], rfl, ⟨rfl, fun h => absurd h (Nat.lt_irrefl 0), (fun j v h => by cases h), (fun s h => by cases h)⟩, (fun s h => by cases h), Nat.zero_le _, fun _ => rfl⟩
  · simp at hcs
    subst hcs
    simp only [if_true] at hzl
    rw [hx] at hw
    have hcap : cap ≤ 8796093021952 := by
      have h2 := hw _ (by simp only [DataW.weights, Tryd.underlying23]; exact List.mem_cons_self)
      simp only [strs, List.length_map, List.length_take, List.length_drop, bytesBs] at h2
      unfold reachBytes at h2
      omega
    have hsz : ∀ s ∈ ss.take len, s.size ≤ 140737488351232 := fun s hs =>
      hw s.size (by simp only [DataW.weights, Tryd.underlying23, List.mem_cons, List.mem_append]; exact Or.inr (Or.inl (weights_strB _ s hs)))
    by_cases h0 : len = 0
    · subst h0
      exact ⟨some a, 0, 0, 0, cap, [], rfl, ⟨rfl, fun h => absurd h (Nat.lt_irrefl 0), (fun j v h => by cases h), (fun s h => by cases h)⟩, (fun s h => by cases h), Nat.zero_le _, fun h => by cases h⟩
    · obtain ⟨b, off, spot⟩ := a
      have hspot : spot = none := by simpa [Addr.add] using World.cell?_spot (hcell 0 (by omega))
      subst hspot
      refine ⟨some ⟨b, off, none⟩, b, off, len, cap, ss.take len, rfl, ⟨by rw [List.length_take]; omega, fun _ => rfl, fun j v hv => ?_, fun s hs => Nat.le_trans (hsz s hs) (by decide)⟩, hsz, by omega, fun h => by cases h⟩
      have hj : j < len := by have := (List.getElem?_eq_some_iff.1 hv).1; rw [List.length_map, List.length_take] at this; omega
      have hc := hcell j (by omega)
      rw [Addr.add_mid] at hc
      rw [hc, ← hv]
      simp [hj, List.getD_eq_getElem?_getD, List.getElem?_eq_getElem (show j < ss.length by omega)]
set_option maxRecDepth 100000 in
theorem openBg {H : Type} {enc : TypeId × Value → H} {W : World} {fuel : Nat} {cs : List Value} {x : DataW H × List MemPlace} (hl : cs.length = 4) (hf : DataW.trod enc Tryd.prog W 0 (fun _ => true) true fuel 25 cs = some x) (hw : ∀ y ∈ DataW.weights Tryd.prog 25 x.1, y ≤ reachBytes) :
    ∃ (k : Int) (f : Bool) (a : Int) (ao : Option Addr) (b off len cap : Nat) (ss : List ByteArray), cs = [.int .i64 k, .bool f, .int .u64 a, .slice ao len cap] ∧ (Lit.int .u64 a).wf = true ∧ RdS W ao b off len ss ∧ (∀ s ∈ ss, s.size ≤ 140737488351232) ∧ len ≤ 8796093021952 ∧ (ao = none → cap = 0) := by
  obtain ⟨xs, k, hk, hxy, _, hxl, hg⟩ := DataW.trod_struct Tryd.underlying25 hf
  match xs, hxl, cs, hl with
  | [y0, y1, y2, y3], _, [v0, v1, v2, v3], _ =>
    have g0 := hg 0 _ rfl
    have g1 := hg 1 _ rfl
    have g2 := hg 2 _ rfl
    have g3 := hg 3 _ rfl
    simp [cellsZ1, cellsBb, cellsBu, cellsBs] at g0 g1 g2 g3
    obtain ⟨z0, e0, f0, _⟩ := DataW.trod_int Tryd.underlying3 g0
    obtain ⟨z1, e1, f1⟩ := DataW.trod_bool Tryd.underlying4 g1
    obtain ⟨z2, e2, f2, wf2⟩ := DataW.trod_int Tryd.underlying22 g2
    simp only [List.cons.injEq, and_true] at e0 e1 e2
    subst e0 e1 e2
    rw [hxy] at hw
    obtain ⟨ao, b, off, len, cap, ss, rfl, h1, h2, h3, h4⟩ := sliceBg g3 (fun y hy => hw y (by
      simp only [DataW.weights, Tryd.underlying25, List.map_cons, List.map_nil, DataW.weightsEach, List.mem_append]
      exact Or.inr (Or.inr (Or.inr (Or.inl hy)))))
    exact ⟨z0, z1, z2, ao, b, off, len, cap, ss, rfl, wf2, h1, h2, h3, h4⟩
theorem cellsT95 : Tryd.prog.cellsOf 95 = 64 := by kernel_rfl
theorem cellsT86 : Tryd.prog.cellsOf 86 = 8 := by kernel_rfl
theorem cellsT85 : Tryd.prog.cellsOf 85 = 1 := by kernel_rfl
theorem range_tab {W : World} {name : String} {l : List Int} {g : Nat} (h : Lib.TabIs Tryd.prog W name .u32 l) (hg : Tryd.prog.globalNamed name = some g) : W.rangeAt g 0 (cW l) := fun j v hv => by
  have hj : j < l.length := by have := (List.getElem?_eq_some_iff.1 hv).1; rwa [cW_len] at this
  have hc := h.cell hg j hj
  rw [Nat.zero_add, hc, ← hv]
  simp [cW, List.getD_eq_getElem?_getD, List.getElem?_eq_getElem hj]
theorem gn0 : Tryd.prog.globalNamed "massif/massifref01.first" = some 0 := by kernel_rfl
theorem gt0 : (Tryd.prog.globals[0]?).map (·.type) = some 86 := by kernel_rfl
theorem tab0 {W : World} (h0 : laidMetH Tryd.prog Rows.peaksPlaysRow.laid W) : W.rangeAt 0 0 (cW IV) := by
  exact range_tab (Lib.tabIs_of_head (zs := IV) gn0 gt0 Tryd.underlying86 Tryd.underlying85 cellsT85 cellsT86 h0) gn0
theorem gn1 : Tryd.prog.globalNamed "massif/massifref01.rounds" = some 1 := by kernel_rfl
theorem gt1 : (Tryd.prog.globals[1]?).map (·.type) = some 95 := by kernel_rfl
theorem tab1 {W : World} (h0 : laidMetH Tryd.prog Rows.peaksPlaysRow.laid W) : W.rangeAt 1 0 (cW RS) := by
  have h1 : laidMet Tryd.prog [("massif/massifref01.rounds", Rows.laid_massif_massifref01_rounds), ("massif/sha.rounds", Rows.laid_massif_sha_rounds)] W := laidMet.tail (h0 : laidMet Tryd.prog Rows.peaksPlaysRow.laid W)
  exact range_tab (Lib.tabIs_of_head (zs := RS) gn1 gt1 Tryd.underlying95 Tryd.underlying85 cellsT85 cellsT95 h1) gn1
theorem gn2 : Tryd.prog.globalNamed "massif/sha.rounds" = some 2 := by kernel_rfl
theorem gt2 : (Tryd.prog.globals[2]?).map (·.type) = some 95 := by kernel_rfl
theorem tab2 {W : World} (h0 : laidMetH Tryd.prog Rows.peaksPlaysRow.laid W) : W.rangeAt 2 0 (cW RS) := by
  have h1 : laidMet Tryd.prog [("massif/massifref01.rounds", Rows.laid_massif_massifref01_rounds), ("massif/sha.rounds", Rows.laid_massif_sha_rounds)] W := laidMet.tail (h0 : laidMet Tryd.prog Rows.peaksPlaysRow.laid W)
  have h2 : laidMet Tryd.prog [("massif/sha.rounds", Rows.laid_massif_sha_rounds)] W := laidMet.tail h1
  exact range_tab (Lib.tabIs_of_head (zs := RS) gn2 gt2 Tryd.underlying95 Tryd.underlying85 cellsT85 cellsT95 h2) gn2
def layTab (l : List Int) : Obj → Obj
  | .cells _ t frozen => .cells (cW l).toArray t frozen
  | o => o
def withTabs (w : World) : World := { w with heap := (((w.heap.modify 0 (layTab IV)).modify 1 (layTab RS)).modify 2 (layTab RS)) }
theorem laid_met (os : Os) : laidMet Tryd.prog Rows.peaksPlaysRow.laid ((withTabs (World.holding Tryd.prog os ⟨#[], #[], []⟩)).forCall (fun _ _ => 0) ⟨#[], #[.agg #[.int .i64 0, .bool false, .int .u64 0, .slice none 0 0], .agg #[.int .i64 0, .bool false, .int .u64 0, .slice none 0 0], .slice none 0 0], []⟩).memory :=
  laidMet_of_run' 8 (by kernel_rfl) (by kernel_rfl)
theorem reads (os : Os) {H : Type} (enc : TypeId × Value → H) : ∃ places, DataW.whole enc Tryd.prog ((withTabs (World.holding Tryd.prog os ⟨#[], #[], []⟩)).forCall (fun _ _ => 0) ⟨#[], #[.agg #[.int .i64 0, .bool false, .int .u64 0, .slice none 0 0], .agg #[.int .i64 0, .bool false, .int .u64 0, .slice none 0 0], .slice none 0 0], []⟩).memory Tryd.f3.params.toList Rows.peaksPlaysSpec.vars false (#[.agg #[.int .i64 0, .bool false, .int .u64 0, .slice none 0 0], .agg #[.int .i64 0, .bool false, .int .u64 0, .slice none 0 0], .slice none 0 0] : Array Value).toList 8 = some ([.agg [.lit (.int .i64 0), .lit (.bool false), .lit (.int .u64 0), .nil], .agg [.lit (.int .i64 0), .lit (.bool false), .lit (.int .u64 0), .nil], .nil], [], places) :=
  ⟨[], by kernel_rfl⟩
set_option maxRecDepth 100000 in
theorem lifted (os : Os) (started : os.Started) (H : Type) (enc : TypeId × Value → H) (F : Stop.Interp) :
    ReturnsInHanded {} Tryd.checked os 3 .any ((OpenSpec.ofChange Rows.peaksPlaysSpec).preRow enc Tryd.prog Tryd.f3 Rows.peaksPlaysRow.domain false Rows.peaksPlaysRow.laid) (((OpenSpec.ofChange Rows.peaksPlaysSpec).at F).post enc Tryd.prog Tryd.f3 false true false false) := by
  obtain ⟨places, hx⟩ := reads os enc
  refine returnsInHanded_of_row (C := Tryd.checked) (s := OpenSpec.ofChange Rows.peaksPlaysSpec) own started (by kernel_rfl) Tryd.func3
    (witness_row_at (enc := enc) (C := Tryd.checked) false (withTabs (World.holding Tryd.prog os ⟨#[], #[], []⟩)) #[.agg #[.int .i64 0, .bool false, .int .u64 0, .slice none 0 0], .agg #[.int .i64 0, .bool false, .int .u64 0, .slice none 0 0], .slice none 0 0] rfl (by kernel_rfl) (by kernel_rfl) (by kernel_rfl)
      (OpenSpec.preRow_of_cond 8 hx (by kernel_rfl) (fun k hk => by cases hk) (by kernel_rfl) (laid_met os))) ?_
  intro W base args ds gs before hval0 hW0 _ _ hz0 hL _ _
  show Calls Tryd.prog 3 args W fun e W' => ∃ v, e = .returned v ∧ Rows.peaksPlaysSpec.post enc Tryd.prog Tryd.f3 false true false false W args v W'
  have hW : DataW.Whole enc Tryd.prog Tryd.f3.params.toList Rows.peaksPlaysSpec.vars false W args.toList ds gs before := hW0
  have hval : ∀ (j : Nat) t v, Tryd.f3.params[j]? = some t → args[j]? = some v → Value.okWide Tryd.prog W .any base t v := hval0
  have hW' := hW
  obtain ⟨p, q, hA0, hV, rfl, hfz, hnd⟩ := hW
  have hA : DataW.TrodAll enc Tryd.prog W 0 (fun _ => true) true Tryd.f3.params.toList args.toList ds p := hA0
  rw [Tryd.params3] at hA hval
  obtain ⟨v0, vs0, d0, ds0, p0, q0, hargs, rfl, rfl, h0, r0⟩ := trodAll_cons hA
  obtain ⟨v1, vs1, d1, ds1, p1, q1, rfl, rfl, rfl, h1, r1⟩ := trodAll_cons r0
  obtain ⟨v2, vs2, d2, ds2, p2, q2, rfl, rfl, rfl, h2, r2⟩ := trodAll_cons r1
  obtain ⟨rfl, rfl, rfl⟩ := trodAll_nil r2
  obtain rfl : args = #[v0, v1, v2] := by cases args; simp_all
  obtain ⟨rfl, rfl⟩ := trodVars_none hV
  have hz : (DataW.weightsEach Tryd.prog [25, 25, 26] [d0, d1, d2]).all (· ≤ reachBytes) = true := hz0
  clear hz0
  obtain ⟨cs0, rfl, hsz0⟩ := okWide_struct Tryd.underlying25 (hval 0 25 v0 rfl rfl)
  rw [cellsBg] at hsz0
  have hk0 := h0
  obtain ⟨fuel0, hf0⟩ := h0
  obtain ⟨k0, f0, a0, A0, b0, o0, n0, c0, l0, hcs0, w0, rd0, hs0, hm0, hn0⟩ := openBg (cs := cs0.toList) (by simpa using hsz0) (by simpa [Value.cells] using hf0) (fun y hy => of_decide_eq_true (List.all_eq_true.1 hz y (DataW.weights_mem_each (j := 0) rfl rfl y hy)))
  obtain rfl : cs0 = #[.int .i64 k0, .bool f0, .int .u64 a0, .slice A0 n0 c0] := by cases cs0; simp_all
  obtain ⟨cs1, rfl, hsz1⟩ := okWide_struct Tryd.underlying25 (hval 1 25 v1 rfl rfl)
  rw [cellsBg] at hsz1
  have hk1 := h1
  obtain ⟨fuel1, hf1⟩ := h1
  obtain ⟨k1, f1, a1, A1, b1, o1, n1, c1, l1, hcs1, w1, rd1, hs1, hm1, hn1⟩ := openBg (cs := cs1.toList) (by simpa using hsz1) (by simpa [Value.cells] using hf1) (fun y hy => of_decide_eq_true (List.all_eq_true.1 hz y (DataW.weights_mem_each (j := 1) rfl rfl y hy)))
  obtain rfl : cs1 = #[.int .i64 k1, .bool f1, .int .u64 a1, .slice A1 n1 c1] := by cases cs1; simp_all
  obtain ⟨A2, n2, c2, rfl⟩ := okWide_slice Tryd.underlying26 (hval 2 26 v2 rfl rfl)
  have hk2 := h2
  obtain ⟨fuel2, hf2⟩ := h2
  obtain ⟨b2, o2, l2, rd2, hm2, hc2, hn2⟩ := sliceRdO (j := 2) (by simpa [Value.cells] using hf2) hz rfl rfl
  clear hA0 hval0
  simp only [List.append_nil] at hW'
  have hlt0 : ∀ x ∈ p0, x.block < W.heap.size := fun x hx => by simpa using hW'.lt x (by simp [hx])
  have hlt1 : ∀ x ∈ p1, x.block < W.heap.size := fun x hx => by simpa using hW'.lt x (by simp [hx])
  have hlt2 : ∀ x ∈ p2, x.block < W.heap.size := fun x hx => by simpa using hW'.lt x (by simp [hx])
  have HT : Tb W := ⟨tab2 hL⟩
  have HR : Tr W := ⟨tab1 hL, tab0 hL⟩
  refine (pplays_row W HT HR k0 f0 a0 w0 A0 b0 o0 n0 c0 l0 rd0 hs0 hm0 hn0 k1 f1 a1 w1 A1 b1 o1 n1 c1 l1 rd1 hs1 hm1 hn1 A2 b2 o2 n2 c2 l2 rd2).mono fun e W' ⟨he, hb⟩ => ?_
  subst he
  have hsh := trodAll_cons_mk (Below.trod laidOut (by kernel_rfl) (of_decide_eq_true (by kernel_rfl)) hk0 hb hlt0) (trodAll_cons_mk (Below.trod laidOut (by kernel_rfl) (of_decide_eq_true (by kernel_rfl)) hk1 hb hlt1) (trodAll_cons_mk (Below.trod laidOut (by kernel_rfl) (of_decide_eq_true (by kernel_rfl)) hk2 hb hlt2) trodAll_mk0))
  simp only [List.append_nil] at hsh
  exact ⟨_, rfl, _, _, _, [], p0 ++ (p1 ++ (p2)), [], hW', trodAll_cons_mk (shut_bool Tryd.underlying4 _) trodAll_mk0, hsh, rfl, hb.frame _, fun h => by cases h⟩
theorem said : Rows.PeaksPlaysSaid :=
  OpenClaim.holds_of_cond 3 Tryd.f3 rfl rfl rfl rfl rfl rfl rfl ⟨rfl, rfl, rfl, rfl, rfl⟩ rfl rfl rfl rfl rfl (by kernel_rfl) Tryd.func3 (by kernel_rfl)
    (of_decide_eq_true (by kernel_rfl)) (by unfold Func.isWrapper; first | (rw [if_pos (by decide +kernel)]; kernel_rfl) | (rw [if_neg (by decide +kernel)]; exact ⟨rfl, rfl⟩))
    (fun os started H enc _ F => by rw [OpenClaim.pre_eq_preRow]; exact lifted os started H enc F)
theorem plain (f : FuncId) (fn : Func) (hf : Tryd.pinned.checked.prog.funcNamed "massif/massiflaw09.PeaksPlays" = some f) (hfn : Tryd.pinned.checked.prog.funcs[f]? = some fn) :
    false = Tryd.pinned.checked.prog.looks [] ∧ ∀ (j : Nat) t, fn.params[j]? = some t → Tryd.pinned.checked.prog.wantsStandIn t = false := by
  obtain rfl : f = 3 := Option.some.inj ((show Tryd.prog.funcNamed "massif/massiflaw09.PeaksPlays" = some 3 by kernel_rfl).symm.trans hf) |>.symm
  obtain rfl : fn = Tryd.f3 := (Option.some.inj (Tryd.func3.symm.trans hfn)).symm
  refine ⟨by kernel_rfl, fun j t ht => ?_⟩
  rw [Tryd.params3] at ht
  have hj : j < 3 := by have := (Array.getElem?_eq_some_iff.1 ht).1; simpa using this
  match j, hj, ht with
  | 0, _, ht => have e : some 25 = some t := ht; cases e; exact (show Tryd.prog.wantsStandIn 25 = false by kernel_rfl)
  | 1, _, ht => have e : some 25 = some t := ht; cases e; exact (show Tryd.prog.wantsStandIn 25 = false by kernel_rfl)
  | 2, _, ht => have e : some 26 = some t := ht; cases e; exact (show Tryd.prog.wantsStandIn 26 = false by kernel_rfl)
theorem card : Rows.PeaksPlaysCardSaid :=
  Claim7.holds_tied_plain_at .later [] _ _ _ _ said (fun _ h => by cases h) (by kernel_rfl) (fun _ h => by cases h) peaksPlays_row_tie rfl ⟨rfl, rfl⟩ (by kernel_rfl) rfl plain (by kernel_rfl)
end Go.Proofs.YtncndefggegicabDoor.peaksPlays
namespace Go.Proofs.YtncndefggegicabDoor
theorem peaksPlays_holds : Rows.PeaksPlaysCardSaid := peaksPlays.card
#print axioms peaksPlays_holds
end Go.Proofs.YtncndefggegicabDoor
