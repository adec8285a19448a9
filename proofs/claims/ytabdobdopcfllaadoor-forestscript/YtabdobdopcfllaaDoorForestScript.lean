/-
  ForestScript: the row. Own work.
-/
import Derived.Test.YtabdobdopcfllaaDoorRows
import Derived.Test.YtabdobdopcfllaaDoorCards
import Derived.Test.YtabdobdopcfllaaDoorTie
import Derived.Deep.DeepHandedRow
import Derived.Lib.LaidTab
import Derived.Stop.LaidErr
import Derived.Laws.IdiomArrays
import Derived.Test.YtabdobdopcfllaaDoorFScrG
import Derived.WalkKit
import Derived.ProofKit
import Derived.OpenShut
import Derived.Below
import Derived.ChangeSame
import Derived.SizedLaws
import Derived.ChangeMaps5
import Derived.Deep.SlicePairs
import Derived.Carry
namespace Go.Proofs.YtabdobdopcfllaaDoor.forestScript
open Go.ChangeShapes Go.WideShapes Go.ChangeAt Go.RowKit
theorem own : ownKnob Tryd.prog.godebug = none := by kernel_rfl
theorem cellsA2i : Tryd.prog.cellsOf 66 = 2 := by kernel_rfl
theorem cellsAI : Tryd.prog.cellsOf 3 = 1 := by kernel_rfl
theorem twoCellsI {cs : Array Value} (h : cs.size = 2) : ∃ x y, cs = #[x, y] := by
  obtain ⟨l⟩ := cs
  match l, h with
  | [x, y], _ => exact ⟨x, y, rfl⟩
theorem openA2i {H : Type} {enc : TypeId × Value → H} {W : World} {sp : Nat → Bool} {fuel : Nat} {x y : Value} {z : DataW H × List MemPlace} (h : DataW.trod enc Tryd.prog W 0 sp true fuel 66 [x, y] = some z) :
    ∃ s t : Int, x = .int .i64 s ∧ y = .int .i64 t ∧ z = (.agg [.lit (.int .i64 s), .lit (.int .i64 t)], []) ∧ (Lit.int .i64 s).wf = true ∧ (Lit.int .i64 t).wf = true := by
  obtain ⟨xs, m, _, rfl, _, hl, hf⟩ := DataW.trod_array Tryd.underlying66 h
  have h0 := hf 0 (by decide)
  have h1 := hf 1 (by decide)
  simp [cellsAI] at h0 h1
  match xs, hl with
  | [z0, z1], _ =>
    simp at h0 h1
    obtain ⟨s, e0, rfl, w0⟩ := DataW.trod_int Tryd.underlying3 h0
    obtain ⟨t, e1, rfl, w1⟩ := DataW.trod_int Tryd.underlying3 h1
    simp at e0 e1
    exact ⟨s, t, e0, e1, rfl, w0, w1⟩
theorem shutA2i {H : Type} (enc : TypeId × Value → H) (W' : World) (sp : Nat → Bool) (s t : Int) (hs : (Lit.int .i64 s).wf = true) (ht : (Lit.int .i64 t).wf = true) : DataW.Trod enc Tryd.prog W' 0 sp true 66 (.agg #[.int .i64 s, .int .i64 t]) (.agg [.lit (.int .i64 s), .lit (.int .i64 t)]) [] := ⟨2, by
  have r2 : List.range 2 = [0, 1] := rfl
  simp [DataW.trod, Value.cells, Tryd.underlying66, Tryd.underlying3, cellsA2i, cellsAI, r2, hs, ht]⟩
theorem laidOut : laidOutB Tryd.prog = true := by kernel_rfl
theorem cellsO5 : Tryd.prog.cellsOf 74 = 5 := by kernel_rfl
theorem cellsOI : Tryd.prog.cellsOf 3 = 1 := by kernel_rfl
theorem cellsOU : Tryd.prog.cellsOf 34 = 1 := by kernel_rfl
theorem cellsOS : Tryd.prog.cellsOf 9 = 1 := by kernel_rfl
theorem cellsOL : Tryd.prog.cellsOf 58 = 1 := by kernel_rfl
theorem cellsB2 : Tryd.prog.cellsOf 49 = 2 := by kernel_rfl
theorem bytesB2 : Tryd.prog.bytesOf 49 = 16 := by kernel_rfl
theorem weightsAll_memO {H : Type} {P : Program} {t : TypeId} {d : DataW H} {y : Nat} : ∀ {ds : List (DataW H)}, d ∈ ds → y ∈ DataW.weights P t d → y ∈ DataW.weightsAll P t ds
  | [], h, _ => by cases h
  | x :: r, h, hy => by
    simp only [DataW.weightsAll, List.mem_append]
    rcases List.mem_cons.1 h with rfl | h
    · exact .inl hy
    · exact .inr (weightsAll_memO h hy)
def ivo : Value → Int
  | .int _ z => z
  | _ => 0
theorem sliceBk {H : Type} {enc : TypeId × Value → H} {W : World} {fuel : Nat} {v : Value} {x : DataW H × List MemPlace} (hf : DataW.trod enc Tryd.prog W 0 (fun _ => true) true fuel 58 [v] = some x) (hw : ∀ y ∈ DataW.weights Tryd.prog 58 x.1, y ≤ reachBytes) :
    ∃ (ao : Option Addr) (b off cap : Nat) (l : List (Int × Nat)), v = .slice ao l.length cap ∧ RdB W ao b off l.length l ∧ l.length ≤ 8796093021952 ∧ (ao = none → cap = 0) := by
  rcases Go.Deep.open_slice_pairs Tryd.underlying58 Tryd.underlying49 cellsB2 rfl rfl cellsOI cellsOU hf with ⟨hcs, hx⟩ | ⟨a, len, cap, m, n, V0, V1, D0, D1, P0, P1, hcs, _, hl, hm, hmm, hx, hcell⟩
  · simp at hcs
    subst hcs
    exact ⟨none, 0, 0, 0, [], rfl, ⟨rfl, fun h => absurd h (Nat.lt_irrefl 0), fun j hj => absurd hj (Nat.not_lt_zero j), fun b h => by cases h⟩, Nat.zero_le _, fun _ => rfl⟩
  · simp at hcs
    subst hcs
    simp only [if_true] at hmm
    rw [hx] at hw
    have hcap : cap ≤ 8796093021952 := by
      have h2 := hw _ (by simp only [DataW.weights, Tryd.underlying58]; exact List.mem_cons_self)
      simp only [List.length_map, List.length_range, bytesB2] at h2
      unfold reachBytes at h2
      omega
    by_cases h0 : len = 0
    · subst h0
      exact ⟨some a, 0, 0, cap, [], rfl, ⟨rfl, fun h => absurd h (Nat.lt_irrefl 0), fun j hj => absurd hj (Nat.not_lt_zero j), fun b h => by cases h⟩, Nat.zero_le _, fun h => by cases h⟩
    · obtain ⟨b, off, spot⟩ := a
      have hspot : spot = none := by simpa [Addr.add] using World.cell?_spot (hcell 0 (by omega)).1
      subst hspot
      have hv : ∀ j, j < len → V0 j = .int .i64 (ivo (V0 j)) ∧ V1 j = .int .u64 ((ivo (V1 j)).toNat : Int) ∧ Fitb (ivo (V0 j)) (ivo (V1 j)).toNat := fun j hj => by
        obtain ⟨_, _, h3, h4⟩ := hcell j (by omega)
        obtain ⟨z0, e0, _, w0⟩ := DataW.trod_int Tryd.underlying3 h3
        obtain ⟨z1, e1, _, w1⟩ := DataW.trod_int Tryd.underlying34 h4
        simp only [List.cons.injEq, and_true] at e0 e1
        have b0 := bounds_i64 w0
        have b1 := bounds_u64 w1
        rw [e0, e1]
        refine ⟨rfl, ?_, ⟨b0, ?_⟩⟩
        · show Value.int .u64 z1 = .int .u64 ((z1.toNat : Nat) : Int)
          rw [Int.toNat_of_nonneg b1.1]
        · show z1.toNat < _
          omega
      have hg : ∀ j, j < len → ((List.range len).map fun i => (ivo (V0 i), (ivo (V1 i)).toNat)).getD j (0, 0) = (ivo (V0 j), (ivo (V1 j)).toNat) := fun j hj => by
        simp [List.getD_eq_getElem?_getD, hj]
      have hlen : ((List.range len).map fun i => (ivo (V0 i), (ivo (V1 i)).toNat)).length = len := by simp
      refine ⟨some ⟨b, off, none⟩, b, off, cap, (List.range len).map fun i => (ivo (V0 i), (ivo (V1 i)).toNat), by rw [hlen], ?_, by rw [hlen]; omega, fun h => by cases h⟩
      rw [hlen]
      refine ⟨hlen, fun _ => rfl, fun j hj => ?_, fun x hx => ?_⟩
      · obtain ⟨h1, h2, _, _⟩ := hcell j (by omega)
        obtain ⟨e0, e1, _⟩ := hv j hj
        rw [Addr.add_mid, e0] at h1
        rw [Addr.add_mid, e1, ← Nat.add_assoc] at h2
        rw [hg j hj]
        exact ⟨h1, h2⟩
      · obtain ⟨i, hi, rfl⟩ := List.mem_map.1 hx
        exact (hv i (List.mem_range.1 hi)).2.2
set_option maxRecDepth 100000 in
theorem openOp {H : Type} {enc : TypeId × Value → H} {W : World} {fuel : Nat} {cs : List Value} {x : DataW H × List MemPlace} (hl : cs.length = 5) (hf : DataW.trod enc Tryd.prog W 0 (fun _ => true) true fuel 74 cs = some x) (hw : ∀ y ∈ DataW.weights Tryd.prog 74 x.1, y ≤ reachBytes) :
    ∃ o : OpV, cs = [.int .i64 o.kind, .int .i64 o.at', .string o.s, .int .u64 (o.n : Int), .slice o.ao o.Bs.length o.cap] ∧ OpOk W o := by
  obtain ⟨xs, k, hk, hxy, _, hxl, hg⟩ := DataW.trod_struct Tryd.underlying74 hf
  match xs, hxl, cs, hl with
  | [y0, y1, y2, y3, y4], _, [v0, v1, v2, v3, v4], _ =>
    have g0 := hg 0 _ rfl
    have g1 := hg 1 _ rfl
    have g2 := hg 2 _ rfl
    have g3 := hg 3 _ rfl
    have g4 := hg 4 _ rfl
    simp [cellsOI, cellsOS, cellsOU, cellsOL] at g0 g1 g2 g3 g4
    obtain ⟨z0, e0, f0, _⟩ := DataW.trod_int Tryd.underlying3 g0
    obtain ⟨z1, e1, f1, _⟩ := DataW.trod_int Tryd.underlying3 g1
    obtain ⟨z2, e2, f2, _⟩ := DataW.trod_string Tryd.underlying9 g2
    obtain ⟨z3, e3, f3, w3⟩ := DataW.trod_int Tryd.underlying34 g3
    simp only [List.cons.injEq, and_true] at e0 e1 e2 e3
    subst e0 e1 e2 e3
    have b3 := bounds_u64 w3
    rw [hxy] at hw
    obtain ⟨ao, b, off, cap, l, rfl, h1, h2, h3⟩ := sliceBk g4 (fun y hy => hw y (by
      simp only [DataW.weights, Tryd.underlying74, List.map_cons, List.map_nil, DataW.weightsEach, List.mem_append]
      exact Or.inr (Or.inr (Or.inr (Or.inr (Or.inl hy))))))
    refine ⟨⟨z0, z1, z2, z3.toNat, ao, b, off, cap, l⟩, ?_, ⟨h1, h2, h3⟩⟩
    show [_, _, _, Value.int .u64 z3, _] = [_, _, _, Value.int .u64 ((z3.toNat : Nat) : Int), _]
    rw [Int.toNat_of_nonneg b3.1]
theorem sliceRdO {H : Type} {enc : TypeId × Value → H} {W : World} {fuel : Nat} {ao : Option Addr} {len cap : Nat} {x : DataW H × List MemPlace} {ts : List TypeId} {ds : List (DataW H)} {j : Nat} (hf : DataW.trod enc Tryd.prog W 0 (fun _ => true) true fuel 67 [.slice ao len cap] = some x)
    (hz : (DataW.weightsEach Tryd.prog ts ds).all (· ≤ reachBytes) = true) (hj : ts[j]? = some 67) (hd : ds[j]? = some x.1) :
    ∃ (b off : Nat) (l : Nat → OpV), RdO W ao b off len l ∧ len ≤ maxLen ∧ len ≤ cap ∧ (ao = none → cap = 0) := by
  rcases Go.Deep.open_slice Tryd.underlying67 hf with ⟨hcs, hx⟩ | ⟨a, len', cap', m, n, D, Pl, hcs, _, hl, hm, hmm, hx, hcell⟩
  · simp at hcs
    obtain ⟨rfl, rfl, rfl⟩ := hcs
    exact ⟨0, 0, fun _ => default, ⟨fun h => absurd h (Nat.lt_irrefl 0), fun j hj => absurd hj (Nat.not_lt_zero j)⟩, Nat.zero_le _, Nat.le_refl _, fun _ => rfl⟩
  · simp at hcs
    obtain ⟨rfl, rfl, rfl⟩ := hcs
    simp only [if_true] at hmm
    have hz2 := List.all_eq_true.1 hz
    have hall : ∀ y ∈ DataW.weights Tryd.prog 67 x.1, y ≤ reachBytes := fun y hy => of_decide_eq_true (hz2 y (DataW.weights_mem_each hj hd y hy))
    rw [hx] at hall
    have each : ∀ i, i < len → ∃ o : OpV, W.cell? (a.add (i * 5 + 0)) = some (.int .i64 o.kind) ∧ W.cell? (a.add (i * 5 + 1)) = some (.int .i64 o.at') ∧ W.cell? (a.add (i * 5 + 2)) = some (.string o.s) ∧ W.cell? (a.add (i * 5 + 3)) = some (.int .u64 (o.n : Int)) ∧ W.cell? (a.add (i * 5 + 4)) = some (.slice o.ao o.Bs.length o.cap) ∧ OpOk W o := fun i hi => by
      obtain ⟨cs', h1, h2⟩ := hcell i (by omega)
      rw [cellsO5] at h1
      obtain ⟨_, hlen, hc⟩ := World.cells?_some h1
      obtain ⟨o, rfl, ho⟩ := openOp hlen h2 (fun y hy => hall y (by
        simp only [DataW.weights, Tryd.underlying67, List.mem_cons, List.mem_append]
        exact Or.inr (Or.inl (weightsAll_memO (List.mem_map.2 ⟨i, List.mem_range.2 hi, rfl⟩) hy))))
      have q := fun t (ht : t < 5) => hc t ht
      simp only [Go.Deep.add_add] at q
      exact ⟨o, by simpa using q 0 (by decide), by simpa using q 1 (by decide), by simpa using q 2 (by decide), by simpa using q 3 (by decide), by simpa using q 4 (by decide), ho⟩
    obtain ⟨l, hL⟩ := Go.Deep.choose_lt each
    by_cases h0 : len = 0
    · subst h0
      exact ⟨0, 0, fun _ => default, ⟨fun h => absurd h (Nat.lt_irrefl 0), fun j hj => absurd hj (Nat.not_lt_zero j)⟩, Nat.zero_le _, hl, fun h => by cases h⟩
    · obtain ⟨b, off, spot⟩ := a
      have hspot : spot = none := by simpa [Addr.add] using World.cell?_spot (hL 0 (by omega)).1
      subst hspot
      refine ⟨b, off, l, ⟨fun _ => rfl, fun j hj => ?_⟩, Nat.le_trans hl hm, hl, fun h => by cases h⟩
      have := hL j hj
      simp only [Addr.add_mid] at this
      exact this
theorem cellsT128 : Tryd.prog.cellsOf 128 = 64 := by kernel_rfl
theorem cellsT119 : Tryd.prog.cellsOf 119 = 8 := by kernel_rfl
theorem cellsT118 : Tryd.prog.cellsOf 118 = 1 := by kernel_rfl
theorem range_tab {W : World} {name : String} {l : List Int} {g : Nat} (h : Lib.TabIs Tryd.prog W name .u32 l) (hg : Tryd.prog.globalNamed name = some g) : W.rangeAt g 0 (cW l) := fun j v hv => by
  have hj : j < l.length := by have := (List.getElem?_eq_some_iff.1 hv).1; rwa [cW_len] at this
  have hc := h.cell hg j hj
  rw [Nat.zero_add, hc, ← hv]
  simp [cW, List.getD_eq_getElem?_getD, List.getElem?_eq_getElem hj]
theorem gn0 : Tryd.prog.globalNamed "massif/massifref01.first" = some 1 := by kernel_rfl
theorem gt0 : (Tryd.prog.globals[1]?).map (·.type) = some 119 := by kernel_rfl
theorem tab0 {W : World} (h0 : laidMetH Tryd.prog Rows.forestScriptRow.laid W) : W.rangeAt 1 0 (cW IV) := by
  exact range_tab (Lib.tabIs_of_head (zs := IV) gn0 gt0 Tryd.underlying119 Tryd.underlying118 cellsT118 cellsT119 h0) gn0
theorem gn1 : Tryd.prog.globalNamed "massif/massifref01.rounds" = some 2 := by kernel_rfl
theorem gt1 : (Tryd.prog.globals[2]?).map (·.type) = some 128 := by kernel_rfl
theorem tab1 {W : World} (h0 : laidMetH Tryd.prog Rows.forestScriptRow.laid W) : W.rangeAt 2 0 (cW RS) := by
  have h1 : laidMet Tryd.prog [("massif/massifref01.rounds", Rows.laid_massif_massifref01_rounds), ("massif/sha.rounds", Rows.laid_massif_sha_rounds)] W := laidMet.tail (h0 : laidMet Tryd.prog Rows.forestScriptRow.laid W)
  exact range_tab (Lib.tabIs_of_head (zs := RS) gn1 gt1 Tryd.underlying128 Tryd.underlying118 cellsT118 cellsT128 h1) gn1
theorem gn2 : Tryd.prog.globalNamed "massif/sha.rounds" = some 0 := by kernel_rfl
theorem gt2 : (Tryd.prog.globals[0]?).map (·.type) = some 128 := by kernel_rfl
theorem tab2 {W : World} (h0 : laidMetH Tryd.prog Rows.forestScriptRow.laid W) : W.rangeAt 0 0 (cW RS) := by
  have h1 : laidMet Tryd.prog [("massif/massifref01.rounds", Rows.laid_massif_massifref01_rounds), ("massif/sha.rounds", Rows.laid_massif_sha_rounds)] W := laidMet.tail (h0 : laidMet Tryd.prog Rows.forestScriptRow.laid W)
  have h2 : laidMet Tryd.prog [("massif/sha.rounds", Rows.laid_massif_sha_rounds)] W := laidMet.tail h1
  exact range_tab (Lib.tabIs_of_head (zs := RS) gn2 gt2 Tryd.underlying128 Tryd.underlying118 cellsT118 cellsT128 h2) gn2
def layTab (l : List Int) : Obj → Obj
  | .cells _ t frozen => .cells (cW l).toArray t frozen
  | o => o
def withTabs (w : World) : World := { w with heap := (((w.heap.modify 1 (layTab IV)).modify 2 (layTab RS)).modify 0 (layTab RS)) }
theorem laid_met (os : Os) : laidMet Tryd.prog Rows.forestScriptRow.laid ((withTabs (World.holding Tryd.prog os ⟨#[], #[], []⟩)).forCall (fun _ _ => 0) ⟨#[], #[.agg #[.int .i64 0, .int .i64 0], .slice none 0 0], []⟩).memory :=
  laidMet_of_run' 8 (by kernel_rfl) (by kernel_rfl)
theorem reads (os : Os) {H : Type} (enc : TypeId × Value → H) : ∃ places, DataW.whole enc Tryd.prog ((withTabs (World.holding Tryd.prog os ⟨#[], #[], []⟩)).forCall (fun _ _ => 0) ⟨#[], #[.agg #[.int .i64 0, .int .i64 0], .slice none 0 0], []⟩).memory Tryd.f7.params.toList Rows.forestScriptSpec.vars false (#[.agg #[.int .i64 0, .int .i64 0], .slice none 0 0] : Array Value).toList 8 = some ([.agg [.lit (.int .i64 0), .lit (.int .i64 0)], .nil], [], places) :=
  ⟨[], by kernel_rfl⟩
set_option maxRecDepth 100000 in
theorem lifted (os : Os) (started : os.Started) (H : Type) (enc : TypeId × Value → H) (F : Stop.Interp) :
    ReturnsInHanded {} Tryd.checked os 7 .any ((OpenSpec.ofChange Rows.forestScriptSpec).preRow enc Tryd.prog Tryd.f7 Rows.forestScriptRow.domain false Rows.forestScriptRow.laid) (((OpenSpec.ofChange Rows.forestScriptSpec).at F).post enc Tryd.prog Tryd.f7 false true false false) := by
  obtain ⟨places, hx⟩ := reads os enc
  refine returnsInHanded_of_row (C := Tryd.checked) (s := OpenSpec.ofChange Rows.forestScriptSpec) own started (by kernel_rfl) Tryd.func7
    (witness_row_at (enc := enc) (C := Tryd.checked) false (withTabs (World.holding Tryd.prog os ⟨#[], #[], []⟩)) #[.agg #[.int .i64 0, .int .i64 0], .slice none 0 0] rfl (by kernel_rfl) (by kernel_rfl) (by kernel_rfl)
      (OpenSpec.preRow_of_cond 8 hx (by kernel_rfl) (fun k hk => by cases hk) (by kernel_rfl) (laid_met os))) ?_
  intro W base args ds gs before hval0 hW0 _ _ hz0 hL _ _
  show Calls Tryd.prog 7 args W fun e W' => ∃ v, e = .returned v ∧ Rows.forestScriptSpec.post enc Tryd.prog Tryd.f7 false true false false W args v W'
  have hW : DataW.Whole enc Tryd.prog Tryd.f7.params.toList Rows.forestScriptSpec.vars false W args.toList ds gs before := hW0
  have hval : ∀ (j : Nat) t v, Tryd.f7.params[j]? = some t → args[j]? = some v → Value.okWide Tryd.prog W .any base t v := hval0
  have hW' := hW
  obtain ⟨p, q, hA0, hV, rfl, hfz, hnd⟩ := hW
  have hA : DataW.TrodAll enc Tryd.prog W 0 (fun _ => true) true Tryd.f7.params.toList args.toList ds p := hA0
  rw [Tryd.params7] at hA hval
  obtain ⟨v0, vs0, d0, ds0, p0, q0, hargs, rfl, rfl, h0, r0⟩ := trodAll_cons hA
  obtain ⟨v1, vs1, d1, ds1, p1, q1, rfl, rfl, rfl, h1, r1⟩ := trodAll_cons r0
  obtain ⟨rfl, rfl, rfl⟩ := trodAll_nil r1
  obtain rfl : args = #[v0, v1] := by cases args; simp_all
  obtain ⟨rfl, rfl⟩ := trodVars_none hV
  have hz : (DataW.weightsEach Tryd.prog [66, 67] [d0, d1]).all (· ≤ reachBytes) = true := hz0
  clear hz0
  obtain ⟨cs0, rfl, hsz0, _⟩ : ∃ cs, v0 = .agg cs ∧ cs.size = Tryd.prog.cellsOf 66 ∧ Row.okWide Tryd.prog W .any base 66 cs := by
    have := hval 0 66 v0 rfl rfl
    simpa [Value.okWide, Tryd.underlying66] using this
  rw [cellsA2i] at hsz0
  obtain ⟨x0, y0, rfl⟩ := twoCellsI hsz0
  obtain ⟨fuel0, hf0⟩ := h0
  obtain ⟨s0, t0, rfl, rfl, hx0, ws0, wt0⟩ := openA2i hf0
  simp only [Prod.mk.injEq] at hx0
  obtain ⟨rfl, rfl⟩ := hx0
  obtain ⟨A1, n1, c1, rfl⟩ := okWide_slice Tryd.underlying67 (hval 1 67 v1 rfl rfl)
  have hk1 := h1
  obtain ⟨fuel1, hf1⟩ := h1
  obtain ⟨b1, o1, l1, rd1, hm1, hc1, hn1⟩ := sliceRdO (j := 1) (by simpa [Value.cells] using hf1) hz rfl rfl
  clear hA0 hval0
  simp only [List.append_nil, List.nil_append] at hW'
  have hlt1 : ∀ x ∈ p1, x.block < W.heap.size := fun x hx => by simpa using hW'.lt x hx
  have HT : Tb W := ⟨tab2 hL⟩
  have HR : Tr W := ⟨tab1 hL, tab0 hL⟩
  refine (script_walk W HT HR s0 t0 A1 b1 o1 n1 c1 l1 rd1).mono fun e W' ⟨he, hb⟩ => ?_
  subst he
  have hsh := trodAll_cons_mk (shutA2i enc _ _ s0 t0 ws0 wt0) (trodAll_cons_mk (Below.trod laidOut (by kernel_rfl) (of_decide_eq_true (by kernel_rfl)) hk1 hb hlt1) trodAll_mk0)
  simp only [List.append_nil, List.nil_append] at hsh
  exact ⟨_, rfl, _, _, _, [], p1, [], hW', trodAll_cons_mk (shut_bool Tryd.underlying4 _) trodAll_mk0, hsh, rfl, hb.frame _, fun h => by cases h⟩
theorem said : Rows.ForestScriptSaid :=
  OpenClaim.holds_of_cond 7 Tryd.f7 rfl rfl rfl rfl rfl rfl rfl ⟨rfl, rfl, rfl, rfl, rfl⟩ rfl rfl rfl rfl rfl (by kernel_rfl) Tryd.func7 (by kernel_rfl)
    (of_decide_eq_true (by kernel_rfl)) (by unfold Func.isWrapper; first | (rw [if_pos (by decide +kernel)]; kernel_rfl) | (rw [if_neg (by decide +kernel)]; exact ⟨rfl, rfl⟩))
    (fun os started H enc _ F => by rw [OpenClaim.pre_eq_preRow]; exact lifted os started H enc F)
theorem plain (f : FuncId) (fn : Func) (hf : Tryd.pinned.checked.prog.funcNamed "massif/massiflaw10.ForestScript" = some f) (hfn : Tryd.pinned.checked.prog.funcs[f]? = some fn) :
    false = Tryd.pinned.checked.prog.looks [] ∧ ∀ (j : Nat) t, fn.params[j]? = some t → Tryd.pinned.checked.prog.wantsStandIn t = false := by
  obtain rfl : f = 7 := Option.some.inj ((show Tryd.prog.funcNamed "massif/massiflaw10.ForestScript" = some 7 by kernel_rfl).symm.trans hf) |>.symm
  obtain rfl : fn = Tryd.f7 := (Option.some.inj (Tryd.func7.symm.trans hfn)).symm
  refine ⟨by kernel_rfl, fun j t ht => ?_⟩
  rw [Tryd.params7] at ht
  have hj : j < 2 := by have := (Array.getElem?_eq_some_iff.1 ht).1; simpa using this
  match j, hj, ht with
  | 0, _, ht => have e : some 66 = some t := ht; cases e; exact (show Tryd.prog.wantsStandIn 66 = false by kernel_rfl)
  | 1, _, ht => have e : some 67 = some t := ht; cases e; exact (show Tryd.prog.wantsStandIn 67 = false by kernel_rfl)
theorem card : Rows.ForestScriptCardSaid :=
  Claim7.holds_tied_plain_at .later [] _ _ _ _ said (fun _ h => by cases h) (by kernel_rfl) (fun _ h => by cases h) forestScript_row_tie rfl ⟨rfl, rfl⟩ (by kernel_rfl) rfl plain (by kernel_rfl)
end Go.Proofs.YtabdobdopcfllaaDoor.forestScript
namespace Go.Proofs.YtabdobdopcfllaaDoor
theorem forestScript_holds : Rows.ForestScriptCardSaid := forestScript.card
#print axioms forestScript_holds
end Go.Proofs.YtabdobdopcfllaaDoor
