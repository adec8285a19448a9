/-
  PeaksRefused: the row. Own work.
-/
import Derived.Test.YtncndefggegicaaDoorRows
import Derived.Test.YtncndefggegicaaDoorCards
import Derived.Test.YtncndefggegicaaDoorTie
import Derived.Deep.DeepHandedRow
import Derived.Lib.LaidTab
import Derived.Stop.LaidErr
import Derived.Test.YtncndefggegicaaDoorKRefd
import Derived.WalkKit
import Derived.ProofKit
import Derived.OpenShut
import Derived.Below
import Derived.ChangeSame
import Derived.SizedLaws
import Derived.ChangeMaps5
import Derived.Deep.Slices
import Derived.Carry
namespace Go.Proofs.YtncndefggegicaaDoor.peaksRefused
open Go.ChangeShapes Go.WideShapes Go.ChangeAt Go.RowKit
theorem own : ownKnob Tryd.prog.godebug = none := by kernel_rfl
theorem laidOut : laidOutB Tryd.prog = true := by kernel_rfl
theorem cellsZ1 : Tryd.prog.cellsOf 3 = 1 := by kernel_rfl
def ivz : Value → Int
  | .int _ z => z
  | _ => 0
theorem cellsO5 : Tryd.prog.cellsOf 46 = 5 := by kernel_rfl
theorem cellsOS : Tryd.prog.cellsOf 9 = 1 := by kernel_rfl
theorem cellsOB : Tryd.prog.cellsOf 4 = 1 := by kernel_rfl
theorem weightsAll_memO {H : Type} {P : Program} {t : TypeId} {d : DataW H} {y : Nat} : ∀ {ds : List (DataW H)}, d ∈ ds → y ∈ DataW.weights P t d → y ∈ DataW.weightsAll P t ds
  | [], h, _ => by cases h
  | x :: r, h, hy => by
    simp only [DataW.weightsAll, List.mem_append]
    rcases List.mem_cons.1 h with rfl | h
    · exact .inl hy
    · exact .inr (weightsAll_memO h hy)
set_option maxRecDepth 100000 in
theorem openOp {H : Type} {enc : TypeId × Value → H} {W : World} {fuel : Nat} {cs : List Value} {x : DataW H × List MemPlace} (hl : cs.length = 5) (hf : DataW.trod enc Tryd.prog W 0 (fun _ => true) true fuel 46 cs = some x) (hw : ∀ y ∈ DataW.weights Tryd.prog 46 x.1, y ≤ reachBytes) :
    ∃ o : OpV, cs = [.int .i64 o.kind, .int .i64 o.which, .int .i64 o.h, .string o.s, .bool o.r] ∧ o.s.size ≤ 140737488351232 := by
  obtain ⟨xs, k, hk, hxy, _, hxl, hg⟩ := DataW.trod_struct Tryd.underlying46 hf
  match xs, hxl, cs, hl with
  | [y0, y1, y2, y3, y4], _, [v0, v1, v2, v3, v4], _ =>
    have g0 := hg 0 _ rfl
    have g1 := hg 1 _ rfl
    have g2 := hg 2 _ rfl
    have g3 := hg 3 _ rfl
    have g4 := hg 4 _ rfl
    simp [cellsZ1, cellsOS, cellsOB] at g0 g1 g2 g3 g4
    obtain ⟨z0, e0, f0, _⟩ := DataW.trod_int Tryd.underlying3 g0
    obtain ⟨z1, e1, f1, _⟩ := DataW.trod_int Tryd.underlying3 g1
    obtain ⟨z2, e2, f2, _⟩ := DataW.trod_int Tryd.underlying3 g2
    obtain ⟨z3, e3, f3, _⟩ := DataW.trod_string Tryd.underlying9 g3
    obtain ⟨z4, e4, f4⟩ := DataW.trod_bool Tryd.underlying4 g4
    simp only [List.cons.injEq, and_true] at e0 e1 e2 e3 e4
    subst e0 e1 e2 e3 e4
    refine ⟨⟨z0, z1, z2, z3, z4⟩, rfl, ?_⟩
    rw [hxy] at hw
    refine hw z3.size ?_
    subst f3
    simp [DataW.weights, DataW.weightsEach, Tryd.underlying46, Array.length_toList]
theorem sliceRdO {H : Type} {enc : TypeId × Value → H} {W : World} {fuel : Nat} {ao : Option Addr} {len cap : Nat} {x : DataW H × List MemPlace} {ts : List TypeId} {ds : List (DataW H)} {j : Nat} (hf : DataW.trod enc Tryd.prog W 0 (fun _ => true) true fuel 42 [.slice ao len cap] = some x)
    (hz : (DataW.weightsEach Tryd.prog ts ds).all (· ≤ reachBytes) = true) (hj : ts[j]? = some 42) (hd : ds[j]? = some x.1) :
    ∃ (b off : Nat) (l : Nat → OpV), RdO W ao b off len l ∧ len ≤ maxLen ∧ len ≤ cap ∧ (ao = none → cap = 0) := by
  rcases Go.Deep.open_slice Tryd.underlying42 hf with ⟨hcs, hx⟩ | ⟨a, len', cap', m, n, D, Pl, hcs, _, hl, hm, hmm, hx, hcell⟩
  · simp at hcs
    obtain ⟨rfl, rfl, rfl⟩ := hcs
    exact ⟨0, 0, fun _ => default, ⟨fun h => absurd h (Nat.lt_irrefl 0), fun j hj => absurd hj (Nat.not_lt_zero j)⟩, Nat.zero_le _, Nat.le_refl _, fun _ => rfl⟩
  · simp at hcs
    obtain ⟨rfl, rfl, rfl⟩ := hcs
    simp only [if_true] at hmm
    have hz2 := List.all_eq_true.1 hz
    have hall : ∀ y ∈ DataW.weights Tryd.prog 42 x.1, y ≤ reachBytes := fun y hy => of_decide_eq_true (hz2 y (DataW.weights_mem_each hj hd y hy))
    rw [hx] at hall
    have each : ∀ i, i < len → ∃ o : OpV, W.cell? (a.add (i * 5 + 0)) = some (.int .i64 o.kind) ∧ W.cell? (a.add (i * 5 + 1)) = some (.int .i64 o.which) ∧ W.cell? (a.add (i * 5 + 2)) = some (.int .i64 o.h) ∧ W.cell? (a.add (i * 5 + 3)) = some (.string o.s) ∧ W.cell? (a.add (i * 5 + 4)) = some (.bool o.r) ∧ o.s.size ≤ 140737488351232 := fun i hi => by
      obtain ⟨cs', h1, h2⟩ := hcell i (by omega)
      rw [cellsO5] at h1
      obtain ⟨_, hlen, hc⟩ := World.cells?_some h1
      obtain ⟨o, rfl, ho⟩ := openOp hlen h2 (fun y hy => hall y (by
        simp only [DataW.weights, Tryd.underlying42, List.mem_cons, List.mem_append]
        exact Or.inr (Or.inl (weightsAll_memO (List.mem_map.2 ⟨i, List.mem_range.2 hi, rfl⟩) hy))))
      have q := fun t (ht : t < 5) => hc t ht
      simp only [Go.Deep.add_add] at q
      exact ⟨o, by simpa using q 0 (by decide), by simpa using q 1 (by decide), by simpa using q 2 (by decide), by simpa using q 3 (by decide), by simpa using q 4 (by decide), ho⟩
    obtain ⟨l, hL⟩ := Go.Deep.choose_lt each
    by_cases h0 : len = 0
    · subst h0
      exact ⟨0, 0, fun _ => default, ⟨fun h => absurd h (Nat.lt_irrefl 0), fun j hj => absurd hj (Nat.not_lt_zero j)⟩, Nat.zero_le _, hl, fun h => by cases h⟩
    · obtain ⟨b, off, spot⟩ := a
      have hspot : spot = none := by simpa [Addr.add] using World.cell?_spot (hL 0 (by omega)).1
      subst hspot
      refine ⟨b, off, l, ⟨fun _ => rfl, fun j hj => ?_⟩, Nat.le_trans hl hm, hl, fun h => by cases h⟩
      have := hL j hj
      simp only [Addr.add_mid] at this
      exact this
theorem cellsT120 : Tryd.prog.cellsOf 120 = 64 := by kernel_rfl
theorem cellsT109 : Tryd.prog.cellsOf 109 = 1 := by kernel_rfl
theorem range_tab {W : World} {name : String} {l : List Int} {g : Nat} (h : Lib.TabIs Tryd.prog W name .u32 l) (hg : Tryd.prog.globalNamed name = some g) : W.rangeAt g 0 (cW l) := fun j v hv => by
  have hj : j < l.length := by have := (List.getElem?_eq_some_iff.1 hv).1; rwa [cW_len] at this
  have hc := h.cell hg j hj
  rw [Nat.zero_add, hc, ← hv]
  simp [cW, List.getD_eq_getElem?_getD, List.getElem?_eq_getElem hj]
theorem gn0 : Tryd.prog.globalNamed "massif/sha.rounds" = some 1 := by kernel_rfl
theorem gt0 : (Tryd.prog.globals[1]?).map (·.type) = some 120 := by kernel_rfl
theorem tab0 {W : World} (h0 : laidMetH Tryd.prog Rows.peaksRefusedRow.laid W) : W.rangeAt 1 0 (cW RS) := by
  exact range_tab (Lib.tabIs_of_head (zs := RS) gn0 gt0 Tryd.underlying120 Tryd.underlying109 cellsT109 cellsT120 h0) gn0
def layTab (l : List Int) : Obj → Obj
  | .cells _ t frozen => .cells (cW l).toArray t frozen
  | o => o
def withTabs (w : World) : World := { w with heap := (w.heap.modify 1 (layTab RS)) }
theorem laid_met (os : Os) : laidMet Tryd.prog Rows.peaksRefusedRow.laid ((withTabs (World.holding Tryd.prog os ⟨#[], #[], []⟩)).forCall (fun _ _ => 0) ⟨#[], #[.int .i64 0, .int .u64 0, .slice none 0 0], []⟩).memory :=
  laidMet_of_run' 8 (by kernel_rfl) (by kernel_rfl)
theorem reads (os : Os) {H : Type} (enc : TypeId × Value → H) : ∃ places, DataW.whole enc Tryd.prog ((withTabs (World.holding Tryd.prog os ⟨#[], #[], []⟩)).forCall (fun _ _ => 0) ⟨#[], #[.int .i64 0, .int .u64 0, .slice none 0 0], []⟩).memory Tryd.f5.params.toList Rows.peaksRefusedSpec.vars false (#[.int .i64 0, .int .u64 0, .slice none 0 0] : Array Value).toList 8 = some ([.lit (.int .i64 0), .lit (.int .u64 0), .nil], [], places) :=
  ⟨[], by kernel_rfl⟩
set_option maxRecDepth 100000 in
theorem lifted (os : Os) (started : os.Started) (H : Type) (enc : TypeId × Value → H) (F : Stop.Interp) :
    ReturnsInHanded {} Tryd.checked os 5 .any ((OpenSpec.ofChange Rows.peaksRefusedSpec).preRow enc Tryd.prog Tryd.f5 Rows.peaksRefusedRow.domain false Rows.peaksRefusedRow.laid) (((OpenSpec.ofChange Rows.peaksRefusedSpec).at F).post enc Tryd.prog Tryd.f5 false true false false) := by
  obtain ⟨places, hx⟩ := reads os enc
  refine returnsInHanded_of_row (C := Tryd.checked) (s := OpenSpec.ofChange Rows.peaksRefusedSpec) own started (by kernel_rfl) Tryd.func5
    (witness_row_at (enc := enc) (C := Tryd.checked) false (withTabs (World.holding Tryd.prog os ⟨#[], #[], []⟩)) #[.int .i64 0, .int .u64 0, .slice none 0 0] rfl (by kernel_rfl) (by kernel_rfl) (by kernel_rfl)
      (OpenSpec.preRow_of_cond 8 hx (by kernel_rfl) (fun k hk => by cases hk) (by kernel_rfl) (laid_met os))) ?_
  intro W base args ds gs before hval0 hW0 _ _ hz0 hL _ _
  show Calls Tryd.prog 5 args W fun e W' => ∃ v, e = .returned v ∧ Rows.peaksRefusedSpec.post enc Tryd.prog Tryd.f5 false true false false W args v W'
  have hW : DataW.Whole enc Tryd.prog Tryd.f5.params.toList Rows.peaksRefusedSpec.vars false W args.toList ds gs before := hW0
  have hval : ∀ (j : Nat) t v, Tryd.f5.params[j]? = some t → args[j]? = some v → Value.okWide Tryd.prog W .any base t v := hval0
  have hW' := hW
  obtain ⟨p, q, hA0, hV, rfl, hfz, hnd⟩ := hW
  have hA : DataW.TrodAll enc Tryd.prog W 0 (fun _ => true) true Tryd.f5.params.toList args.toList ds p := hA0
  rw [Tryd.params5] at hA hval
  obtain ⟨v0, vs0, d0, ds0, p0, q0, hargs, rfl, rfl, h0, r0⟩ := trodAll_cons hA
  obtain ⟨v1, vs1, d1, ds1, p1, q1, rfl, rfl, rfl, h1, r1⟩ := trodAll_cons r0
  obtain ⟨v2, vs2, d2, ds2, p2, q2, rfl, rfl, rfl, h2, r2⟩ := trodAll_cons r1
  obtain ⟨rfl, rfl, rfl⟩ := trodAll_nil r2
  obtain rfl : args = #[v0, v1, v2] := by cases args; simp_all
  obtain ⟨rfl, rfl⟩ := trodVars_none hV
  have hz : (DataW.weightsEach Tryd.prog [3, 22, 42] [d0, d1, d2]).all (· ≤ reachBytes) = true := hz0
  clear hz0
  obtain ⟨a0, rfl, rfl, rfl, w0⟩ := open_int Tryd.underlying3 (hval 0 3 v0 rfl rfl) h0
  obtain ⟨a1, rfl, rfl, rfl, w1⟩ := open_int Tryd.underlying22 (hval 1 22 v1 rfl rfl) h1
  obtain ⟨A2, n2, c2, rfl⟩ := okWide_slice Tryd.underlying42 (hval 2 42 v2 rfl rfl)
  have hk2 := h2
  obtain ⟨fuel2, hf2⟩ := h2
  obtain ⟨b2, o2, l2, rd2, hm2, hc2, hn2⟩ := sliceRdO (j := 2) (by simpa [Value.cells] using hf2) hz rfl rfl
  clear hA0 hval0
  simp only [List.append_nil, List.nil_append] at hW'
  have hlt2 : ∀ x ∈ p2, x.block < W.heap.size := fun x hx => by simpa using hW'.lt x hx
  have HT : Tb W := ⟨tab0 hL⟩
  refine (refd_row W HT a0 a1 w1 A2 b2 o2 n2 c2 l2 rd2).mono fun e W' ⟨he, hb⟩ => ?_
  subst he
  have hsh := trodAll_cons_mk (shut_int Tryd.underlying3 w0) (trodAll_cons_mk (shut_int Tryd.underlying22 w1) (trodAll_cons_mk (Below.trod laidOut (by kernel_rfl) (of_decide_eq_true (by kernel_rfl)) hk2 hb hlt2) trodAll_mk0))
  simp only [List.append_nil, List.nil_append] at hsh
  exact ⟨_, rfl, _, _, _, [], p2, [], hW', trodAll_cons_mk (shut_bool Tryd.underlying4 _) trodAll_mk0, hsh, rfl, hb.frame _, fun h => by cases h⟩
theorem said : Rows.PeaksRefusedSaid :=
  OpenClaim.holds_of_cond 5 Tryd.f5 rfl rfl rfl rfl rfl rfl rfl ⟨rfl, rfl, rfl, rfl, rfl⟩ rfl rfl rfl rfl rfl (by kernel_rfl) Tryd.func5 (by kernel_rfl)
    (of_decide_eq_true (by kernel_rfl)) (by unfold Func.isWrapper; first | (rw [if_pos (by decide +kernel)]; kernel_rfl) | (rw [if_neg (by decide +kernel)]; exact ⟨rfl, rfl⟩))
    (fun os started H enc _ F => by rw [OpenClaim.pre_eq_preRow]; exact lifted os started H enc F)
theorem plain (f : FuncId) (fn : Func) (hf : Tryd.pinned.checked.prog.funcNamed "massif/massiflaw09.PeaksRefused" = some f) (hfn : Tryd.pinned.checked.prog.funcs[f]? = some fn) :
    false = Tryd.pinned.checked.prog.looks [] ∧ ∀ (j : Nat) t, fn.params[j]? = some t → Tryd.pinned.checked.prog.wantsStandIn t = false := by
  obtain rfl : f = 5 := Option.some.inj ((show Tryd.prog.funcNamed "massif/massiflaw09.PeaksRefused" = some 5 by kernel_rfl).symm.trans hf) |>.symm
  obtain rfl : fn = Tryd.f5 := (Option.some.inj (Tryd.func5.symm.trans hfn)).symm
  refine ⟨by kernel_rfl, fun j t ht => ?_⟩
  rw [Tryd.params5] at ht
  have hj : j < 3 := by have := (Array.getElem?_eq_some_iff.1 ht).1; simpa using this
  match j, hj, ht with
  | 0, _, ht => have e : some 3 = some t := ht; cases e; exact (show Tryd.prog.wantsStandIn 3 = false by kernel_rfl)
  | 1, _, ht => have e : some 22 = some t := ht; cases e; exact (show Tryd.prog.wantsStandIn 22 = false by kernel_rfl)
  | 2, _, ht => have e : some 42 = some t := ht; cases e; exact (show Tryd.prog.wantsStandIn 42 = false by kernel_rfl)
theorem card : Rows.PeaksRefusedCardSaid :=
  Claim7.holds_tied_plain_at .later [] _ _ _ _ said (fun _ h => by cases h) (by kernel_rfl) (fun _ h => by cases h) peaksRefused_row_tie rfl ⟨rfl, rfl⟩ (by kernel_rfl) rfl plain (by kernel_rfl)
end Go.Proofs.YtncndefggegicaaDoor.peaksRefused
namespace Go.Proofs.YtncndefggegicaaDoor
theorem peaksRefused_holds : Rows.PeaksRefusedCardSaid := peaksRefused.card
#print axioms peaksRefused_holds
end Go.Proofs.YtncndefggegicaaDoor
