/-
  ShaLengths: the row's statement and its card. Own work.
-/
import Derived.Test.YthcldaejihdahaaDoorCards
import Derived.Test.YthcldaejihdahaaDoorTie
import Derived.Test.YthcldaejihdahaaDoorWalkL
import Derived.WalkKit
import Derived.ProofKit
import Derived.OpenShut
import Derived.Deep.DeepHandedRow
import Derived.Lib.LaidTab
import Derived.Stop.LaidErr
import Derived.Below
import Derived.Carry
namespace Go.Proofs.YthcldaejihdahaaDoor.shaLengths
open Go.ChangeShapes Go.WideShapes Go.ChangeAt Go.RowKit

theorem own : ownKnob Tryd.prog.godebug = none := by kernel_rfl
theorem g0 : Tryd.prog.globalNamed "massif/massifref01.first" = some 0 := by kernel_rfl
theorem g1 : Tryd.prog.globalNamed "massif/sha.rounds" = some 1 := by kernel_rfl
theorem g2 : Tryd.prog.globalNamed "massif/massifref01.rounds" = some 2 := by kernel_rfl
theorem t0 : (Tryd.prog.globals[0]?).map (·.type) = some 34 := by kernel_rfl
theorem t1 : (Tryd.prog.globals[1]?).map (·.type) = some 46 := by kernel_rfl
theorem t2 : (Tryd.prog.globals[2]?).map (·.type) = some 46 := by kernel_rfl
theorem cells46 : Tryd.prog.cellsOf 46 = 64 := by kernel_rfl
theorem cells34 : Tryd.prog.cellsOf 34 = 8 := by kernel_rfl
theorem cells33 : Tryd.prog.cellsOf 33 = 1 := by kernel_rfl

theorem range_tab {W : World} {name : String} {l : List Int} {g : Nat} (h : Lib.TabIs Tryd.prog W name .u32 l) (hg : Tryd.prog.globalNamed name = some g) : W.rangeAt g 0 (cW l) := fun j v hv => by
  have hj : j < l.length := by have := (List.getElem?_eq_some_iff.1 hv).1; rwa [cW_len] at this
  have hc := h.cell hg j hj
  rw [Nat.zero_add, hc, ← hv]
  simp [cW, List.getD_eq_getElem?_getD, List.getElem?_eq_getElem hj]
theorem first {W : World} (h : laidMetH Tryd.prog Rows.shaLengthsRow.laid W) : W.rangeAt 0 0 (cW IV) :=
  range_tab (Lib.tabIs_of_head (zs := IV) g0 t0 Tryd.underlying34 Tryd.underlying33 cells33 cells34 h) g0
theorem rounds2 {W : World} (h : laidMetH Tryd.prog Rows.shaLengthsRow.laid W) : W.rangeAt 2 0 (cW RS) := by
  have h1 : laidMet Tryd.prog [("massif/massifref01.rounds", Rows.laid_massif_massifref01_rounds), ("massif/sha.rounds", Rows.laid_massif_sha_rounds)] W := laidMet.tail (h : laidMet Tryd.prog Rows.shaLengthsRow.laid W)
  exact range_tab (Lib.tabIs_of_head (zs := RS) g2 t2 Tryd.underlying46 Tryd.underlying33 cells33 cells46 h1) g2
theorem rounds1 {W : World} (h : laidMetH Tryd.prog Rows.shaLengthsRow.laid W) : W.rangeAt 1 0 (cW RS) := by
  have h1 : laidMet Tryd.prog [("massif/massifref01.rounds", Rows.laid_massif_massifref01_rounds), ("massif/sha.rounds", Rows.laid_massif_sha_rounds)] W := laidMet.tail (h : laidMet Tryd.prog Rows.shaLengthsRow.laid W)
  have h2 : laidMet Tryd.prog [("massif/sha.rounds", Rows.laid_massif_sha_rounds)] W := laidMet.tail h1
  exact range_tab (Lib.tabIs_of_head (zs := RS) g1 t1 Tryd.underlying46 Tryd.underlying33 cells33 cells46 h2) g1

theorem contract (H : Type) (enc : TypeId × Value → H) (W : World) (base : Nat) (args : Array Value) (ds gs : List (DataW H)) (before : List MemPlace)
    (hval : ∀ (j : Nat) t v, Tryd.f4.params[j]? = some t → args[j]? = some v → Value.okWide Tryd.prog W .any base t v)
    (hW : DataW.Whole enc Tryd.prog Tryd.f4.params.toList Rows.shaLengthsSpec.vars false W args.toList ds gs before) (hL : laidMetH Tryd.prog Rows.shaLengthsRow.laid W) :
    Calls Tryd.prog 4 args W fun e W' => ∃ v, e = .returned v ∧ Rows.shaLengthsSpec.post enc Tryd.prog Tryd.f4 false true false false W args v W' := by
  have hW' := hW
  obtain ⟨p, q, hA0, hV, rfl, hfz, hnd⟩ := hW
  have hA : DataW.TrodAll enc Tryd.prog W 0 (fun _ => true) true Tryd.f4.params.toList args.toList ds p := hA0
  rw [Tryd.params4] at hA hval
  obtain ⟨v0, vs0, d0, ds0, p0, q0, hargs, rfl, rfl, h0, r0⟩ := trodAll_cons hA
  obtain ⟨v1, vs1, d1, ds1, p1, q1, rfl, rfl, rfl, h1, r1⟩ := trodAll_cons r0
  obtain ⟨rfl, rfl, rfl⟩ := trodAll_nil r1
  obtain rfl : args = #[v0, v1] := by cases args; simp_all
  obtain ⟨rfl, rfl⟩ := trodVars_none hV
  obtain ⟨x, rfl, rfl, rfl, wx⟩ := open_int Tryd.underlying5 (hval 0 5 v0 rfl rfl) h0
  obtain ⟨f, rfl, rfl, rfl, wf⟩ := open_int Tryd.underlying3 (hval 1 3 v1 rfl rfl) h1
  clear hA0
  simp only [List.append_nil] at hW'
  have hx := bounds_u8 wx
  refine (lengths_walk W x f (by omega) (rounds1 hL) (rounds2 hL) (first hL)).mono fun e W' ⟨he, hb⟩ => ?_
  subst he
  exact ⟨_, rfl, _, _, _, [], [], [], hW', trodAll_cons_mk (shut_bool Tryd.underlying4 _) trodAll_mk0, trodAll_cons_mk (shut_int Tryd.underlying5 wx) (trodAll_cons_mk (shut_int Tryd.underlying3 wf) trodAll_mk0), rfl, hb.frame _, fun h => by cases h⟩

/-- A WORLD FOR THE WITNESS: the settled one, the tables holding what their initialisers lay. -/
def layTab (l : List Int) : Obj → Obj
  | .cells _ t frozen => .cells (cW l).toArray t frozen
  | o => o
def withTabs (w : World) : World := { w with heap := ((w.heap.modify 0 (layTab IV)).modify 1 (layTab RS)).modify 2 (layTab RS) }
theorem laid_met (os : Os) : laidMet Tryd.prog Rows.shaLengthsRow.laid ((withTabs (World.holding Tryd.prog os ⟨#[], #[], []⟩)).forCall (fun _ _ => 0) ⟨#[], #[.int .u8 0, .int .i64 0], []⟩).memory :=
  laidMet_of_run' 8 (by kernel_rfl) (by kernel_rfl)
theorem reads (os : Os) {H : Type} (enc : TypeId × Value → H) : ∃ places, DataW.whole enc Tryd.prog ((withTabs (World.holding Tryd.prog os ⟨#[], #[], []⟩)).forCall (fun _ _ => 0) ⟨#[], #[.int .u8 0, .int .i64 0], []⟩).memory Tryd.f4.params.toList Rows.shaLengthsSpec.vars false #[Value.int .u8 0, Value.int .i64 0].toList 8 = some ([.lit (.int .u8 0), .lit (.int .i64 0)], [], places) :=
  ⟨[], by kernel_rfl⟩

set_option maxRecDepth 100000 in
theorem lifted (os : Os) (started : os.Started) (H : Type) (enc : TypeId × Value → H) (F : Stop.Interp) :
    ReturnsInHanded {} Tryd.checked os 4 .any ((OpenSpec.ofChange Rows.shaLengthsSpec).preRow enc Tryd.prog Tryd.f4 Rows.shaLengthsRow.domain false Rows.shaLengthsRow.laid) (((OpenSpec.ofChange Rows.shaLengthsSpec).at F).post enc Tryd.prog Tryd.f4 false true false false) := by
  obtain ⟨places, hx⟩ := reads os enc
  refine returnsInHanded_of_row (C := Tryd.checked) (s := OpenSpec.ofChange Rows.shaLengthsSpec) own started (by kernel_rfl) Tryd.func4
    (witness_row_at (enc := enc) (C := Tryd.checked) false (withTabs (World.holding Tryd.prog os ⟨#[], #[], []⟩)) #[.int .u8 0, .int .i64 0] rfl (by kernel_rfl) (by kernel_rfl) (by kernel_rfl)
      (OpenSpec.preRow_of_cond 8 hx (by kernel_rfl) (fun k hk => by cases hk) (by kernel_rfl) (laid_met os))) ?_
  intro W base args ds gs before hval hW _ _ _ hL _ _
  exact contract H enc W base args ds gs before hval hW hL

theorem said : Rows.ShaLengthsSaid :=
  OpenClaim.holds_of_cond 4 Tryd.f4 rfl rfl rfl rfl rfl rfl rfl ⟨rfl, rfl, rfl, rfl, rfl⟩ rfl rfl rfl rfl rfl (by kernel_rfl) Tryd.func4 (by kernel_rfl)
    (of_decide_eq_true (by kernel_rfl)) (by unfold Func.isWrapper; first | (rw [if_pos (by decide +kernel)]; kernel_rfl) | (rw [if_neg (by decide +kernel)]; exact ⟨rfl, rfl⟩))
    (fun os started H enc _ F => by rw [OpenClaim.pre_eq_preRow]; exact lifted os started H enc F)

theorem plain (f : FuncId) (fn : Func) (hf : Tryd.pinned.checked.prog.funcNamed "massif/massiflaw01.ShaLengths" = some f) (hfn : Tryd.pinned.checked.prog.funcs[f]? = some fn) :
    false = Tryd.pinned.checked.prog.looks [] ∧ ∀ (j : Nat) t, fn.params[j]? = some t → Tryd.pinned.checked.prog.wantsStandIn t = false := by
  obtain rfl : f = 4 := Option.some.inj ((show Tryd.prog.funcNamed "massif/massiflaw01.ShaLengths" = some 4 by kernel_rfl).symm.trans hf) |>.symm
  obtain rfl : fn = Tryd.f4 := (Option.some.inj (Tryd.func4.symm.trans hfn)).symm
  refine ⟨by kernel_rfl, fun j t ht => ?_⟩
  rw [Tryd.params4] at ht
  have hm := Array.mem_of_getElem? ht
  simp at hm
  rcases hm with rfl | rfl
  · exact (show Tryd.prog.wantsStandIn 5 = false by kernel_rfl)
  · exact (show Tryd.prog.wantsStandIn 3 = false by kernel_rfl)

theorem card : Rows.ShaLengthsCardSaid :=
  Claim7.holds_tied_plain_at .later [] _ _ _ _ said (fun _ h => by cases h) (by kernel_rfl) (fun _ h => by cases h) shaLengths_row_tie rfl ⟨rfl, rfl⟩ (by kernel_rfl) rfl plain (by kernel_rfl)
end Go.Proofs.YthcldaejihdahaaDoor.shaLengths
namespace Go.Proofs.YthcldaejihdahaaDoor
theorem shaLengths_card : Rows.ShaLengthsCardSaid := shaLengths.card
#print axioms shaLengths_card
end Go.Proofs.YthcldaejihdahaaDoor
