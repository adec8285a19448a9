/-
  ShaOf: the row's statement and its card (second form). Own work.
-/
import Derived.Test.YthcldaejihdahaaDoorCards
import Derived.Test.YthcldaejihdahaaDoorTie
import Derived.Test.YthcldaejihdahaaDoorWalkO
import Derived.WalkKit
import Derived.ProofKit
import Derived.OpenShut
import Derived.SliceStrings
import Derived.Deep.DeepHandedRow
import Derived.Lib.LaidTab
import Derived.Stop.LaidErr
import Derived.Below
import Derived.Carry
namespace Go.Proofs.YthcldaejihdahaaDoor.shaOf
open Go.ChangeShapes Go.WideShapes Go.ChangeAt Go.RowKit

theorem laidOut : laidOutB Tryd.prog = true := by kernel_rfl
theorem cells9 : Tryd.prog.cellsOf 9 = 1 := by kernel_rfl
theorem own : ownKnob Tryd.prog.godebug = none := by kernel_rfl
theorem g0 : Tryd.prog.globalNamed "massif/massifref01.first" = some 0 := by kernel_rfl
theorem g1 : Tryd.prog.globalNamed "massif/sha.rounds" = some 1 := by kernel_rfl
theorem g2 : Tryd.prog.globalNamed "massif/massifref01.rounds" = some 2 := by kernel_rfl
theorem t0 : (Tryd.prog.globals[0]?).map (·.type) = some 34 := by kernel_rfl
theorem t1 : (Tryd.prog.globals[1]?).map (·.type) = some 46 := by kernel_rfl
theorem t2 : (Tryd.prog.globals[2]?).map (·.type) = some 46 := by kernel_rfl
theorem cells46 : Tryd.prog.cellsOf 46 = 64 := by kernel_rfl
theorem cells34 : Tryd.prog.cellsOf 34 = 8 := by kernel_rfl
theorem cells33 : Tryd.prog.cellsOf 33 = 1 := by kernel_rfl

theorem range_tab {W : World} {name : String} {l : List Int} {g : Nat} (h : Lib.TabIs Tryd.prog W name .u32 l) (hg : Tryd.prog.globalNamed name = some g) : W.rangeAt g 0 (cW l) := fun j v hv => by
  have hj : j < l.length := by have := (List.getElem?_eq_some_iff.1 hv).1; rwa [cW_len] at this
  have hc := h.cell hg j hj
  rw [Nat.zero_add, hc, ← hv]
  simp [cW, List.getD_eq_getElem?_getD, List.getElem?_eq_getElem hj]
theorem first {W : World} (h : laidMetH Tryd.prog Rows.shaOfUptoRow.laid W) : W.rangeAt 0 0 (cW IV) :=
  range_tab (Lib.tabIs_of_head (zs := IV) g0 t0 Tryd.underlying34 Tryd.underlying33 cells33 cells34 h) g0
theorem rounds2 {W : World} (h : laidMetH Tryd.prog Rows.shaOfUptoRow.laid W) : W.rangeAt 2 0 (cW RS) := by
  have h1 : laidMet Tryd.prog [("massif/massifref01.rounds", Rows.laid_massif_massifref01_rounds), ("massif/sha.rounds", Rows.laid_massif_sha_rounds)] W := laidMet.tail (h : laidMet Tryd.prog Rows.shaOfUptoRow.laid W)
  exact range_tab (Lib.tabIs_of_head (zs := RS) g2 t2 Tryd.underlying46 Tryd.underlying33 cells33 cells46 h1) g2
theorem rounds1 {W : World} (h : laidMetH Tryd.prog Rows.shaOfUptoRow.laid W) : W.rangeAt 1 0 (cW RS) := by
  have h1 : laidMet Tryd.prog [("massif/massifref01.rounds", Rows.laid_massif_massifref01_rounds), ("massif/sha.rounds", Rows.laid_massif_sha_rounds)] W := laidMet.tail (h : laidMet Tryd.prog Rows.shaOfUptoRow.laid W)
  have h2 : laidMet Tryd.prog [("massif/sha.rounds", Rows.laid_massif_sha_rounds)] W := laidMet.tail h1
  exact range_tab (Lib.tabIs_of_head (zs := RS) g1 t1 Tryd.underlying46 Tryd.underlying33 cells33 cells46 h2) g1

theorem bulk_strs {H : Type} (ss : List ByteArray) : (flat ss).length + ss.length ≤ Rows.uptoBulkAll (strs (H := H) ss) := by
  induction ss with
  | nil => simp [flat]
  | cons s r ih =>
    have e : s.data.toList.length = s.size := by rw [Array.length_toList]; rfl
    simp only [strs, List.map_cons, Rows.uptoBulkAll, Rows.uptoBulk, e, List.length_cons] at ih ⊢
    have : (flat (s :: r)).length = s.size + (flat r).length := by simp [flat, tB_len]
    omega
/-- WHAT THE BOUND GIVES. -/
theorem short {H : Type} {ss : List ByteArray} {len : Nat} (hk : Rows.uptoSmall H [.slice (strs (ss.take len)) (strs (ss.drop len))] = true) : (flat (ss.take len)).length + (ss.take len).length ≤ 1048576 := by
  have h : Rows.uptoBulkAll [DataW.slice (H := H) (strs (ss.take len)) (strs (ss.drop len))] ≤ 1048576 := of_decide_eq_true hk
  simp only [Rows.uptoBulkAll, Rows.uptoBulk] at h
  have := bulk_strs (H := H) (ss.take len)
  omega

theorem contract (H : Type) (enc : TypeId × Value → H) (W : World) (base : Nat) (args : Array Value) (ds gs : List (DataW H)) (before : List MemPlace)
    (hval : ∀ (j : Nat) t v, Tryd.f5.params[j]? = some t → args[j]? = some v → Value.okWide Tryd.prog W .any base t v)
    (hW : DataW.Whole enc Tryd.prog Tryd.f5.params.toList Rows.shaOfSpec.vars false W args.toList ds gs before) (hL : laidMetH Tryd.prog Rows.shaOfUptoRow.laid W) (hk : Rows.uptoSmall H (ds ++ gs) = true) :
    Calls Tryd.prog 5 args W fun e W' => ∃ v, e = .returned v ∧ Rows.shaOfSpec.post enc Tryd.prog Tryd.f5 false true false false W args v W' := by
  have hW' := hW
  obtain ⟨p, q, hA0, hV, rfl, hfz, hnd⟩ := hW
  have hA : DataW.TrodAll enc Tryd.prog W 0 (fun _ => true) true Tryd.f5.params.toList args.toList ds p := hA0
  rw [Tryd.params5] at hA hval
  obtain ⟨v0, vs0, d0, ds0, p0, q0, hargs, rfl, rfl, h0, r0⟩ := trodAll_cons hA
  obtain ⟨rfl, rfl, rfl⟩ := trodAll_nil r0
  obtain rfl : args = #[v0] := by cases args; simp_all
  obtain ⟨rfl, rfl⟩ := trodVars_none hV
  obtain ⟨a0, len, cap, rfl⟩ := okWide_slice Tryd.underlying22 (hval 0 22 v0 rfl rfl)
  have h0k := h0
  obtain ⟨fuel, hf⟩ := h0
  clear hA0
  simp only [List.append_nil] at hW' hk
  have hlt : ∀ x ∈ p0, x.block < W.heap.size := fun x hx => by simpa using hW'.lt x hx
  have hr := rounds1 hL
  have hr2 := rounds2 hL
  have hiv := first hL
  have fin : ∀ W', Below W.heap.size W W' → Rows.shaOfSpec.post enc Tryd.prog Tryd.f5 false true false false W #[.slice a0 len cap] (.bool true) W' := fun W' hb =>
    ⟨_, _, _, [], p0, [], hW', trodAll_cons_mk (shut_bool Tryd.underlying4 _) trodAll_mk0, by
      have := trodAll_cons_mk (Below.trod laidOut (by kernel_rfl) (of_decide_eq_true (by kernel_rfl)) h0k hb hlt) trodAll_mk0
      simp only [List.append_nil] at this
      exact this, rfl, hb.frame _, fun h => by cases h⟩
  rcases open_strings Tryd.underlying22 Tryd.underlying9 cells9 hf with ⟨hcs, hx⟩ | ⟨a, len', cap', ss, hcs, _, hl, hm, hz, hx, hcell, hws⟩
  · simp [Value.cells] at hcs
    obtain ⟨rfl, rfl, rfl⟩ := hcs
    refine (of_walk W none 0 0 0 0 [] rfl (fun h => absurd h (Nat.lt_irrefl 0)) (fun j v h => by cases h) (fun _ => rfl) (by decide) hr hr2 hiv (by decide)).mono fun e W' ⟨he, hb⟩ => ?_
    subst he
    exact ⟨_, rfl, fin W' hb⟩
  · simp [Value.cells] at hcs
    obtain ⟨rfl, rfl, rfl⟩ := hcs
    simp only [Prod.mk.injEq] at hx
    obtain ⟨rfl, hp0⟩ := hx
    simp only [if_true] at hz
    have hs := short hk
    have htl : (ss.take len).length = len := by rw [List.length_take]; omega
    by_cases hl0 : len = 0
    · subst hl0
      refine (of_walk W (some a) 0 0 0 cap [] rfl (fun h => absurd h (Nat.lt_irrefl 0)) (fun j v h => by cases h) (fun h => by cases h) (by decide) hr hr2 hiv (by decide)).mono fun e W' ⟨he, hb⟩ => ?_
      subst he
      exact ⟨_, rfl, fin W' hb⟩
    · obtain ⟨b, off, spot⟩ := a
      have hspot : spot = none := by simpa [Addr.add] using World.cell?_spot (hcell 0 (by omega))
      subst hspot
      refine (of_walk W (some ⟨b, off, none⟩) b off len cap (ss.take len) htl (fun _ => rfl) (fun j v hv => ?_) (fun h => by cases h) (by omega) hr hr2 hiv (by omega)).mono fun e W' ⟨he, hb⟩ => ?_
      · have hj : j < len := by have := (List.getElem?_eq_some_iff.1 hv).1; rw [List.length_map, htl] at this; exact this
        have := hcell j (by omega)
        rw [← add_plain, this, ← hv]
        simp [hj, List.getD_eq_getElem?_getD, List.getElem?_eq_getElem (show j < ss.length by omega)]
      · subst he
        exact ⟨_, rfl, fin W' hb⟩

/-- A WORLD FOR THE WITNESS: the settled one, the tables holding what their initialisers lay. -/
def layTab (l : List Int) : Obj → Obj
  | .cells _ t frozen => .cells (cW l).toArray t frozen
  | o => o
def withTabs (w : World) : World := { w with heap := ((w.heap.modify 0 (layTab IV)).modify 1 (layTab RS)).modify 2 (layTab RS) }
theorem laid_met (os : Os) : laidMet Tryd.prog Rows.shaOfUptoRow.laid ((withTabs (World.holding Tryd.prog os ⟨#[], #[], []⟩)).forCall (fun _ _ => 0) ⟨#[], #[.slice none 0 0], []⟩).memory :=
  laidMet_of_run' 8 (by kernel_rfl) (by kernel_rfl)
theorem reads (os : Os) {H : Type} (enc : TypeId × Value → H) : ∃ places, DataW.whole enc Tryd.prog ((withTabs (World.holding Tryd.prog os ⟨#[], #[], []⟩)).forCall (fun _ _ => 0) ⟨#[], #[.slice none 0 0], []⟩).memory Tryd.f5.params.toList Rows.shaOfSpec.vars false #[Value.slice none 0 0].toList 8 = some ([.nil], [], places) :=
  ⟨[], by kernel_rfl⟩

set_option maxRecDepth 100000 in
theorem liftedUpto (os : Os) (started : os.Started) (H : Type) (enc : TypeId × Value → H) (F : Stop.Interp) :
    ReturnsInHanded {} Tryd.checked os 5 .any ((Rows.OpenSpec.upto Rows.shaOfSpec).preRow enc Tryd.prog Tryd.f5 Rows.shaOfUptoRow.domain false Rows.shaOfUptoRow.laid) (((Rows.OpenSpec.upto Rows.shaOfSpec).at F).post enc Tryd.prog Tryd.f5 false true false false) := by
  obtain ⟨places, hx⟩ := reads os enc
  refine returnsInHanded_of_row (C := Tryd.checked) (s := Rows.OpenSpec.upto Rows.shaOfSpec) own started (by kernel_rfl) Tryd.func5
    (witness_row_at (enc := enc) (C := Tryd.checked) false (withTabs (World.holding Tryd.prog os ⟨#[], #[], []⟩)) #[.slice none 0 0] rfl (by kernel_rfl) (by kernel_rfl) (by kernel_rfl)
      (OpenSpec.preRow_of_cond 8 hx (by kernel_rfl) (fun k hk => by cases hk; kernel_rfl) (by kernel_rfl) (laid_met os))) ?_
  intro W base args ds gs before hval hW _ hcond _ hL _ _
  exact contract H enc W base args ds gs before hval hW hL (hcond _ rfl)

theorem saidUpto : Rows.ShaOfUptoSaid :=
  OpenClaim.holds_of_cond 5 Tryd.f5 rfl rfl rfl rfl rfl rfl rfl ⟨rfl, rfl, rfl, rfl, rfl⟩ rfl rfl rfl rfl rfl (by kernel_rfl) Tryd.func5 (by kernel_rfl)
    (of_decide_eq_true (by kernel_rfl)) (by unfold Func.isWrapper; first | (rw [if_pos (by decide +kernel)]; kernel_rfl) | (rw [if_neg (by decide +kernel)]; exact ⟨rfl, rfl⟩))
    (fun os started H enc _ F => by rw [OpenClaim.pre_eq_preRow]; exact liftedUpto os started H enc F)

theorem plain (f : FuncId) (fn : Func) (hf : Tryd.pinned.checked.prog.funcNamed "massif/massiflaw01.ShaOf" = some f) (hfn : Tryd.pinned.checked.prog.funcs[f]? = some fn) :
    false = Tryd.pinned.checked.prog.looks [] ∧ ∀ (j : Nat) t, fn.params[j]? = some t → Tryd.pinned.checked.prog.wantsStandIn t = false := by
  obtain rfl : f = 5 := Option.some.inj ((show Tryd.prog.funcNamed "massif/massiflaw01.ShaOf" = some 5 by kernel_rfl).symm.trans hf) |>.symm
  obtain rfl : fn = Tryd.f5 := (Option.some.inj (Tryd.func5.symm.trans hfn)).symm
  refine ⟨by kernel_rfl, fun j t ht => ?_⟩
  rw [Tryd.params5] at ht
  obtain rfl : t = 22 := by simpa using Array.mem_of_getElem? ht
  exact (show Tryd.prog.wantsStandIn 22 = false by kernel_rfl)

theorem cardUpto : Rows.ShaOfUptoCardSaid :=
  Claim7.holds_tied_plain_at .later [] _ _ _ _ saidUpto (fun _ h => by cases h) (by kernel_rfl) (fun _ h => by cases h) shaOfUpto_row_tie rfl ⟨rfl, rfl⟩ (by kernel_rfl) rfl plain (by kernel_rfl)
end Go.Proofs.YthcldaejihdahaaDoor.shaOf
namespace Go.Proofs.YthcldaejihdahaaDoor
theorem shaOf_card : Rows.ShaOfUptoCardSaid := shaOf.cardUpto
#print axioms shaOf_card
end Go.Proofs.YthcldaejihdahaaDoor
