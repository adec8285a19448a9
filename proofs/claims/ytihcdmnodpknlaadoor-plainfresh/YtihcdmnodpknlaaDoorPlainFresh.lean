/-
  PlainFresh: the row. Own work.
-/
import Derived.Test.YtihcdmnodpknlaaDoorRows
import Derived.Test.YtihcdmnodpknlaaDoorCards
import Derived.Test.YtihcdmnodpknlaaDoorTie
import Derived.Deep.DeepHandedRow
import Derived.Lib.LaidTab
import Derived.Stop.LaidErr
import Derived.Test.YtihcdmnodpknlaaDoorPWalkF
import Derived.WalkKit
import Derived.ProofKit
import Derived.OpenShut
import Derived.Below
import Derived.ChangeSame
import Derived.SizedLaws
import Derived.ChangeMaps5
import Derived.SliceStrings
import Derived.Carry
import Derived.Deep.Slices
namespace Go.Proofs.YtihcdmnodpknlaaDoor.plainFresh
open Go.ChangeShapes Go.WideShapes Go.ChangeAt Go.RowKit
theorem own : ownKnob Tryd.prog.godebug = none := by kernel_rfl
theorem laidOut : laidOutB Tryd.prog = true := by kernel_rfl
theorem cellsS1 : Tryd.prog.cellsOf 9 = 1 := by kernel_rfl
theorem cellsV1 : Tryd.prog.cellsOf 22 = 1 := by kernel_rfl
theorem bytesV1 : Tryd.prog.bytesOf 22 = 24 := by kernel_rfl
theorem weightsAll_mem {H : Type} {P : Program} {t : TypeId} {d : DataW H} {y : Nat} : ∀ {ds : List (DataW H)}, d ∈ ds → y ∈ DataW.weights P t d → y ∈ DataW.weightsAll P t ds
  | [], h, _ => by cases h
  | x :: r, h, hy => by
    simp only [DataW.weightsAll, List.mem_append]
    rcases List.mem_cons.1 h with rfl | h
    · exact .inl hy
    · exact .inr (weightsAll_mem h hy)
theorem weights_str {H : Type} (l : List ByteArray) (s : ByteArray) (hs : s ∈ l) : s.size ∈ DataW.weightsAll Tryd.prog 9 (strs (H := H) l) := by
  induction l with
  | nil => cases hs
  | cons x r ih =>
    simp only [strs, List.map_cons, DataW.weightsAll, DataW.weights, List.mem_append, List.mem_singleton]
    rcases List.mem_cons.1 hs with rfl | h
    · left; rw [Array.length_toList]; rfl
    · right; exact ih h
theorem sliceOne {H : Type} {enc : TypeId × Value → H} {W : World} {fuel : Nat} {v : Value} {d : DataW H} {pl : List MemPlace} (hf : DataW.trod enc Tryd.prog W 0 (fun _ => true) true fuel 22 [v] = some (d, pl))
    (hw : ∀ y ∈ DataW.weights Tryd.prog 22 d, y ≤ reachBytes) :
    ∃ (ss : List ByteArray) (ao : Option Addr) (b off len cap : Nat), v = .slice ao len cap ∧ RdS W ao b off len ss ∧ (∀ s ∈ ss, s.size ≤ 140737488351232) ∧ len ≤ cap := by
  rcases open_strings Tryd.underlying22 Tryd.underlying9 cellsS1 hf with ⟨hcs, hx⟩ | ⟨a, len, cap, ss, hcs, _, hl, hm, hzl, hx, hcell, hws⟩
  · simp at hcs
    subst hcs
    exact ⟨[], none, 0, 0, 0, 0, rfl, ⟨rfl, fun h => absurd h (Nat.lt_irrefl 0), (fun j v h => by cases h), (fun s h => by cases h)⟩, (fun s h => by cases h), Nat.le_refl _⟩
  · simp at hcs
    subst hcs
    simp only [if_true] at hzl
    simp only [Prod.mk.injEq] at hx
    have hsz : ∀ s ∈ ss.take len, s.size ≤ 140737488351232 := fun s hs => by
      rw [hx.1] at hw
      exact hw s.size (by simp only [DataW.weights, Tryd.underlying22, List.mem_cons, List.mem_append]; exact Or.inr (Or.inl (weights_str _ s hs)))
    by_cases h0 : len = 0
    · subst h0
      exact ⟨[], some a, 0, 0, 0, cap, rfl, ⟨rfl, fun h => absurd h (Nat.lt_irrefl 0), (fun j v h => by cases h), (fun s h => by cases h)⟩, (fun s h => by cases h), hl⟩
    · obtain ⟨b, off, spot⟩ := a
      have hspot : spot = none := by simpa [Addr.add] using World.cell?_spot (hcell 0 (by omega))
      subst hspot
      refine ⟨ss.take len, some ⟨b, off, none⟩, b, off, len, cap, rfl, ⟨by rw [List.length_take]; omega, fun _ => rfl, fun j v hv => ?_, fun s hs => Nat.le_trans (hsz s hs) (by decide)⟩, hsz, hl⟩
      have hj : j < len := by have := (List.getElem?_eq_some_iff.1 hv).1; rw [List.length_map, List.length_take] at this; omega
      have hc := hcell j (by omega)
      rw [Addr.add_mid] at hc
      rw [hc, ← hv]
      simp [hj, List.getD_eq_getElem?_getD, List.getElem?_eq_getElem (show j < ss.length by omega)]
theorem sliceRdV {H : Type} {enc : TypeId × Value → H} {W : World} {fuel : Nat} {ao : Option Addr} {len cap : Nat} {x : DataW H × List MemPlace} {ts : List TypeId} {ds : List (DataW H)} {j : Nat} (hf : DataW.trod enc Tryd.prog W 0 (fun _ => true) true fuel 43 [.slice ao len cap] = some x)
    (hz : (DataW.weightsEach Tryd.prog ts ds).all (· ≤ reachBytes) = true) (hj : ts[j]? = some 43) (hd : ds[j]? = some x.1) :
    ∃ (b off : Nat) (Ls : Nat → List ByteArray), RdV W ao b off len Ls ∧ len ≤ 8796093022208 ∧ len ≤ cap ∧ (ao = none → cap = 0) := by
  rcases Go.Deep.open_slice1 Tryd.underlying43 cellsV1 hf with ⟨hcs, hx⟩ | ⟨a, len', cap', m, n, V, D, Pl, hcs, _, hl, hm, hmm, hx, hcell⟩
  · simp at hcs
    obtain ⟨rfl, rfl, rfl⟩ := hcs
    exact ⟨0, 0, fun _ => [], ⟨fun h => absurd h (Nat.lt_irrefl 0), fun i hi => absurd hi (Nat.not_lt_zero i)⟩, Nat.zero_le _, Nat.le_refl _, fun _ => rfl⟩
  · simp at hcs
    obtain ⟨rfl, rfl, rfl⟩ := hcs
    simp only [if_true] at hmm
    have hz2 := List.all_eq_true.1 hz
    have hall : ∀ y ∈ DataW.weights Tryd.prog 43 x.1, y ≤ reachBytes := fun y hy => of_decide_eq_true (hz2 y (DataW.weights_mem_each hj hd y hy))
    rw [hx] at hall
    have hcap : len ≤ 8796093022208 := by
      have h2 := hall _ (by simp only [DataW.weights, Tryd.underlying43]; exact List.mem_cons_self)
      simp only [List.length_map, List.length_range, bytesV1] at h2
      unfold reachBytes at h2
      omega
    have hone : ∀ i, i < len → ∃ ss : List ByteArray, ∃ (ai : Option Addr) (bi oi ni ci : Nat), V i = .slice ai ni ci ∧ RdS W ai bi oi ni ss ∧ (∀ s ∈ ss, s.size ≤ 140737488351232) ∧ ni ≤ ci := fun i hi =>
      sliceOne (hcell i (by omega)).2 (fun y hy => hall y (by
        simp only [DataW.weights, Tryd.underlying43, List.mem_cons, List.mem_append]
        exact Or.inr (Or.inl (weightsAll_mem (List.mem_map.2 ⟨i, List.mem_range.2 hi, rfl⟩) hy))))
    obtain ⟨Ls, hLs⟩ := Go.Deep.choose_lt hone
    by_cases h0 : len = 0
    · subst h0
      exact ⟨0, 0, fun _ => [], ⟨fun h => absurd h (Nat.lt_irrefl 0), fun i hi => absurd hi (Nat.not_lt_zero i)⟩, Nat.zero_le _, hl, fun h => by cases h⟩
    · obtain ⟨b, off, spot⟩ := a
      have hspot : spot = none := by simpa [Addr.add] using World.cell?_spot (hcell 0 (by omega)).1
      subst hspot
      refine ⟨b, off, Ls, ⟨fun _ => rfl, fun i hi => ?_⟩, hcap, hl, fun h => by cases h⟩
      obtain ⟨ai, bi, oi, ni, ci, h1, h2, h3, h4⟩ := hLs i hi
      have hc := (hcell i (by omega)).1
      rw [Addr.add_mid, h1] at hc
      exact ⟨ai, bi, oi, ni, ci, hc, h2, h3, h4⟩
theorem cellsT75 : Tryd.prog.cellsOf 75 = 64 := by kernel_rfl
theorem cellsT65 : Tryd.prog.cellsOf 65 = 8 := by kernel_rfl
theorem cellsT64 : Tryd.prog.cellsOf 64 = 1 := by kernel_rfl
theorem range_tab {W : World} {name : String} {l : List Int} {g : Nat} (h : Lib.TabIs Tryd.prog W name .u32 l) (hg : Tryd.prog.globalNamed name = some g) : W.rangeAt g 0 (cW l) := fun j v hv => by
  have hj : j < l.length := by have := (List.getElem?_eq_some_iff.1 hv).1; rwa [cW_len] at this
  have hc := h.cell hg j hj
  rw [Nat.zero_add, hc, ← hv]
  simp [cW, List.getD_eq_getElem?_getD, List.getElem?_eq_getElem hj]
theorem gn0 : Tryd.prog.globalNamed "massif/massifref01.first" = some 0 := by kernel_rfl
theorem gt0 : (Tryd.prog.globals[0]?).map (·.type) = some 65 := by kernel_rfl
theorem tab0 {W : World} (h0 : laidMetH Tryd.prog Rows.plainFreshRow.laid W) : W.rangeAt 0 0 (cW IV) := by
  exact range_tab (Lib.tabIs_of_head (zs := IV) gn0 gt0 Tryd.underlying65 Tryd.underlying64 cellsT64 cellsT65 h0) gn0
theorem gn1 : Tryd.prog.globalNamed "massif/massifref01.rounds" = some 2 := by kernel_rfl
theorem gt1 : (Tryd.prog.globals[2]?).map (·.type) = some 75 := by kernel_rfl
theorem tab1 {W : World} (h0 : laidMetH Tryd.prog Rows.plainFreshRow.laid W) : W.rangeAt 2 0 (cW RS) := by
  have h1 : laidMet Tryd.prog [("massif/massifref01.rounds", Rows.laid_massif_massifref01_rounds), ("massif/sha.rounds", Rows.laid_massif_sha_rounds)] W := laidMet.tail (h0 : laidMet Tryd.prog Rows.plainFreshRow.laid W)
  exact range_tab (Lib.tabIs_of_head (zs := RS) gn1 gt1 Tryd.underlying75 Tryd.underlying64 cellsT64 cellsT75 h1) gn1
theorem gn2 : Tryd.prog.globalNamed "massif/sha.rounds" = some 1 := by kernel_rfl
theorem gt2 : (Tryd.prog.globals[1]?).map (·.type) = some 75 := by kernel_rfl
theorem tab2 {W : World} (h0 : laidMetH Tryd.prog Rows.plainFreshRow.laid W) : W.rangeAt 1 0 (cW RS) := by
  have h1 : laidMet Tryd.prog [("massif/massifref01.rounds", Rows.laid_massif_massifref01_rounds), ("massif/sha.rounds", Rows.laid_massif_sha_rounds)] W := laidMet.tail (h0 : laidMet Tryd.prog Rows.plainFreshRow.laid W)
  have h2 : laidMet Tryd.prog [("massif/sha.rounds", Rows.laid_massif_sha_rounds)] W := laidMet.tail h1
  exact range_tab (Lib.tabIs_of_head (zs := RS) gn2 gt2 Tryd.underlying75 Tryd.underlying64 cellsT64 cellsT75 h2) gn2
def layTab (l : List Int) : Obj → Obj
  | .cells _ t frozen => .cells (cW l).toArray t frozen
  | o => o
def withTabs (w : World) : World := { w with heap := (((w.heap.modify 0 (layTab IV)).modify 2 (layTab RS)).modify 1 (layTab RS)) }
theorem laid_met (os : Os) : laidMet Tryd.prog Rows.plainFreshRow.laid ((withTabs (World.holding Tryd.prog os ⟨#[], #[], []⟩)).forCall (fun _ _ => 0) ⟨#[], #[.slice none 0 0], []⟩).memory :=
  laidMet_of_run' 8 (by kernel_rfl) (by kernel_rfl)
theorem reads (os : Os) {H : Type} (enc : TypeId × Value → H) : ∃ places, DataW.whole enc Tryd.prog ((withTabs (World.holding Tryd.prog os ⟨#[], #[], []⟩)).forCall (fun _ _ => 0) ⟨#[], #[.slice none 0 0], []⟩).memory Tryd.f5.params.toList Rows.plainFreshSpec.vars false (#[.slice none 0 0] : Array Value).toList 8 = some ([.nil], [], places) :=
  ⟨[], by kernel_rfl⟩
set_option maxRecDepth 100000 in
theorem lifted (os : Os) (started : os.Started) (H : Type) (enc : TypeId × Value → H) (F : Stop.Interp) :
    ReturnsInHanded {} Tryd.checked os 5 .any ((OpenSpec.ofChange Rows.plainFreshSpec).preRow enc Tryd.prog Tryd.f5 Rows.plainFreshRow.domain false Rows.plainFreshRow.laid) (((OpenSpec.ofChange Rows.plainFreshSpec).at F).post enc Tryd.prog Tryd.f5 false true false false) := by
  obtain ⟨places, hx⟩ := reads os enc
  refine returnsInHanded_of_row (C := Tryd.checked) (s := OpenSpec.ofChange Rows.plainFreshSpec) own started (by kernel_rfl) Tryd.func5
    (witness_row_at (enc := enc) (C := Tryd.checked) false (withTabs (World.holding Tryd.prog os ⟨#[], #[], []⟩)) #[.slice none 0 0] rfl (by kernel_rfl) (by kernel_rfl) (by kernel_rfl)
      (OpenSpec.preRow_of_cond 8 hx (by kernel_rfl) (fun k hk => by cases hk) (by kernel_rfl) (laid_met os))) ?_
  intro W base args ds gs before hval0 hW0 _ _ hz0 hL _ _
  show Calls Tryd.prog 5 args W fun e W' => ∃ v, e = .returned v ∧ Rows.plainFreshSpec.post enc Tryd.prog Tryd.f5 false true false false W args v W'
  have hW : DataW.Whole enc Tryd.prog Tryd.f5.params.toList Rows.plainFreshSpec.vars false W args.toList ds gs before := hW0
  have hval : ∀ (j : Nat) t v, Tryd.f5.params[j]? = some t → args[j]? = some v → Value.okWide Tryd.prog W .any base t v := hval0
  have hW' := hW
  obtain ⟨p, q, hA0, hV, rfl, hfz, hnd⟩ := hW
  have hA : DataW.TrodAll enc Tryd.prog W 0 (fun _ => true) true Tryd.f5.params.toList args.toList ds p := hA0
  rw [Tryd.params5] at hA hval
  obtain ⟨v0, vs0, d0, ds0, p0, q0, hargs, rfl, rfl, h0, r0⟩ := trodAll_cons hA
  obtain ⟨rfl, rfl, rfl⟩ := trodAll_nil r0
  obtain rfl : args = #[v0] := by cases args; simp_all
  obtain ⟨rfl, rfl⟩ := trodVars_none hV
  have hz : (DataW.weightsEach Tryd.prog [43] [d0]).all (· ≤ reachBytes) = true := hz0
  clear hz0
  obtain ⟨A0, n0, c0, rfl⟩ := okWide_slice Tryd.underlying43 (hval 0 43 v0 rfl rfl)
  have hk0 := h0
  obtain ⟨fuel0, hf0⟩ := h0
  obtain ⟨b0, o0, l0, rd0, hm0, hc0, hn0⟩ := sliceRdV (j := 0) (by simpa [Value.cells] using hf0) hz rfl rfl
  clear hA0 hval0
  simp only [List.append_nil] at hW'
  have hlt0 : ∀ x ∈ p0, x.block < W.heap.size := fun x hx => by simpa using hW'.lt x hx
  have HT : Tb W := ⟨tab2 hL⟩
  have HR : Tr W := ⟨tab1 hL, tab0 hL⟩
  refine (fresh_row W HT HR A0 b0 o0 n0 c0 l0 rd0 hm0).mono fun e W' ⟨he, hb⟩ => ?_
  subst he
  have hsh := trodAll_cons_mk (Below.trod laidOut (by kernel_rfl) (of_decide_eq_true (by kernel_rfl)) hk0 hb hlt0) trodAll_mk0
  simp only [List.append_nil] at hsh
  exact ⟨_, rfl, _, _, _, [], p0, [], hW', trodAll_cons_mk (shut_bool Tryd.underlying4 _) trodAll_mk0, hsh, rfl, hb.frame _, fun h => by cases h⟩
theorem said : Rows.PlainFreshSaid :=
  OpenClaim.holds_of_cond 5 Tryd.f5 rfl rfl rfl rfl rfl rfl rfl ⟨rfl, rfl, rfl, rfl, rfl⟩ rfl rfl rfl rfl rfl (by kernel_rfl) Tryd.func5 (by kernel_rfl)
    (of_decide_eq_true (by kernel_rfl)) (by unfold Func.isWrapper; first | (rw [if_pos (by decide +kernel)]; kernel_rfl) | (rw [if_neg (by decide +kernel)]; exact ⟨rfl, rfl⟩))
    (fun os started H enc _ F => by rw [OpenClaim.pre_eq_preRow]; exact lifted os started H enc F)
theorem plain (f : FuncId) (fn : Func) (hf : Tryd.pinned.checked.prog.funcNamed "massif/massiflaw08.PlainFresh" = some f) (hfn : Tryd.pinned.checked.prog.funcs[f]? = some fn) :
    false = Tryd.pinned.checked.prog.looks [] ∧ ∀ (j : Nat) t, fn.params[j]? = some t → Tryd.pinned.checked.prog.wantsStandIn t = false := by
  obtain rfl : f = 5 := Option.some.inj ((show Tryd.prog.funcNamed "massif/massiflaw08.PlainFresh" = some 5 by kernel_rfl).symm.trans hf) |>.symm
  obtain rfl : fn = Tryd.f5 := (Option.some.inj (Tryd.func5.symm.trans hfn)).symm
  refine ⟨by kernel_rfl, fun j t ht => ?_⟩
  rw [Tryd.params5] at ht
  have hj : j < 1 := by have := (Array.getElem?_eq_some_iff.1 ht).1; simpa using this
  match j, hj, ht with
  | 0, _, ht => have e : some 43 = some t := ht; cases e; exact (show Tryd.prog.wantsStandIn 43 = false by kernel_rfl)
theorem card : Rows.PlainFreshCardSaid :=
  Claim7.holds_tied_plain_at .later [] _ _ _ _ said (fun _ h => by cases h) (by kernel_rfl) (fun _ h => by cases h) plainFresh_row_tie rfl ⟨rfl, rfl⟩ (by kernel_rfl) rfl plain (by kernel_rfl)
end Go.Proofs.YtihcdmnodpknlaaDoor.plainFresh
namespace Go.Proofs.YtihcdmnodpknlaaDoor
theorem plainFresh_holds : Rows.PlainFreshCardSaid := plainFresh.card
#print axioms plainFresh_holds
end Go.Proofs.YtihcdmnodpknlaaDoor
