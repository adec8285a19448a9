/-
  LightKin: the row. Own work.
-/
import Derived.Test.YtipcenbndhnnhaaGreatDoorRows
import Derived.Test.YtipcenbndhnnhaaGreatDoorCards
import Derived.Test.YtipcenbndhnnhaaGreatDoorTie
import Derived.Deep.DeepHandedRow
import Derived.Lib.LaidTab
import Derived.Stop.LaidErr
import Derived.WalkKit
import Derived.ProofKit
import Derived.OpenShut
import Derived.Below
import Derived.ChangeSame
import Derived.SizedLaws
import Derived.ChangeMaps5
import Derived.Test.YtipcenbndhnnhaaGreatDoorQk50
namespace Go.Proofs.YtipcenbndhnnhaaGreatDoor.lightKin
open Go.ChangeShapes Go.WideShapes Go.ChangeAt Go.RowKit
theorem own : ownKnob Tryz.prog.godebug = none := by kernel_rfl
theorem strShut {H : Type} (enc : TypeId × Value → H) (W' : World) (sp : Nat → Bool) (s : ByteArray) (hs : s.size ≤ maxLen) : DataW.Trod enc Tryz.prog W' 0 sp true 9 (.string s) (.lit (.string s.data.toList)) [] := ⟨1, by simp [DataW.trod, Value.cells, Tryz.underlying9, hs]⟩
theorem cellsA2r : Tryz.prog.cellsOf 51 = 4 := by kernel_rfl
theorem laidOut : laidOutB Tryz.prog = true := by kernel_rfl
theorem cellsRo : Tryz.prog.cellsOf 32 = 2 := by kernel_rfl
theorem cellsRu : Tryz.prog.cellsOf 23 = 1 := by kernel_rfl
theorem cellsRs : Tryz.prog.cellsOf 9 = 1 := by kernel_rfl
theorem openRo {H : Type} {enc : TypeId × Value → H} {W : World} {fuel : Nat} {v0 v1 : Value} {x : DataW H × List MemPlace} (hf : DataW.trod enc Tryz.prog W 0 (fun _ => true) true fuel 32 [v0, v1] = some x) :
    ∃ (n : Nat) (c : ByteArray), v0 = .int .u64 (n : Int) ∧ v1 = .string c := by
  obtain ⟨y0, y1, m, _, _, g0, g1⟩ := trod_struct2 Tryz.underlying32 hf
  simp [cellsRu, cellsRs] at g0 g1
  obtain ⟨z0, e0, _, wf⟩ := DataW.trod_int Tryz.underlying23 g0
  obtain ⟨c, e1, _, _⟩ := DataW.trod_string Tryz.underlying9 g1
  simp at e0 e1
  obtain ⟨n, rfl, _⟩ := u64_nat wf
  exact ⟨n, c, e0, e1⟩
theorem openA2r {H : Type} {enc : TypeId × Value → H} {W : World} {fuel : Nat} {cs : List Value} {x : DataW H × List MemPlace} (hl : cs.length = 4) (hf : DataW.trod enc Tryz.prog W 0 (fun _ => true) true fuel 51 cs = some x) :
    ∃ (n1 : Nat) (c1 : ByteArray) (n2 : Nat) (c2 : ByteArray), cs = [.int .u64 (n1 : Int), .string c1, .int .u64 (n2 : Int), .string c2] := by
  match cs, hl with
  | [v0, v1, v2, v3], _ =>
    obtain ⟨xs, m, _, _, _, hl, hg⟩ := DataW.trod_array Tryz.underlying51 hf
    have h0 := hg 0 (by decide)
    have h1 := hg 1 (by decide)
    simp [cellsRo] at h0 h1
    match xs, hl with
    | [z0, z1], _ =>
      simp at h0 h1
      obtain ⟨n1, c1, rfl, rfl⟩ := openRo h0
      obtain ⟨n2, c2, rfl, rfl⟩ := openRo h1
      exact ⟨n1, c1, n2, c2, rfl⟩
theorem cellsT200 : Tryz.prog.cellsOf 200 = 64 := by kernel_rfl
theorem cellsT179 : Tryz.prog.cellsOf 179 = 8 := by kernel_rfl
theorem cellsT178 : Tryz.prog.cellsOf 178 = 1 := by kernel_rfl
theorem range_tab {W : World} {name : String} {l : List Int} {g : Nat} (h : Lib.TabIs Tryz.prog W name .u32 l) (hg : Tryz.prog.globalNamed name = some g) : W.rangeAt g 0 (cW l) := fun j v hv => by
  have hj : j < l.length := by have := (List.getElem?_eq_some_iff.1 hv).1; rwa [cW_len] at this
  have hc := h.cell hg j hj
  rw [Nat.zero_add, hc, ← hv]
  simp [cW, List.getD_eq_getElem?_getD, List.getElem?_eq_getElem hj]
theorem gn0 : Tryz.prog.globalNamed "massif/massifref01.first" = some 0 := by kernel_rfl
theorem gt0 : (Tryz.prog.globals[0]?).map (·.type) = some 179 := by kernel_rfl
theorem tab0 {W : World} (h0 : laidMetH Tryz.prog Rows.lightKinUptoRow.laid W) : W.rangeAt 0 0 (cW IV) := by
  exact range_tab (Lib.tabIs_of_head (zs := IV) gn0 gt0 Tryz.underlying179 Tryz.underlying178 cellsT178 cellsT179 h0) gn0
theorem gn1 : Tryz.prog.globalNamed "massif/massifref01.rounds" = some 1 := by kernel_rfl
theorem gt1 : (Tryz.prog.globals[1]?).map (·.type) = some 200 := by kernel_rfl
theorem tab1 {W : World} (h0 : laidMetH Tryz.prog Rows.lightKinUptoRow.laid W) : W.rangeAt 1 0 (cW RS) := by
  have h1 : laidMet Tryz.prog [("massif/massifref01.rounds", Rows.laid_massif_massifref01_rounds), ("massif/sha.rounds", Rows.laid_massif_sha_rounds)] W := laidMet.tail (h0 : laidMet Tryz.prog Rows.lightKinUptoRow.laid W)
  exact range_tab (Lib.tabIs_of_head (zs := RS) gn1 gt1 Tryz.underlying200 Tryz.underlying178 cellsT178 cellsT200 h1) gn1
theorem gn2 : Tryz.prog.globalNamed "massif/sha.rounds" = some 3 := by kernel_rfl
theorem gt2 : (Tryz.prog.globals[3]?).map (·.type) = some 200 := by kernel_rfl
theorem tab2 {W : World} (h0 : laidMetH Tryz.prog Rows.lightKinUptoRow.laid W) : W.rangeAt 3 0 (cW RS) := by
  have h1 : laidMet Tryz.prog [("massif/massifref01.rounds", Rows.laid_massif_massifref01_rounds), ("massif/sha.rounds", Rows.laid_massif_sha_rounds)] W := laidMet.tail (h0 : laidMet Tryz.prog Rows.lightKinUptoRow.laid W)
  have h2 : laidMet Tryz.prog [("massif/sha.rounds", Rows.laid_massif_sha_rounds)] W := laidMet.tail h1
  exact range_tab (Lib.tabIs_of_head (zs := RS) gn2 gt2 Tryz.underlying200 Tryz.underlying178 cellsT178 cellsT200 h2) gn2
def layTab (l : List Int) : Obj → Obj
  | .cells _ t frozen => .cells (cW l).toArray t frozen
  | o => o
def withTabs (w : World) : World := { w with heap := (((w.heap.modify 0 (layTab IV)).modify 1 (layTab RS)).modify 3 (layTab RS)) }
theorem laid_met (os : Os) : laidMet Tryz.prog Rows.lightKinUptoRow.laid ((withTabs (World.holding Tryz.prog os ⟨#[], #[], []⟩)).forCall (fun _ _ => 0) ⟨#[], #[.int .i64 0, .agg #[.int .u64 0, .string ByteArray.empty, .int .u64 0, .string ByteArray.empty], .string ByteArray.empty], []⟩).memory :=
  laidMet_of_run' 8 (by kernel_rfl) (by kernel_rfl)
theorem reads (os : Os) {H : Type} (enc : TypeId × Value → H) : ∃ places, DataW.whole enc Tryz.prog ((withTabs (World.holding Tryz.prog os ⟨#[], #[], []⟩)).forCall (fun _ _ => 0) ⟨#[], #[.int .i64 0, .agg #[.int .u64 0, .string ByteArray.empty, .int .u64 0, .string ByteArray.empty], .string ByteArray.empty], []⟩).memory Tryz.f5.params.toList Rows.lightKinSpec.vars false (#[.int .i64 0, .agg #[.int .u64 0, .string ByteArray.empty, .int .u64 0, .string ByteArray.empty], .string ByteArray.empty] : Array Value).toList 8 = some ([.lit (.int .i64 0), .agg [.agg [.lit (.int .u64 0), .lit (.string [])], .agg [.lit (.int .u64 0), .lit (.string [])]], .lit (.string [])], [], places) :=
  ⟨[], by kernel_rfl⟩
set_option maxRecDepth 100000 in
theorem lifted (os : Os) (started : os.Started) (H : Type) (enc : TypeId × Value → H) (F : Stop.Interp) :
    ReturnsInHanded {} Tryz.checked os 5 .any ((Rows.OpenSpec.upto Rows.lightKinSpec).preRow enc Tryz.prog Tryz.f5 Rows.lightKinUptoRow.domain false Rows.lightKinUptoRow.laid) (((Rows.OpenSpec.upto Rows.lightKinSpec).at F).post enc Tryz.prog Tryz.f5 false true false false) := by
  obtain ⟨places, hx⟩ := reads os enc
  refine returnsInHanded_of_row (C := Tryz.checked) (s := Rows.OpenSpec.upto Rows.lightKinSpec) own started (by kernel_rfl) Tryz.func5
    (witness_row_at (enc := enc) (C := Tryz.checked) false (withTabs (World.holding Tryz.prog os ⟨#[], #[], []⟩)) #[.int .i64 0, .agg #[.int .u64 0, .string ByteArray.empty, .int .u64 0, .string ByteArray.empty], .string ByteArray.empty] rfl (by kernel_rfl) (by kernel_rfl) (by kernel_rfl)
      (OpenSpec.preRow_of_cond 8 hx (by kernel_rfl) (fun k hk => by cases hk; kernel_rfl) (by kernel_rfl) (laid_met os))) ?_
  intro W base args ds gs before hval0 hW0 _ hcond hz0 hL _ _
  show Calls Tryz.prog 5 args W fun e W' => ∃ v, e = .returned v ∧ Rows.lightKinSpec.post enc Tryz.prog Tryz.f5 false true false false W args v W'
  have hW : DataW.Whole enc Tryz.prog Tryz.f5.params.toList Rows.lightKinSpec.vars false W args.toList ds gs before := hW0
  have hval : ∀ (j : Nat) t v, Tryz.f5.params[j]? = some t → args[j]? = some v → Value.okWide Tryz.prog W .any base t v := hval0
  have hW' := hW
  obtain ⟨p, q, hA0, hV, rfl, hfz, hnd⟩ := hW
  have hA : DataW.TrodAll enc Tryz.prog W 0 (fun _ => true) true Tryz.f5.params.toList args.toList ds p := hA0
  rw [Tryz.params5] at hA hval
  obtain ⟨v0, vs0, d0, ds0, p0, q0, hargs, rfl, rfl, h0, r0⟩ := trodAll_cons hA
  obtain ⟨v1, vs1, d1, ds1, p1, q1, rfl, rfl, rfl, h1, r1⟩ := trodAll_cons r0
  obtain ⟨v2, vs2, d2, ds2, p2, q2, rfl, rfl, rfl, h2, r2⟩ := trodAll_cons r1
  obtain ⟨rfl, rfl, rfl⟩ := trodAll_nil r2
  obtain rfl : args = #[v0, v1, v2] := by cases args; simp_all
  obtain ⟨rfl, rfl⟩ := trodVars_none hV
  have hz : (DataW.weightsEach Tryz.prog [3, 51, 9] [d0, d1, d2]).all (· ≤ reachBytes) = true := hz0
  clear hz0
  obtain ⟨a0, rfl, rfl, rfl, w0⟩ := open_int Tryz.underlying3 (hval 0 3 v0 rfl rfl) h0
  obtain ⟨cs1, rfl, hsz1, _⟩ : ∃ cs, v1 = .agg cs ∧ cs.size = Tryz.prog.cellsOf 51 ∧ Row.okWide Tryz.prog W .any base 51 cs := by
    have := hval 1 51 v1 rfl rfl
    simpa [Value.okWide, Tryz.underlying51] using this
  rw [cellsA2r] at hsz1
  have hk1 := h1
  obtain ⟨fuel1, hf1⟩ := h1
  obtain ⟨n1, c1, m1, e1, hcs1⟩ := openA2r (cs := cs1.toList) (by simpa using hsz1) (by simpa [Value.cells] using hf1)
  obtain rfl : cs1 = #[.int .u64 (n1 : Int), .string c1, .int .u64 (m1 : Int), .string e1] := by cases cs1; simp_all
  obtain ⟨s2, rfl, rfl, rfl, ws2⟩ := Go.ChangeMaps.open_string Tryz.underlying9 (hval 2 9 v2 rfl rfl) h2
  clear hA0 hval0
  simp only [List.append_nil] at hW'
  have ks2 : s2.size ≤ 1048576 := by
    have h := of_decide_eq_true (hcond _ rfl)
    simp only [List.append_nil, Rows.uptoBulkAll, Rows.uptoBulk] at h
    have e : s2.data.toList.length = s2.size := by rw [Array.length_toList]; rfl
    omega
  have ls2 : s2.size ≤ 140737488351232 := by have := sized_string hz (j := 2) rfl rfl; rw [Array.length_toList] at this; exact this
  have hlt1 : ∀ x ∈ p1, x.block < W.heap.size := fun x hx => by simpa using hW'.lt x hx
  have HT : Tb W := ⟨tab2 hL⟩
  have HR : Tr W := ⟨tab1 hL, tab0 hL⟩
  refine (kin_walk W HT HR a0 n1 c1 m1 e1 s2 (Nat.le_trans ks2 (by decide))).mono fun e W' ⟨he, hb⟩ => ?_
  subst he
  have hsh := trodAll_cons_mk (shut_int Tryz.underlying3 w0) (trodAll_cons_mk (Below.trod laidOut (by kernel_rfl) (of_decide_eq_true (by kernel_rfl)) hk1 hb hlt1) (trodAll_cons_mk (strShut enc _ _ s2 ws2) trodAll_mk0))
  simp only [List.append_nil, List.nil_append] at hsh
  exact ⟨_, rfl, _, _, _, [], p1, [], hW', trodAll_cons_mk (shut_bool Tryz.underlying4 _) trodAll_mk0, hsh, rfl, hb.frame _, fun h => by cases h⟩
theorem said : Rows.LightKinUptoSaid :=
  OpenClaim.holds_of_cond 5 Tryz.f5 rfl rfl rfl rfl rfl rfl rfl ⟨rfl, rfl, rfl, rfl, rfl⟩ rfl rfl rfl rfl rfl (by kernel_rfl) Tryz.func5 (by kernel_rfl)
    (of_decide_eq_true (by kernel_rfl)) (by unfold Func.isWrapper; first | (rw [if_pos (by decide +kernel)]; kernel_rfl) | (rw [if_neg (by decide +kernel)]; exact ⟨rfl, rfl⟩))
    (fun os started H enc _ F => by rw [OpenClaim.pre_eq_preRow]; exact lifted os started H enc F)
theorem plain (f : FuncId) (fn : Func) (hf : Tryz.pinned.checked.prog.funcNamed "massif/massiflaw15.LightKin" = some f) (hfn : Tryz.pinned.checked.prog.funcs[f]? = some fn) :
    false = Tryz.pinned.checked.prog.looks [] ∧ ∀ (j : Nat) t, fn.params[j]? = some t → Tryz.pinned.checked.prog.wantsStandIn t = false := by
  obtain rfl : f = 5 := Option.some.inj ((show Tryz.prog.funcNamed "massif/massiflaw15.LightKin" = some 5 by kernel_rfl).symm.trans hf) |>.symm
  obtain rfl : fn = Tryz.f5 := (Option.some.inj (Tryz.func5.symm.trans hfn)).symm
  refine ⟨by kernel_rfl, fun j t ht => ?_⟩
  rw [Tryz.params5] at ht
  have hj : j < 3 := by have := (Array.getElem?_eq_some_iff.1 ht).1; simpa using this
  match j, hj, ht with
  | 0, _, ht => have e : some 3 = some t := ht; cases e; exact (show Tryz.prog.wantsStandIn 3 = false by kernel_rfl)
  | 1, _, ht => have e : some 51 = some t := ht; cases e; exact (show Tryz.prog.wantsStandIn 51 = false by kernel_rfl)
  | 2, _, ht => have e : some 9 = some t := ht; cases e; exact (show Tryz.prog.wantsStandIn 9 = false by kernel_rfl)
theorem card : Rows.LightKinUptoCardSaid :=
  Claim7.holds_tied_plain_at .later [] _ _ _ _ said (fun _ h => by cases h) (by kernel_rfl) (fun _ h => by cases h) lightKinUpto_row_tie rfl ⟨rfl, rfl⟩ (by kernel_rfl) rfl plain (by kernel_rfl)
end Go.Proofs.YtipcenbndhnnhaaGreatDoor.lightKin
namespace Go.Proofs.YtipcenbndhnnhaaGreatDoor
theorem lightKin_holds : Rows.LightKinUptoCardSaid := lightKin.card
#print axioms lightKin_holds
end Go.Proofs.YtipcenbndhnnhaaGreatDoor
