/-
  KinTurned: the row. Own work.
-/
import Derived.Test.YtdkcliblbaldhaaDoorRows
import Derived.Test.YtdkcliblbaldhaaDoorCards
import Derived.Test.YtdkcliblbaldhaaDoorTie
import Derived.Deep.DeepHandedRow
import Derived.Lib.LaidTab
import Derived.Stop.LaidErr
import Derived.Test.YtdkcliblbaldhaaDoorJTurn
import Derived.WalkKit
import Derived.ProofKit
import Derived.OpenShut
import Derived.Below
import Derived.ChangeSame
import Derived.SizedLaws
import Derived.ChangeMaps5
import Derived.SliceStrings
import Derived.Carry
namespace Go.Proofs.YtdkcliblbaldhaaDoor.kinTurned
open Go.ChangeShapes Go.WideShapes Go.ChangeAt Go.RowKit
theorem own : ownKnob Tryd.prog.godebug = none := by kernel_rfl
theorem laidOut : laidOutB Tryd.prog = true := by kernel_rfl
theorem cellsS1 : Tryd.prog.cellsOf 9 = 1 := by kernel_rfl
theorem bytesS1 : Tryd.prog.bytesOf 9 = 16 := by kernel_rfl
theorem weights_strs {H : Type} (l : List ByteArray) (s : ByteArray) (hs : s ∈ l) : s.size ∈ DataW.weightsAll Tryd.prog 9 (strs (H := H) l) := by
  induction l with
  | nil => cases hs
  | cons x r ih =>
    simp only [strs, List.map_cons, DataW.weightsAll, DataW.weights, List.mem_append, List.mem_singleton]
    rcases List.mem_cons.1 hs with rfl | h
    · left; rw [Array.length_toList]; rfl
    · right; exact ih h
theorem sliceRdS {H : Type} {enc : TypeId × Value → H} {W : World} {fuel : Nat} {ao : Option Addr} {len cap : Nat} {x : DataW H × List MemPlace} {ts : List TypeId} {ds : List (DataW H)} {j : Nat} (hf : DataW.trod enc Tryd.prog W 0 (fun _ => true) true fuel 22 [.slice ao len cap] = some x)
    (hz : (DataW.weightsEach Tryd.prog ts ds).all (· ≤ reachBytes) = true) (hj : ts[j]? = some 22) (hd : ds[j]? = some x.1) :
    ∃ (b off : Nat) (ss : List ByteArray), RdS W ao b off len ss ∧ (∀ s ∈ ss, s.size ≤ 140737488351232) ∧ len ≤ 8796093021952 ∧ len ≤ cap ∧ (ao = none → cap = 0) := by
  rcases open_strings Tryd.underlying22 Tryd.underlying9 cellsS1 hf with ⟨hcs, hx⟩ | ⟨a, len', cap', ss, hcs, _, hl, hm, hzl, hx, hcell, hws⟩
  · simp at hcs
    obtain ⟨rfl, rfl, rfl⟩ := hcs
    exact ⟨0, 0, [], ⟨rfl, fun h => absurd h (Nat.lt_irrefl 0), (fun j v h => by cases h), (fun s h => by cases h)⟩, (fun s h => by cases h), Nat.zero_le _, Nat.le_refl _, fun _ => rfl⟩
  · simp at hcs
    obtain ⟨rfl, rfl, rfl⟩ := hcs
    simp only [if_true] at hzl
    have hcap : cap ≤ 8796093021952 := by
      have hd' := hd
      rw [hx] at hd'
      have h1 := List.all_eq_true.1 hz _ (DataW.weights_mem_each hj hd' _ (by simp only [DataW.weights, Tryd.underlying22]; exact List.mem_cons_self))
      have h2 := of_decide_eq_true h1
      simp only [strs, List.length_map, List.length_take, List.length_drop, bytesS1] at h2
      unfold reachBytes at h2
      omega
    have hsz : ∀ s ∈ ss.take len, s.size ≤ 140737488351232 := fun s hs => by
      rw [hx] at hd
      have := List.all_eq_true.1 hz _ (DataW.weights_mem_each hj hd s.size (by simp only [DataW.weights, Tryd.underlying22, List.mem_cons, List.mem_append]; exact Or.inr (Or.inl (weights_strs _ s hs))))
      exact of_decide_eq_true this
    by_cases h0 : len = 0
    · subst h0
      exact ⟨0, 0, [], ⟨rfl, fun h => absurd h (Nat.lt_irrefl 0), (fun j v h => by cases h), (fun s h => by cases h)⟩, (fun s h => by cases h), Nat.zero_le _, hl, fun h => by cases h⟩
    · obtain ⟨b, off, spot⟩ := a
      have hspot : spot = none := by simpa [Addr.add] using World.cell?_spot (hcell 0 (by omega))
      subst hspot
      refine ⟨b, off, ss.take len, ⟨by rw [List.length_take]; omega, fun _ => rfl, fun j v hv => ?_, fun s hs => Nat.le_trans (hsz s hs) (by decide)⟩, hsz, by omega, hl, fun h => by cases h⟩
      have hj : j < len := by have := (List.getElem?_eq_some_iff.1 hv).1; rw [List.length_map, List.length_take] at this; omega
      have hc := hcell j (by omega)
      rw [Addr.add_mid] at hc
      rw [hc, ← hv]
      simp [hj, List.getD_eq_getElem?_getD, List.getElem?_eq_getElem (show j < ss.length by omega)]
theorem cellsTu : Tryd.prog.cellsOf 49 = 3 := by kernel_rfl
theorem cellsTI : Tryd.prog.cellsOf 3 = 1 := by kernel_rfl
theorem cellsTB : Tryd.prog.cellsOf 5 = 1 := by kernel_rfl
set_option maxRecDepth 100000 in
theorem openTu {H : Type} {enc : TypeId × Value → H} {W : World} {fuel : Nat} {cs : List Value} {x : DataW H × List MemPlace} (hl : cs.length = 3) (hf : DataW.trod enc Tryd.prog W 0 (fun _ => true) true fuel 49 cs = some x) :
    ∃ (a b : Int) (y : Nat), cs = [.int .i64 a, .int .i64 b, .int .u8 (y : Int)] ∧ y < 256 := by
  obtain ⟨xs, k, hk, hxy, _, hxl, hg⟩ := DataW.trod_struct Tryd.underlying49 hf
  match xs, hxl, cs, hl with
  | [y0, y1, y2], _, [v0, v1, v2], _ =>
    have g0 := hg 0 _ rfl
    have g1 := hg 1 _ rfl
    have g2 := hg 2 _ rfl
    simp [cellsTI, cellsTB] at g0 g1 g2
    obtain ⟨z0, e0, f0, _⟩ := DataW.trod_int Tryd.underlying3 g0
    obtain ⟨z1, e1, f1, _⟩ := DataW.trod_int Tryd.underlying3 g1
    obtain ⟨z2, e2, f2, wf2⟩ := DataW.trod_int Tryd.underlying5 g2
    simp only [List.cons.injEq, and_true] at e0 e1 e2
    subst e0 e1 e2
    have hb := bounds_u8 wf2
    exact ⟨z0, z1, z2.toNat, by rw [Int.toNat_of_nonneg hb.1], by omega⟩
theorem cellsT128 : Tryd.prog.cellsOf 128 = 64 := by kernel_rfl
theorem cellsT118 : Tryd.prog.cellsOf 118 = 1 := by kernel_rfl
theorem range_tab {W : World} {name : String} {l : List Int} {g : Nat} (h : Lib.TabIs Tryd.prog W name .u32 l) (hg : Tryd.prog.globalNamed name = some g) : W.rangeAt g 0 (cW l) := fun j v hv => by
  have hj : j < l.length := by have := (List.getElem?_eq_some_iff.1 hv).1; rwa [cW_len] at this
  have hc := h.cell hg j hj
  rw [Nat.zero_add, hc, ← hv]
  simp [cW, List.getD_eq_getElem?_getD, List.getElem?_eq_getElem hj]
theorem gn0 : Tryd.prog.globalNamed "massif/sha.rounds" = some 0 := by kernel_rfl
theorem gt0 : (Tryd.prog.globals[0]?).map (·.type) = some 128 := by kernel_rfl
theorem tab0 {W : World} (h0 : laidMetH Tryd.prog Rows.kinTurnedRow.laid W) : W.rangeAt 0 0 (cW RS) := by
  exact range_tab (Lib.tabIs_of_head (zs := RS) gn0 gt0 Tryd.underlying128 Tryd.underlying118 cellsT118 cellsT128 h0) gn0
def layTab (l : List Int) : Obj → Obj
  | .cells _ t frozen => .cells (cW l).toArray t frozen
  | o => o
def withTabs (w : World) : World := { w with heap := (w.heap.modify 0 (layTab RS)) }
theorem laid_met (os : Os) : laidMet Tryd.prog Rows.kinTurnedRow.laid ((withTabs (World.holding Tryd.prog os ⟨#[], #[], []⟩)).forCall (fun _ _ => 0) ⟨#[], #[.int .i64 0, .slice none 0 0, .agg #[.int .i64 0, .int .i64 0, .int .u8 0]], []⟩).memory :=
  laidMet_of_run' 8 (by kernel_rfl) (by kernel_rfl)
theorem reads (os : Os) {H : Type} (enc : TypeId × Value → H) : ∃ places, DataW.whole enc Tryd.prog ((withTabs (World.holding Tryd.prog os ⟨#[], #[], []⟩)).forCall (fun _ _ => 0) ⟨#[], #[.int .i64 0, .slice none 0 0, .agg #[.int .i64 0, .int .i64 0, .int .u8 0]], []⟩).memory Tryd.f4.params.toList Rows.kinTurnedSpec.vars false (#[.int .i64 0, .slice none 0 0, .agg #[.int .i64 0, .int .i64 0, .int .u8 0]] : Array Value).toList 8 = some ([.lit (.int .i64 0), .nil, .agg [.lit (.int .i64 0), .lit (.int .i64 0), .lit (.int .u8 0)]], [], places) :=
  ⟨[], by kernel_rfl⟩
set_option maxRecDepth 100000 in
theorem lifted (os : Os) (started : os.Started) (H : Type) (enc : TypeId × Value → H) (F : Stop.Interp) :
    ReturnsInHanded {} Tryd.checked os 4 .any ((OpenSpec.ofChange Rows.kinTurnedSpec).preRow enc Tryd.prog Tryd.f4 Rows.kinTurnedRow.domain false Rows.kinTurnedRow.laid) (((OpenSpec.ofChange Rows.kinTurnedSpec).at F).post enc Tryd.prog Tryd.f4 false true false false) := by
  obtain ⟨places, hx⟩ := reads os enc
  refine returnsInHanded_of_row (C := Tryd.checked) (s := OpenSpec.ofChange Rows.kinTurnedSpec) own started (by kernel_rfl) Tryd.func4
    (witness_row_at (enc := enc) (C := Tryd.checked) false (withTabs (World.holding Tryd.prog os ⟨#[], #[], []⟩)) #[.int .i64 0, .slice none 0 0, .agg #[.int .i64 0, .int .i64 0, .int .u8 0]] rfl (by kernel_rfl) (by kernel_rfl) (by kernel_rfl)
      (OpenSpec.preRow_of_cond 8 hx (by kernel_rfl) (fun k hk => by cases hk) (by kernel_rfl) (laid_met os))) ?_
  intro W base args ds gs before hval0 hW0 _ _ hz0 hL _ _
  show Calls Tryd.prog 4 args W fun e W' => ∃ v, e = .returned v ∧ Rows.kinTurnedSpec.post enc Tryd.prog Tryd.f4 false true false false W args v W'
  have hW : DataW.Whole enc Tryd.prog Tryd.f4.params.toList Rows.kinTurnedSpec.vars false W args.toList ds gs before := hW0
  have hval : ∀ (j : Nat) t v, Tryd.f4.params[j]? = some t → args[j]? = some v → Value.okWide Tryd.prog W .any base t v := hval0
  have hW' := hW
  obtain ⟨p, q, hA0, hV, rfl, hfz, hnd⟩ := hW
  have hA : DataW.TrodAll enc Tryd.prog W 0 (fun _ => true) true Tryd.f4.params.toList args.toList ds p := hA0
  rw [Tryd.params4] at hA hval
  obtain ⟨v0, vs0, d0, ds0, p0, q0, hargs, rfl, rfl, h0, r0⟩ := trodAll_cons hA
  obtain ⟨v1, vs1, d1, ds1, p1, q1, rfl, rfl, rfl, h1, r1⟩ := trodAll_cons r0
  obtain ⟨v2, vs2, d2, ds2, p2, q2, rfl, rfl, rfl, h2, r2⟩ := trodAll_cons r1
  obtain ⟨rfl, rfl, rfl⟩ := trodAll_nil r2
  obtain rfl : args = #[v0, v1, v2] := by cases args; simp_all
  obtain ⟨rfl, rfl⟩ := trodVars_none hV
  have hz : (DataW.weightsEach Tryd.prog [3, 22, 49] [d0, d1, d2]).all (· ≤ reachBytes) = true := hz0
  clear hz0
  obtain ⟨a0, rfl, rfl, rfl, w0⟩ := open_int Tryd.underlying3 (hval 0 3 v0 rfl rfl) h0
  obtain ⟨A1, n1, c1, rfl⟩ := okWide_slice Tryd.underlying22 (hval 1 22 v1 rfl rfl)
  have hk1 := h1
  obtain ⟨fuel1, hf1⟩ := h1
  obtain ⟨b1, o1, l1, rd1, hs1, hm1, hc1, hn1⟩ := sliceRdS (j := 1) (by simpa [Value.cells] using hf1) hz rfl rfl
  obtain ⟨cs2, rfl, hsz2⟩ := okWide_struct Tryd.underlying49 (hval 2 49 v2 rfl rfl)
  rw [cellsTu] at hsz2
  have hk2 := h2
  obtain ⟨fuel2, hf2⟩ := h2
  obtain ⟨ta2, tb2, ty2, hcs2, hy2⟩ := openTu (cs := cs2.toList) (by simpa using hsz2) (by simpa [Value.cells] using hf2)
  obtain rfl : cs2 = #[.int .i64 ta2, .int .i64 tb2, .int .u8 (ty2 : Int)] := by cases cs2; simp_all
  clear hA0 hval0
  simp only [List.append_nil, List.nil_append] at hW'
  have hlt1 : ∀ x ∈ p1, x.block < W.heap.size := fun x hx => by simpa using hW'.lt x (by simp [hx])
  have hlt2 : ∀ x ∈ p2, x.block < W.heap.size := fun x hx => by simpa using hW'.lt x (by simp [hx])
  have HT : Tb W := ⟨tab0 hL⟩
  refine (turned_walk W HT a0 A1 b1 o1 n1 c1 l1 rd1 (by omega) ta2 tb2 ty2 hy2).mono fun e W' ⟨he, hb⟩ => ?_
  subst he
  have hsh := trodAll_cons_mk (shut_int Tryd.underlying3 w0) (trodAll_cons_mk (Below.trod laidOut (by kernel_rfl) (of_decide_eq_true (by kernel_rfl)) hk1 hb hlt1) (trodAll_cons_mk (Below.trod laidOut (by kernel_rfl) (of_decide_eq_true (by kernel_rfl)) hk2 hb hlt2) trodAll_mk0))
  simp only [List.append_nil, List.nil_append] at hsh
  exact ⟨_, rfl, _, _, _, [], p1 ++ (p2), [], hW', trodAll_cons_mk (shut_bool Tryd.underlying4 _) trodAll_mk0, hsh, rfl, hb.frame _, fun h => by cases h⟩
theorem said : Rows.KinTurnedSaid :=
  OpenClaim.holds_of_cond 4 Tryd.f4 rfl rfl rfl rfl rfl rfl rfl ⟨rfl, rfl, rfl, rfl, rfl⟩ rfl rfl rfl rfl rfl (by kernel_rfl) Tryd.func4 (by kernel_rfl)
    (of_decide_eq_true (by kernel_rfl)) (by unfold Func.isWrapper; first | (rw [if_pos (by decide +kernel)]; kernel_rfl) | (rw [if_neg (by decide +kernel)]; exact ⟨rfl, rfl⟩))
    (fun os started H enc _ F => by rw [OpenClaim.pre_eq_preRow]; exact lifted os started H enc F)
theorem plain (f : FuncId) (fn : Func) (hf : Tryd.pinned.checked.prog.funcNamed "massif/massiflaw13.KinTurned" = some f) (hfn : Tryd.pinned.checked.prog.funcs[f]? = some fn) :
    false = Tryd.pinned.checked.prog.looks [] ∧ ∀ (j : Nat) t, fn.params[j]? = some t → Tryd.pinned.checked.prog.wantsStandIn t = false := by
  obtain rfl : f = 4 := Option.some.inj ((show Tryd.prog.funcNamed "massif/massiflaw13.KinTurned" = some 4 by kernel_rfl).symm.trans hf) |>.symm
  obtain rfl : fn = Tryd.f4 := (Option.some.inj (Tryd.func4.symm.trans hfn)).symm
  refine ⟨by kernel_rfl, fun j t ht => ?_⟩
  rw [Tryd.params4] at ht
  have hj : j < 3 := by have := (Array.getElem?_eq_some_iff.1 ht).1; simpa using this
  match j, hj, ht with
  | 0, _, ht => have e : some 3 = some t := ht; cases e; exact (show Tryd.prog.wantsStandIn 3 = false by kernel_rfl)
  | 1, _, ht => have e : some 22 = some t := ht; cases e; exact (show Tryd.prog.wantsStandIn 22 = false by kernel_rfl)
  | 2, _, ht => have e : some 49 = some t := ht; cases e; exact (show Tryd.prog.wantsStandIn 49 = false by kernel_rfl)
theorem card : Rows.KinTurnedCardSaid :=
  Claim7.holds_tied_plain_at .later [] _ _ _ _ said (fun _ h => by cases h) (by kernel_rfl) (fun _ h => by cases h) kinTurned_row_tie rfl ⟨rfl, rfl⟩ (by kernel_rfl) rfl plain (by kernel_rfl)
end Go.Proofs.YtdkcliblbaldhaaDoor.kinTurned
namespace Go.Proofs.YtdkcliblbaldhaaDoor
theorem kinTurned_holds : Rows.KinTurnedCardSaid := kinTurned.card
#print axioms kinTurned_holds
end Go.Proofs.YtdkcliblbaldhaaDoor
