/-
  RecordLays: the row, where what comes in is small. Own work.
-/
import Derived.Test.YtggkjleibhpnfaaRows
import Derived.Test.YtggkjleibhpnfaaNLys
import Derived.Test.YtggkjleibhpnfaaNRowL
import Derived.WalkKit
import Derived.ProofKit
import Derived.OpenShut
import Derived.Below
import Derived.ChangeSame
import Derived.ChangeMaps5
import Derived.JoinedCond
import Derived.SliceStrings
import Derived.Deep.SlicePairs
import Derived.Carry
namespace Go.Proofs.Ytggkjleibhpnfaa.recordLays
open Go.ChangeShapes Go.WideShapes Go.ChangeAt Go.RowKit
theorem own : ownKnob Try.prog.godebug = none := by kernel_rfl
theorem laidOut : laidOutB Try.prog = true := by kernel_rfl
theorem cellsMk : Try.prog.cellsOf 25 = 5 := by kernel_rfl
theorem cellsMkI : Try.prog.cellsOf 3 = 1 := by kernel_rfl
theorem cellsMkU : Try.prog.cellsOf 22 = 1 := by kernel_rfl
theorem cellsMkW : Try.prog.cellsOf 23 = 1 := by kernel_rfl
set_option maxRecDepth 100000 in
theorem openMk {H : Type} {enc : TypeId × Value → H} {W : World} {fuel : Nat} {cs : List Value} {x : DataW H × List MemPlace} (hl : cs.length = 5) (hf : DataW.trod enc Try.prog W 0 (fun _ => true) true fuel 25 cs = some x) :
    ∃ (k : Int) (a b c : Nat) (d : BitVec 32), cs = [.int .i64 k, .int .u64 (a : Int), .int .u64 (b : Int), .int .u64 (c : Int), .int .u32 (d.toNat : Int)] ∧ a < 18446744073709551616 ∧ b < 18446744073709551616 ∧ c < 18446744073709551616 := by
  obtain ⟨xs, k, hk, hxy, _, hxl, hg⟩ := DataW.trod_struct Try.underlying25 hf
  match xs, hxl, cs, hl with
  | [y0, y1, y2, y3, y4], _, [v0, v1, v2, v3, v4], _ =>
    have g0 := hg 0 _ rfl
    have g1 := hg 1 _ rfl
    have g2 := hg 2 _ rfl
    have g3 := hg 3 _ rfl
    have g4 := hg 4 _ rfl
    simp [cellsMkI, cellsMkU, cellsMkW] at g0 g1 g2 g3 g4
    obtain ⟨z0, e0, f0, _⟩ := DataW.trod_int Try.underlying3 g0
    obtain ⟨z1, e1, f1, wf1⟩ := DataW.trod_int Try.underlying22 g1
    obtain ⟨z2, e2, f2, wf2⟩ := DataW.trod_int Try.underlying22 g2
    obtain ⟨z3, e3, f3, wf3⟩ := DataW.trod_int Try.underlying22 g3
    obtain ⟨z4, e4, f4, wf4⟩ := DataW.trod_int Try.underlying23 g4
    simp only [List.cons.injEq, and_true] at e0 e1 e2 e3 e4
    subst e0 e1 e2 e3 e4
    have hb1 := bounds_u64 wf1
    have hb2 := bounds_u64 wf2
    have hb3 := bounds_u64 wf3
    have hb4 := bounds_u32 wf4
    have q4 : ((BitVec.ofNat 32 z4.toNat).toNat : Int) = z4 := by rw [BitVec.toNat_ofNat]; omega
    exact ⟨z0, z1.toNat, z2.toNat, z3.toNat, BitVec.ofNat 32 z4.toNat, by rw [Int.toNat_of_nonneg hb1.1, Int.toNat_of_nonneg hb2.1, Int.toNat_of_nonneg hb3.1, q4], by omega, by omega, by omega⟩
theorem strShut {H : Type} (enc : TypeId × Value → H) (W' : World) (sp : Nat → Bool) (s : ByteArray) (hs : s.size ≤ maxLen) : DataW.Trod enc Try.prog W' 0 sp true 9 (.string s) (.lit (.string s.data.toList)) [] := ⟨1, by simp [DataW.trod, Value.cells, Try.underlying9, hs]⟩
set_option maxRecDepth 100000 in
theorem contract (H : Type) (enc : TypeId × Value → H) (W : World) (base : Nat) (args : Array Value) (ds gs : List (DataW H)) (before : List MemPlace)
    (hval : ∀ (j : Nat) t v, Try.f5.params[j]? = some t → args[j]? = some v → Value.okWide Try.prog W .any base t v)
    (hW : DataW.Whole enc Try.prog Try.f5.params.toList Rows.recordLaysSpec.vars false W args.toList ds gs before) (hk : Rows.uptoSmall H (ds ++ gs) = true) :
    Calls Try.prog 5 args W fun e W' => ∃ v, e = .returned v ∧ Rows.recordLaysSpec.post enc Try.prog Try.f5 false true false false W args v W' := by
  have hW' := hW
  obtain ⟨p, q, hA0, hV, rfl, hfz, hnd⟩ := hW
  have hA : DataW.TrodAll enc Try.prog W 0 (fun _ => true) true Try.f5.params.toList args.toList ds p := hA0
  rw [Try.params5] at hA hval
  obtain ⟨v0, vs0, d0, ds0, p0, q0, hargs, rfl, rfl, h0, r0⟩ := trodAll_cons hA
  obtain ⟨v1, vs1, d1, ds1, p1, q1, rfl, rfl, rfl, h1, r1⟩ := trodAll_cons r0
  obtain ⟨v2, vs2, d2, ds2, p2, q2, rfl, rfl, rfl, h2, r2⟩ := trodAll_cons r1
  obtain ⟨v3, vs3, d3, ds3, p3, q3, rfl, rfl, rfl, h3, r3⟩ := trodAll_cons r2
  obtain ⟨v4, vs4, d4, ds4, p4, q4, rfl, rfl, rfl, h4, r4⟩ := trodAll_cons r3
  obtain ⟨rfl, rfl, rfl⟩ := trodAll_nil r4
  obtain rfl : args = #[v0, v1, v2, v3, v4] := by cases args; simp_all
  obtain ⟨rfl, rfl⟩ := trodVars_none hV
  have hk2 : Rows.uptoBulk d0 ≤ 1048576 ∧ Rows.uptoBulk d2 ≤ 1048576 ∧ Rows.uptoBulk d4 ≤ 1048576 := by
    have hq : Rows.uptoSmall H [d0, d1, d2, d3, d4] = true := by simpa using hk
    have h : Rows.uptoBulkAll (H := H) [d0, d1, d2, d3, d4] ≤ 1048576 := of_decide_eq_true hq
    simp only [Rows.uptoBulkAll] at h
    omega
  obtain ⟨s0, rfl, rfl, rfl, ws0⟩ := Go.ChangeMaps.open_string Try.underlying9 (hval 0 9 v0 rfl rfl) h0
  obtain ⟨a1, rfl, rfl, rfl, w1⟩ := open_int Try.underlying22 (hval 1 22 v1 rfl rfl) h1
  obtain ⟨s2, rfl, rfl, rfl, ws2⟩ := Go.ChangeMaps.open_string Try.underlying9 (hval 2 9 v2 rfl rfl) h2
  have l0 : s0.size ≤ 1048576 := by
    have h := hk2.1
    simp only [Rows.uptoBulk] at h
    have e : s0.data.toList.length = s0.size := by rw [Array.length_toList]; rfl
    omega
  have l2 : s2.size ≤ 1048576 := by
    have h := hk2.2.1
    simp only [Rows.uptoBulk] at h
    have e : s2.data.toList.length = s2.size := by rw [Array.length_toList]; rfl
    omega
  obtain ⟨cs3, rfl, hsz3⟩ := okWide_struct Try.underlying25 (hval 3 25 v3 rfl rfl)
  rw [cellsMk] at hsz3
  have hk3 := h3
  obtain ⟨fuel3, hf3⟩ := h3
  obtain ⟨mk3, ma3, mb3, mc3, md3, hcs3, hma3, hmb3, hmc3⟩ := openMk (cs := cs3.toList) (by simpa using hsz3) (by simpa [Value.cells] using hf3)
  obtain rfl : cs3 = #[.int .i64 mk3, .int .u64 (ma3 : Int), .int .u64 (mb3 : Int), .int .u64 (mc3 : Int), .int .u32 (md3.toNat : Int)] := by cases cs3; simp_all
  obtain ⟨A4, n4, c4, rfl⟩ := okWide_slice Try.underlying40 (hval 4 40 v4 rfl rfl)
  have hk4 := h4
  obtain ⟨fuel4, hf4⟩ := h4
  obtain ⟨b4, o4, l4, rfl, rd4, hm4, hn4, hl4⟩ := sliceRdU (by simpa [Value.cells] using hf4) hk2.2.2
  obtain ⟨p1', rfl, hp1⟩ := u64_nat w1
  clear hA0
  simp only [List.append_nil, List.nil_append] at hW' hk
  have hlt3 : ∀ x ∈ p3, x.block < W.heap.size := fun x hx => by simpa using hW'.lt x (by simp [hx])
  have hlt4 : ∀ x ∈ p4, x.block < W.heap.size := fun x hx => by simpa using hW'.lt x (by simp [hx])
  refine (lays_walk W s0 l0 p1' hp1 s2 l2 mk3 ma3 mb3 mc3 hma3 hmb3 hmc3 md3 A4 b4 o4 c4 l4 rd4 hm4 hn4 hl4).mono fun e W' ⟨he, hb⟩ => ?_
  subst he
  have hsh := trodAll_cons_mk (strShut enc W' _ s0 ws0) (trodAll_cons_mk (shut_int Try.underlying22 w1) (trodAll_cons_mk (strShut enc W' _ s2 ws2) (trodAll_cons_mk (Below.trod laidOut (by kernel_rfl) (of_decide_eq_true (by kernel_rfl)) hk3 hb hlt3) (trodAll_cons_mk (Below.trod laidOut (by kernel_rfl) (of_decide_eq_true (by kernel_rfl)) hk4 hb hlt4) trodAll_mk0))))
  simp only [List.append_nil, List.nil_append] at hsh
  exact ⟨_, rfl, _, _, _, [], p3 ++ p4, [], hW', trodAll_cons_mk (shut_bool Try.underlying4 _) trodAll_mk0, hsh, rfl, hb.frame _, fun h => by cases h⟩
set_option maxRecDepth 100000 in
theorem lifted (os : Os) (started : os.Started) (H : Type) (enc : TypeId × Value → H) (F : Stop.Interp) :
    ReturnsInHanded {} Try.checked os 5 .any ((Rows.OpenSpec.upto Rows.recordLaysSpec).pre6 enc Try.prog Try.f5 Rows.recordLaysUptoRow.domain false) (((Rows.OpenSpec.upto Rows.recordLaysSpec).at F).post enc Try.prog Try.f5 false true false false) := by
  refine returnsInHanded_of_cond (C := Try.checked) (s := Rows.OpenSpec.upto Rows.recordLaysSpec) (k := Rows.uptoSmall) rfl own started (by kernel_rfl) Try.func5
    (OpenSpec.witness (enc := enc) (C := Try.checked) (s := Rows.OpenSpec.upto Rows.recordLaysSpec) (k := Rows.uptoSmall) rfl false ⟨#[], #[.string .empty, .int .u64 0, .string .empty, .agg #[.int .i64 0, .int .u64 0, .int .u64 0, .int .u64 0, .int .u32 0], .slice none 0 0], []⟩ 8 (by kernel_rfl) (by kernel_rfl) (by kernel_rfl)
      (x := ([.lit (.string []), .lit (.int .u64 0), .lit (.string []), .agg [.lit (.int .i64 0), .lit (.int .u64 0), .lit (.int .u64 0), .lit (.int .u64 0), .lit (.int .u32 0)], .nil], [], [])) (by kernel_rfl) rfl (by kernel_rfl)) ?_
  intro W base args ds gs before hval hW _ hk _
  exact contract H enc W base args ds gs before hval hW hk
theorem over : Rows.RecordLaysUptoSaid :=
  OpenClaim.holds_of_cond 5 Try.f5 rfl rfl rfl rfl rfl rfl rfl ⟨rfl, rfl, rfl, rfl, rfl⟩ rfl rfl rfl rfl rfl (by kernel_rfl) Try.func5 (by kernel_rfl)
    (of_decide_eq_true (by kernel_rfl)) (by unfold Func.isWrapper; first | (rw [if_pos (by decide +kernel)]; kernel_rfl) | (rw [if_neg (by decide +kernel)]; exact ⟨rfl, rfl⟩))
    (fun os started H enc _ F => lifted os started H enc F)
end Go.Proofs.Ytggkjleibhpnfaa.recordLays
namespace Go.Proofs.Ytggkjleibhpnfaa
theorem recordLays_holds : Rows.RecordLaysUptoSaid := recordLays.over
#print axioms recordLays_holds
end Go.Proofs.Ytggkjleibhpnfaa
