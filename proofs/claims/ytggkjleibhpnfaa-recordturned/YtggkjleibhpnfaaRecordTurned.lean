/-
  RecordTurned: the row. Own work.
-/
import Derived.Test.YtggkjleibhpnfaaRows
import Derived.Test.YtggkjleibhpnfaaNRowT
import Derived.WalkKit
import Derived.ProofKit
import Derived.OpenShut
import Derived.Below
import Derived.ChangeSame
import Derived.SizedLaws
import Derived.ChangeMaps5
import Derived.Deep.SlicePairs
import Derived.Carry
namespace Go.Proofs.Ytggkjleibhpnfaa.recordTurned
open Go.ChangeShapes Go.WideShapes Go.ChangeAt Go.RowKit
theorem own : ownKnob Try.prog.godebug = none := by kernel_rfl
theorem strShut {H : Type} (enc : TypeId × Value → H) (W' : World) (sp : Nat → Bool) (s : ByteArray) (hs : s.size ≤ maxLen) : DataW.Trod enc Try.prog W' 0 sp true 9 (.string s) (.lit (.string s.data.toList)) [] := ⟨1, by simp [DataW.trod, Value.cells, Try.underlying9, hs]⟩
theorem laidOut : laidOutB Try.prog = true := by kernel_rfl
theorem cellsMk : Try.prog.cellsOf 25 = 5 := by kernel_rfl
theorem cellsMkI : Try.prog.cellsOf 3 = 1 := by kernel_rfl
theorem cellsMkU : Try.prog.cellsOf 22 = 1 := by kernel_rfl
theorem cellsMkW : Try.prog.cellsOf 23 = 1 := by kernel_rfl
set_option maxRecDepth 100000 in
theorem openMk {H : Type} {enc : TypeId × Value → H} {W : World} {fuel : Nat} {cs : List Value} {x : DataW H × List MemPlace} (hl : cs.length = 5) (hf : DataW.trod enc Try.prog W 0 (fun _ => true) true fuel 25 cs = some x) :
    ∃ (k : Int) (a b c : Nat) (d : BitVec 32), cs = [.int .i64 k, .int .u64 (a : Int), .int .u64 (b : Int), .int .u64 (c : Int), .int .u32 (d.toNat : Int)] ∧ a < 18446744073709551616 ∧ b < 18446744073709551616 ∧ c < 18446744073709551616 := by
  obtain ⟨xs, k, hk, hxy, _, hxl, hg⟩ := DataW.trod_struct Try.underlying25 hf
  match xs, hxl, cs, hl with
  | [y0, y1, y2, y3, y4], _, [v0, v1, v2, v3, v4], _ =>
    have g0 := hg 0 _ rfl
    have g1 := hg 1 _ rfl
    have g2 := hg 2 _ rfl
    have g3 := hg 3 _ rfl
    have g4 := hg 4 _ rfl
    simp [cellsMkI, cellsMkU, cellsMkW] at g0 g1 g2 g3 g4
    obtain ⟨z0, e0, f0, _⟩ := DataW.trod_int Try.underlying3 g0
    obtain ⟨z1, e1, f1, wf1⟩ := DataW.trod_int Try.underlying22 g1
    obtain ⟨z2, e2, f2, wf2⟩ := DataW.trod_int Try.underlying22 g2
    obtain ⟨z3, e3, f3, wf3⟩ := DataW.trod_int Try.underlying22 g3
    obtain ⟨z4, e4, f4, wf4⟩ := DataW.trod_int Try.underlying23 g4
    simp only [List.cons.injEq, and_true] at e0 e1 e2 e3 e4
    subst e0 e1 e2 e3 e4
    have hb1 := bounds_u64 wf1
    have hb2 := bounds_u64 wf2
    have hb3 := bounds_u64 wf3
    have hb4 := bounds_u32 wf4
    have q4 : ((BitVec.ofNat 32 z4.toNat).toNat : Int) = z4 := by rw [BitVec.toNat_ofNat]; omega
    exact ⟨z0, z1.toNat, z2.toNat, z3.toNat, BitVec.ofNat 32 z4.toNat, by rw [Int.toNat_of_nonneg hb1.1, Int.toNat_of_nonneg hb2.1, Int.toNat_of_nonneg hb3.1, q4], by omega, by omega, by omega⟩
set_option maxRecDepth 100000 in
theorem lifted (os : Os) (started : os.Started) (H : Type) (enc : TypeId × Value → H) :
    ReturnsInHanded {} Try.checked os 4 .any (Rows.recordTurnedSpec.pre6 enc Try.prog Try.f4 Rows.recordTurnedRow.domain false) (Rows.recordTurnedSpec.post enc Try.prog Try.f4 false true false false) := by
  refine returnsInHanded_of_change_sized (C := Try.checked) own started (by kernel_rfl) Try.func4
    (ChangeSpec.witness6 (enc := enc) (C := Try.checked) false ⟨#[], #[.string ByteArray.empty, .int .u64 0, .string ByteArray.empty, .agg #[.int .i64 0, .int .u64 0, .int .u64 0, .int .u64 0, .int .u32 0], .int .i64 0, .int .u8 0], []⟩ 8 (by kernel_rfl) (by kernel_rfl) (by kernel_rfl) (by kernel_rfl)) ?_
  intro W base args ds gs before hval0 hW _ hz0 _
  have hval : ∀ (j : Nat) t v, Try.f4.params[j]? = some t → args[j]? = some v → Value.okWide Try.prog W .any base t v := hval0
  have hW' := hW
  obtain ⟨p, q, hA0, hV, rfl, hfz, hnd⟩ := hW
  have hA : DataW.TrodAll enc Try.prog W 0 (fun _ => true) true Try.f4.params.toList args.toList ds p := hA0
  rw [Try.params4] at hA hval
  obtain ⟨v0, vs0, d0, ds0, p0, q0, hargs, rfl, rfl, h0, r0⟩ := trodAll_cons hA
  obtain ⟨v1, vs1, d1, ds1, p1, q1, rfl, rfl, rfl, h1, r1⟩ := trodAll_cons r0
  obtain ⟨v2, vs2, d2, ds2, p2, q2, rfl, rfl, rfl, h2, r2⟩ := trodAll_cons r1
  obtain ⟨v3, vs3, d3, ds3, p3, q3, rfl, rfl, rfl, h3, r3⟩ := trodAll_cons r2
  obtain ⟨v4, vs4, d4, ds4, p4, q4, rfl, rfl, rfl, h4, r4⟩ := trodAll_cons r3
  obtain ⟨v5, vs5, d5, ds5, p5, q5, rfl, rfl, rfl, h5, r5⟩ := trodAll_cons r4
  obtain ⟨rfl, rfl, rfl⟩ := trodAll_nil r5
  obtain rfl : args = #[v0, v1, v2, v3, v4, v5] := by cases args; simp_all
  obtain ⟨rfl, rfl⟩ := trodVars_none hV
  have hz : (DataW.weightsEach Try.prog [9, 22, 9, 25, 3, 5] [d0, d1, d2, d3, d4, d5]).all (· ≤ reachBytes) = true := hz0
  clear hz0
  obtain ⟨s0, rfl, rfl, rfl, ws0⟩ := Go.ChangeMaps.open_string Try.underlying9 (hval 0 9 v0 rfl rfl) h0
  obtain ⟨a1, rfl, rfl, rfl, w1⟩ := open_int Try.underlying22 (hval 1 22 v1 rfl rfl) h1
  obtain ⟨s2, rfl, rfl, rfl, ws2⟩ := Go.ChangeMaps.open_string Try.underlying9 (hval 2 9 v2 rfl rfl) h2
  obtain ⟨cs3, rfl, hsz3⟩ := okWide_struct Try.underlying25 (hval 3 25 v3 rfl rfl)
  rw [cellsMk] at hsz3
  have hk3 := h3
  obtain ⟨fuel3, hf3⟩ := h3
  obtain ⟨mk3, ma3, mb3, mc3, md3, hcs3, hma3, hmb3, hmc3⟩ := openMk (cs := cs3.toList) (by simpa using hsz3) (by simpa [Value.cells] using hf3)
  obtain rfl : cs3 = #[.int .i64 mk3, .int .u64 (ma3 : Int), .int .u64 (mb3 : Int), .int .u64 (mc3 : Int), .int .u32 (md3.toNat : Int)] := by cases cs3; simp_all
  obtain ⟨a4, rfl, rfl, rfl, w4⟩ := open_int Try.underlying3 (hval 4 3 v4 rfl rfl) h4
  obtain ⟨a5, rfl, rfl, rfl, w5⟩ := open_int Try.underlying5 (hval 5 5 v5 rfl rfl) h5
  clear hA0 hval0
  simp only [List.append_nil, List.nil_append] at hW'
  have ls0 : s0.size ≤ 140737488351232 := by have := sized_string hz (j := 0) rfl rfl; rw [Array.length_toList] at this; exact this
  have ls2 : s2.size ≤ 140737488351232 := by have := sized_string hz (j := 2) rfl rfl; rw [Array.length_toList] at this; exact this
  have hlt3 : ∀ x ∈ p3, x.block < W.heap.size := fun x hx => by simpa using hW'.lt x hx
  refine (turned_row W s0 (by omega) a1 w1 s2 (by omega) mk3 ma3 mb3 mc3 hma3 hmb3 hmc3 md3 a4 w4 a5 w5).mono fun e W' ⟨he, hb⟩ => ?_
  subst he
  have hsh := trodAll_cons_mk (strShut enc _ _ s0 ws0) (trodAll_cons_mk (shut_int Try.underlying22 w1) (trodAll_cons_mk (strShut enc _ _ s2 ws2) (trodAll_cons_mk (Below.trod laidOut (by kernel_rfl) (of_decide_eq_true (by kernel_rfl)) hk3 hb hlt3) (trodAll_cons_mk (shut_int Try.underlying3 w4) (trodAll_cons_mk (shut_int Try.underlying5 w5) trodAll_mk0)))))
  simp only [List.append_nil, List.nil_append] at hsh
  exact ⟨_, rfl, _, _, _, [], p3, [], hW', trodAll_cons_mk (shut_bool Try.underlying4 _) trodAll_mk0, hsh, rfl, hb.frame _, fun h => by cases h⟩
theorem over : Rows.recordTurnedRow.holds Try.pinned (OpenSpec.ofChange Rows.recordTurnedSpec) :=
  OpenClaim.holds_of_wide 4 Try.f4 rfl rfl rfl rfl rfl rfl rfl ⟨rfl, rfl, rfl, rfl, rfl⟩ rfl rfl rfl rfl rfl (by kernel_rfl) Try.func4 (by kernel_rfl)
    (of_decide_eq_true (by kernel_rfl)) (by unfold Func.isWrapper; first | (rw [if_pos (by decide +kernel)]; kernel_rfl) | (rw [if_neg (by decide +kernel)]; exact ⟨rfl, rfl⟩))
    (fun os started H enc _ => lifted os started H enc)
end Go.Proofs.Ytggkjleibhpnfaa.recordTurned
namespace Go.Proofs.Ytggkjleibhpnfaa
theorem recordTurned_holds : Rows.RecordTurnedSaid := recordTurned.over
#print axioms recordTurned_holds
end Go.Proofs.Ytggkjleibhpnfaa
