/-
  PlaceNumbers: the row. Own work.
-/
import Derived.Test.YtilflepomeoffabRows
import Derived.Test.YtilflepomeoffabRefE
import Derived.WalkKit
import Derived.ProofKit
import Derived.OpenShut
import Derived.Below
import Derived.ChangeSame
namespace Go.Proofs.Ytilflepomeoffab.placeNumbers
open Go.ChangeShapes Go.WideShapes Go.ChangeAt Go.RowKit
theorem own : ownKnob Try.prog.godebug = none := by kernel_rfl
theorem cellsB : Try.prog.cellsOf 25 = 2 := by kernel_rfl
theorem cellsI : Try.prog.cellsOf 3 = 1 := by kernel_rfl
theorem cellsU : Try.prog.cellsOf 22 = 1 := by kernel_rfl
theorem twoCells {cs : Array Value} (h : cs.size = 2) : ∃ x y, cs = #[x, y] := by
  obtain ⟨l⟩ := cs
  match l, h with
  | [x, y], _ => exact ⟨x, y, rfl⟩
theorem blockReads {H : Type} (enc : TypeId × Value → H) (a b : Int) (wa : (Lit.int .i64 a).wf = true) (wb : (Lit.int .u64 b).wf = true) (W' : World) (sp : Nat → Bool) : DataW.Trod enc Try.prog W' 0 sp true 25 (.agg #[.int .i64 a, .int .u64 b]) (.agg [.lit (.int .i64 a), .lit (.int .u64 b)]) [] := ⟨2, by
  have f0 : DataW.trod enc Try.prog W' 0 sp true 1 3 [.int .i64 a] = some (.lit (.int .i64 a), []) := by simp [DataW.trod, Try.underlying3, wa]
  have f1 : DataW.trod enc Try.prog W' 0 sp true 1 22 [.int .u64 b] = some (.lit (.int .u64 b), []) := by simp [DataW.trod, Try.underlying22, wb]
  have := trod_struct2_mk (enc := enc) (w := W') (base := 0) (spare := sp) (held := true) (n := 1) (cs := [.int .i64 a, .int .u64 b]) Try.underlying25 (by simp [cellsB]) (by simpa [cellsI] using f0) (by simpa [cellsU] using f1)
  simpa [Value.cells] using this⟩
set_option maxRecDepth 100000 in
theorem lifted (os : Os) (started : os.Started) (H : Type) (enc : TypeId × Value → H) :
    ReturnsInHanded {} Try.checked os 4 .any (Rows.placeNumbersSpec.pre6 enc Try.prog Try.f4 Rows.placeNumbersRow.domain false) (Rows.placeNumbersSpec.post enc Try.prog Try.f4 false true false false) := by
  refine returnsInHanded_of_change (C := Try.checked) own started (by kernel_rfl) Try.func4
    (ChangeSpec.witness6 (enc := enc) (C := Try.checked) false ⟨#[], #[.int .u64 0, .agg #[.int .i64 0, .int .u64 0]], []⟩ 8 (by kernel_rfl) (by kernel_rfl) (by kernel_rfl) (by kernel_rfl)) ?_
  intro W base args ds gs before hval0 hW _ _
  have hval : ∀ (j : Nat) t v, Try.f4.params[j]? = some t → args[j]? = some v → Value.okWide Try.prog W .any base t v := hval0
  have hW' := hW
  obtain ⟨p, q, hA0, hV, rfl, hfz, hnd⟩ := hW
  have hA : DataW.TrodAll enc Try.prog W 0 (fun _ => true) true Try.f4.params.toList args.toList ds p := hA0
  rw [Try.params4] at hA hval
  obtain ⟨v0, vs0, d0, ds0, p0, q0, hargs, rfl, rfl, h0, r0⟩ := trodAll_cons hA
  obtain ⟨v1, vs1, d1, ds1, p1, q1, rfl, rfl, rfl, h1, r1⟩ := trodAll_cons r0
  obtain ⟨rfl, rfl, rfl⟩ := trodAll_nil r1
  obtain rfl : args = #[v0, v1] := by cases args; simp_all
  obtain ⟨rfl, rfl⟩ := trodVars_none hV
  obtain ⟨a0, rfl, rfl, rfl, w0⟩ := open_int Try.underlying22 (hval 0 22 v0 rfl rfl) h0
  obtain ⟨cs1, rfl, hsz1⟩ := okWide_struct Try.underlying25 (hval 1 25 v1 rfl rfl)
  rw [cellsB] at hsz1
  obtain ⟨c1, e1, rfl⟩ := twoCells hsz1
  obtain ⟨fuel1, hf1⟩ := h1
  obtain ⟨y1, z1, m1, hx1, _, hy1, hz1⟩ := trod_struct2 Try.underlying25 hf1
  obtain ⟨h1, e0, rfl, wh1⟩ := DataW.trod_int Try.underlying3 hy1
  obtain ⟨k1, e1, rfl, wk1⟩ := DataW.trod_int Try.underlying22 hz1
  simp [Value.cells, cellsI, cellsU] at e0 e1
  subst e0 e1
  simp only [Prod.mk.injEq] at hx1
  obtain ⟨rfl, rfl⟩ := hx1
  clear hA0 hval0
  simp only [List.append_nil] at hW'
  refine (numbers_row a0 h1 k1 w0 wk1 W).mono fun e W' ⟨he, hb⟩ => ?_
  subst he
  exact ⟨_, rfl, _, _, _, [], [], [], hW', trodAll_cons_mk (shut_bool Try.underlying4 _) trodAll_mk0, trodAll_cons_mk (shut_int Try.underlying22 w0) (trodAll_cons_mk (blockReads enc _ _ wh1 wk1 _ _) trodAll_mk0), rfl, hb.frame _, fun h => by cases h⟩
theorem over : Rows.placeNumbersRow.holds Try.pinned (OpenSpec.ofChange Rows.placeNumbersSpec) :=
  OpenClaim.holds_of_wide 4 Try.f4 rfl rfl rfl rfl rfl rfl rfl ⟨rfl, rfl, rfl, rfl, rfl⟩ rfl rfl rfl rfl rfl (by kernel_rfl) Try.func4 (by kernel_rfl)
    (of_decide_eq_true (by kernel_rfl)) (by unfold Func.isWrapper; first | (rw [if_pos (by decide +kernel)]; kernel_rfl) | (rw [if_neg (by decide +kernel)]; exact ⟨rfl, rfl⟩))
    (fun os started H enc _ => lifted os started H enc)
end Go.Proofs.Ytilflepomeoffab.placeNumbers
namespace Go.Proofs.Ytilflepomeoffab
theorem placeNumbers_holds : Rows.PlaceNumbersSaid := placeNumbers.over
#print axioms placeNumbers_holds
end Go.Proofs.Ytilflepomeoffab
