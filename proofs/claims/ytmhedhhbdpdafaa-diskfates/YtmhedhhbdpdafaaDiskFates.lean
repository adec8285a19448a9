/-
  DiskFates: the row. Own work.
-/
import Derived.Test.YtmhedhhbdpdafaaRows
import Derived.Test.YtmhedhhbdpdafaaDFtW
import Derived.Test.YtmhedhhbdpdafaaDRowF
import Derived.WalkKit
import Derived.ProofKit
import Derived.OpenShut
import Derived.Below
import Derived.ChangeSame
import Derived.SizedLaws
import Derived.ChangeMaps5
import Derived.Deep.SlicePairs
import Derived.Carry
namespace Go.Proofs.Ytmhedhhbdpdafaa.diskFates
open Go.ChangeShapes Go.WideShapes Go.ChangeAt Go.RowKit
theorem own : ownKnob Try.prog.godebug = none := by kernel_rfl
theorem laidOut : laidOutB Try.prog = true := by kernel_rfl
set_option maxRecDepth 100000 in
theorem lifted (os : Os) (started : os.Started) (H : Type) (enc : TypeId × Value → H) :
    ReturnsInHanded {} Try.checked os 6 .any (Rows.diskFatesSpec.pre6 enc Try.prog Try.f6 Rows.diskFatesRow.domain false) (Rows.diskFatesSpec.post enc Try.prog Try.f6 false true false false) := by
  refine returnsInHanded_of_change_sized (C := Try.checked) own started (by kernel_rfl) Try.func6
    (ChangeSpec.witness6 (enc := enc) (C := Try.checked) false ⟨#[], #[.slice none 0 0, .agg #[.int .i64 0, .int .i64 0, .slice none 0 0]], []⟩ 8 (by kernel_rfl) (by kernel_rfl) (by kernel_rfl) (by kernel_rfl)) ?_
  intro W base args ds gs before hval0 hW _ hz0 _
  have hval : ∀ (j : Nat) t v, Try.f6.params[j]? = some t → args[j]? = some v → Value.okWide Try.prog W .any base t v := hval0
  have hW' := hW
  obtain ⟨p, q, hA0, hV, rfl, hfz, hnd⟩ := hW
  have hA : DataW.TrodAll enc Try.prog W 0 (fun _ => true) true Try.f6.params.toList args.toList ds p := hA0
  rw [Try.params6] at hA hval
  obtain ⟨v0, vs0, d0, ds0, p0, q0, hargs, rfl, rfl, h0, r0⟩ := trodAll_cons hA
  obtain ⟨v1, vs1, d1, ds1, p1, q1, rfl, rfl, rfl, h1, r1⟩ := trodAll_cons r0
  obtain ⟨rfl, rfl, rfl⟩ := trodAll_nil r1
  obtain rfl : args = #[v0, v1] := by cases args; simp_all
  obtain ⟨rfl, rfl⟩ := trodVars_none hV
  have hz : (DataW.weightsEach Try.prog [22, 54] [d0, d1]).all (· ≤ reachBytes) = true := hz0
  clear hz0
  obtain ⟨A0, n0, c0, rfl⟩ := okWide_slice Try.underlying22 (hval 0 22 v0 rfl rfl)
  have hk0 := h0
  obtain ⟨fuel0, hf0⟩ := h0
  obtain ⟨b0, o0, l0, rd0, hm0, hc0, hn0⟩ := sliceRdO (by simpa [Value.cells] using hf0)
  obtain ⟨cs1, rfl, hsz1⟩ := okWide_struct Try.underlying54 (hval 1 54 v1 rfl rfl)
  rw [rowCellsF] at hsz1
  have hk1 := h1
  obtain ⟨x1, y1, u1, rfl⟩ := threeCellsF hsz1
  obtain ⟨fuel1, hf1⟩ := h1
  obtain ⟨a1, k1, A1, b1, o1, c1, l1, rfl, rfl, rfl, rd1, hm1⟩ := openFt (by simpa [Value.cells] using hf1) (fun y hy => of_decide_eq_true (List.all_eq_true.1 hz y (DataW.weights_mem_each (j := 1) rfl rfl y hy)))
  clear hA0 hval0
  simp only [List.append_nil] at hW'
  have hlt0 : ∀ x ∈ p0, x.block < W.heap.size := fun x hx => by simpa using hW'.lt x (by simp [hx])
  have hlt1 : ∀ x ∈ p1, x.block < W.heap.size := fun x hx => by simpa using hW'.lt x (by simp [hx])
  refine (fates_walk W A0 b0 o0 n0 c0 l0 rd0 hm0 a1 k1 A1 b1 o1 c1 l1 rd1 hm1).mono fun e W' ⟨he, hb⟩ => ?_
  subst he
  have hsh := trodAll_cons_mk (Below.trod laidOut (by kernel_rfl) (of_decide_eq_true (by kernel_rfl)) hk0 hb hlt0) (trodAll_cons_mk (Below.trod laidOut (by kernel_rfl) (of_decide_eq_true (by kernel_rfl)) hk1 hb hlt1) trodAll_mk0)
  simp only [List.append_nil] at hsh
  exact ⟨_, rfl, _, _, _, [], p0 ++ (p1), [], hW', trodAll_cons_mk (shut_bool Try.underlying4 _) trodAll_mk0, hsh, rfl, hb.frame _, fun h => by cases h⟩
theorem over : Rows.diskFatesRow.holds Try.pinned (OpenSpec.ofChange Rows.diskFatesSpec) :=
  OpenClaim.holds_of_wide 6 Try.f6 rfl rfl rfl rfl rfl rfl rfl ⟨rfl, rfl, rfl, rfl, rfl⟩ rfl rfl rfl rfl rfl (by kernel_rfl) Try.func6 (by kernel_rfl)
    (of_decide_eq_true (by kernel_rfl)) (by unfold Func.isWrapper; first | (rw [if_pos (by decide +kernel)]; kernel_rfl) | (rw [if_neg (by decide +kernel)]; exact ⟨rfl, rfl⟩))
    (fun os started H enc _ => lifted os started H enc)
end Go.Proofs.Ytmhedhhbdpdafaa.diskFates
namespace Go.Proofs.Ytmhedhhbdpdafaa
theorem diskFates_holds : Rows.DiskFatesSaid := diskFates.over
#print axioms diskFates_holds
end Go.Proofs.Ytmhedhhbdpdafaa
