/-
  WireReads: the row. Own work.
-/
import Derived.Test.YtfgpmpopmpobgaaRows
import Derived.Test.YtfgpmpopmpobgaaWWalkJ
import Derived.WalkKit
import Derived.ProofKit
import Derived.OpenShut
import Derived.Below
import Derived.ChangeSame
import Derived.Deep.SlicePairs
import Derived.Carry
import Derived.SizedLaws
import Derived.ChangeMaps5
namespace Go.Proofs.Ytfgpmpopmpobgaa.wireReads
open Go.ChangeShapes Go.WideShapes Go.ChangeAt Go.RowKit
theorem own : ownKnob Try.prog.godebug = none := by kernel_rfl
theorem strShut {H : Type} (enc : TypeId × Value → H) (W' : World) (sp : Nat → Bool) (s : ByteArray) (hs : s.size ≤ maxLen) : DataW.Trod enc Try.prog W' 0 sp true 9 (.string s) (.lit (.string s.data.toList)) [] := ⟨1, by simp [DataW.trod, Value.cells, Try.underlying9, hs]⟩
theorem laidOut : laidOutB Try.prog = true := by kernel_rfl
theorem cellsE2 : Try.prog.cellsOf 40 = 2 := by kernel_rfl
theorem cellsI1 : Try.prog.cellsOf 3 = 1 := by kernel_rfl
def iv : Value → Int
  | .int _ z => z
  | _ => 0
theorem sliceSc {H : Type} {enc : TypeId × Value → H} {W : World} {fuel : Nat} {ao : Option Addr} {len cap : Nat} {x : DataW H × List MemPlace} (hf : DataW.trod enc Try.prog W 0 (fun _ => true) true fuel 34 [.slice ao len cap] = some x) :
    ∃ (b off : Nat) (l : List (Int × Int)), Sc W ao b off len l ∧ len ≤ maxLen ∧ len ≤ cap ∧ (ao = none → cap = 0) := by
  rcases Go.Deep.open_slice_pairs Try.underlying34 Try.underlying40 cellsE2 rfl rfl cellsI1 cellsI1 hf with ⟨hcs, hx⟩ | ⟨a, len', cap', m, n, V0, V1, D0, D1, P0, P1, hcs, _, hl, hm, hmm, hx, hcell⟩
  · simp at hcs
    obtain ⟨rfl, rfl, rfl⟩ := hcs
    exact ⟨0, 0, [], ⟨fun h => absurd h (Nat.lt_irrefl 0), fun j hj => absurd hj (Nat.not_lt_zero j), fun j hj => absurd hj (Nat.not_lt_zero j)⟩, Nat.zero_le _, Nat.le_refl _, fun _ => rfl⟩
  · simp at hcs
    obtain ⟨rfl, rfl, rfl⟩ := hcs
    simp only [if_true] at hmm
    by_cases h0 : len = 0
    · subst h0
      exact ⟨0, 0, [], ⟨fun h => absurd h (Nat.lt_irrefl 0), fun j hj => absurd hj (Nat.not_lt_zero j), fun j hj => absurd hj (Nat.not_lt_zero j)⟩, Nat.zero_le _, hl, fun h => by cases h⟩
    · obtain ⟨b, off, spot⟩ := a
      have hspot : spot = none := by simpa [Addr.add] using World.cell?_spot (hcell 0 (by omega)).1
      subst hspot
      have hv : ∀ j, j < len → V0 j = .int .i64 (iv (V0 j)) ∧ V1 j = .int .i64 (iv (V1 j)) := fun j hj => by
        obtain ⟨_, _, h3, h4⟩ := hcell j (by omega)
        obtain ⟨z0, e0, _⟩ := DataW.trod_int Try.underlying3 h3
        obtain ⟨z1, e1, _⟩ := DataW.trod_int Try.underlying3 h4
        simp only [List.cons.injEq, and_true] at e0 e1
        rw [e0, e1]
        exact ⟨rfl, rfl⟩
      have hg : ∀ j, j < len → ((List.range len).map fun i => (iv (V0 i), iv (V1 i))).getD j (0, 0) = (iv (V0 j), iv (V1 j)) := fun j hj => by
        simp [List.getD_eq_getElem?_getD, hj]
      refine ⟨b, off, (List.range len).map fun i => (iv (V0 i), iv (V1 i)), ⟨fun _ => rfl, fun j hj => ?_, fun j hj => ?_⟩, Nat.le_trans hl hm, hl, fun h => by cases h⟩
      · have h1 := (hcell j (by omega)).1
        rw [Addr.add_mid, (hv j hj).1] at h1
        rw [hg j hj]; exact h1
      · have h1 := (hcell j (by omega)).2.1
        rw [Addr.add_mid, (hv j hj).2] at h1
        rw [hg j hj]; exact h1
set_option maxRecDepth 100000 in
theorem lifted (os : Os) (started : os.Started) (H : Type) (enc : TypeId × Value → H) :
    ReturnsInHanded {} Try.checked os 5 .any (Rows.wireReadsSpec.pre6 enc Try.prog Try.f5 Rows.wireReadsRow.domain false) (Rows.wireReadsSpec.post enc Try.prog Try.f5 false true false false) := by
  refine returnsInHanded_of_change_sized (C := Try.checked) own started (by kernel_rfl) Try.func5
    (ChangeSpec.witness6 (enc := enc) (C := Try.checked) false ⟨#[], #[.int .u64 0, .string ByteArray.empty, .string ByteArray.empty, .slice none 0 0], []⟩ 8 (by kernel_rfl) (by kernel_rfl) (by kernel_rfl) (by kernel_rfl)) ?_
  intro W base args ds gs before hval0 hW _ hz0 _
  have hval : ∀ (j : Nat) t v, Try.f5.params[j]? = some t → args[j]? = some v → Value.okWide Try.prog W .any base t v := hval0
  have hW' := hW
  obtain ⟨p, q, hA0, hV, rfl, hfz, hnd⟩ := hW
  have hA : DataW.TrodAll enc Try.prog W 0 (fun _ => true) true Try.f5.params.toList args.toList ds p := hA0
  rw [Try.params5] at hA hval
  obtain ⟨v0, vs0, d0, ds0, p0, q0, hargs, rfl, rfl, h0, r0⟩ := trodAll_cons hA
  obtain ⟨v1, vs1, d1, ds1, p1, q1, rfl, rfl, rfl, h1, r1⟩ := trodAll_cons r0
  obtain ⟨v2, vs2, d2, ds2, p2, q2, rfl, rfl, rfl, h2, r2⟩ := trodAll_cons r1
  obtain ⟨v3, vs3, d3, ds3, p3, q3, rfl, rfl, rfl, h3, r3⟩ := trodAll_cons r2
  obtain ⟨rfl, rfl, rfl⟩ := trodAll_nil r3
  obtain rfl : args = #[v0, v1, v2, v3] := by cases args; simp_all
  obtain ⟨rfl, rfl⟩ := trodVars_none hV
  have hz : (DataW.weightsEach Try.prog [25, 9, 9, 34] [d0, d1, d2, d3]).all (· ≤ reachBytes) = true := hz0
  clear hz0
  obtain ⟨a0, rfl, rfl, rfl, w0⟩ := open_int Try.underlying25 (hval 0 25 v0 rfl rfl) h0
  obtain ⟨s1, rfl, rfl, rfl, ws1⟩ := Go.ChangeMaps.open_string Try.underlying9 (hval 1 9 v1 rfl rfl) h1
  obtain ⟨s2, rfl, rfl, rfl, ws2⟩ := Go.ChangeMaps.open_string Try.underlying9 (hval 2 9 v2 rfl rfl) h2
  obtain ⟨A3, n3, c3, rfl⟩ := okWide_slice Try.underlying34 (hval 3 34 v3 rfl rfl)
  have hk3 := h3
  obtain ⟨fuel3, hf3⟩ := h3
  obtain ⟨b3, o3, l3, rd3, hm3, hc3, hn3⟩ := sliceSc (by simpa [Value.cells] using hf3)
  clear hA0 hval0
  simp only [List.append_nil, List.nil_append] at hW'
  have ls1 : s1.size ≤ 140737488351232 := by have := sized_string hz (j := 1) rfl rfl; rw [Array.length_toList] at this; exact this
  have ls2 : s2.size ≤ 140737488351232 := by have := sized_string hz (j := 2) rfl rfl; rw [Array.length_toList] at this; exact this
  have hlt3 : ∀ x ∈ p3, x.block < W.heap.size := fun x hx => by simpa using hW'.lt x hx
  refine (reads_row W a0 w0 s1 s2 ls1 ls2 A3 b3 o3 n3 c3 l3 rd3 hm3).mono fun e W' ⟨he, hb⟩ => ?_
  subst he
  have hsh := trodAll_cons_mk (shut_int Try.underlying25 w0) (trodAll_cons_mk (strShut enc _ _ s1 ws1) (trodAll_cons_mk (strShut enc _ _ s2 ws2) (trodAll_cons_mk (Below.trod laidOut (by kernel_rfl) (of_decide_eq_true (by kernel_rfl)) hk3 hb hlt3) trodAll_mk0)))
  simp only [List.append_nil, List.nil_append] at hsh
  exact ⟨_, rfl, _, _, _, [], p3, [], hW', trodAll_cons_mk (shut_bool Try.underlying4 _) trodAll_mk0, hsh, rfl, hb.frame _, fun h => by cases h⟩
theorem over : Rows.wireReadsRow.holds Try.pinned (OpenSpec.ofChange Rows.wireReadsSpec) :=
  OpenClaim.holds_of_wide 5 Try.f5 rfl rfl rfl rfl rfl rfl rfl ⟨rfl, rfl, rfl, rfl, rfl⟩ rfl rfl rfl rfl rfl (by kernel_rfl) Try.func5 (by kernel_rfl)
    (of_decide_eq_true (by kernel_rfl)) (by unfold Func.isWrapper; first | (rw [if_pos (by decide +kernel)]; kernel_rfl) | (rw [if_neg (by decide +kernel)]; exact ⟨rfl, rfl⟩))
    (fun os started H enc _ => lifted os started H enc)
end Go.Proofs.Ytfgpmpopmpobgaa.wireReads
namespace Go.Proofs.Ytfgpmpopmpobgaa
theorem wireReads_holds : Rows.WireReadsSaid := wireReads.over
#print axioms wireReads_holds
end Go.Proofs.Ytfgpmpopmpobgaa
