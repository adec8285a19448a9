/-
  FilesMemory: the row. Own work.
-/
import Derived.Test.YthfnpagangjpbaaGreatRows
import Derived.Test.YthfnpagangjpbaaGreatYFMmW
import Derived.WalkKit
import Derived.ProofKit
import Derived.OpenShut
import Derived.Below
import Derived.ChangeSame
import Derived.SizedLaws
import Derived.ChangeMaps5
import Derived.SliceStrings
import Derived.Carry
namespace Go.Proofs.YthfnpagangjpbaaGreat.filesMemory
open Go.ChangeShapes Go.WideShapes Go.ChangeAt Go.RowKit Rc
theorem own : ownKnob Tryz.prog.godebug = none := by kernel_rfl
theorem laidOut : laidOutB Tryz.prog = true := by kernel_rfl
theorem cellsS1 : Tryz.prog.cellsOf 9 = 1 := by kernel_rfl
theorem bytesS1 : Tryz.prog.bytesOf 9 = 16 := by kernel_rfl
theorem weights_strs {H : Type} (l : List ByteArray) (s : ByteArray) (hs : s ∈ l) : s.size ∈ DataW.weightsAll Tryz.prog 9 (strs (H := H) l) := by
  induction l with
  | nil => cases hs
  | cons x r ih =>
    simp only [strs, List.map_cons, DataW.weightsAll, DataW.weights, List.mem_append, List.mem_singleton]
    rcases List.mem_cons.1 hs with rfl | h
    · left; rw [Array.length_toList]; rfl
    · right; exact ih h
theorem sliceRdS {H : Type} {enc : TypeId × Value → H} {W : World} {fuel : Nat} {ao : Option Addr} {len cap : Nat} {x : DataW H × List MemPlace} {ts : List TypeId} {ds : List (DataW H)} {j : Nat} (hf : DataW.trod enc Tryz.prog W 0 (fun _ => true) true fuel 22 [.slice ao len cap] = some x)
    (hz : (DataW.weightsEach Tryz.prog ts ds).all (· ≤ reachBytes) = true) (hj : ts[j]? = some 22) (hd : ds[j]? = some x.1) :
    ∃ (b off : Nat) (ss : List ByteArray), RdS W ao b off len ss ∧ (∀ s ∈ ss, s.size ≤ 140737488351232) ∧ len ≤ 8796093021952 ∧ len ≤ cap ∧ (ao = none → cap = 0) := by
  rcases open_strings Tryz.underlying22 Tryz.underlying9 cellsS1 hf with ⟨hcs, hx⟩ | ⟨a, len', cap', ss, hcs, _, hl, hm, hzl, hx, hcell, hws⟩
  · simp at hcs
    obtain ⟨rfl, rfl, rfl⟩ := hcs
    exact ⟨0, 0, [], ⟨rfl, fun h => absurd h (Nat.lt_irrefl 0), (fun j v h => by cases h), (fun s h => by cases h)⟩, (fun s h => by cases h), Nat.zero_le _, Nat.le_refl _, fun _ => rfl⟩
  · simp at hcs
    obtain ⟨rfl, rfl, rfl⟩ := hcs
    simp only [if_true] at hzl
    have hcap : cap ≤ 8796093021952 := by
      have hd' := hd
      rw [hx] at hd'
      have h1 := List.all_eq_true.1 hz _ (DataW.weights_mem_each hj hd' _ (by simp only [DataW.weights, Tryz.underlying22]; exact List.mem_cons_self))
      have h2 := of_decide_eq_true h1
      simp only [strs, List.length_map, List.length_take, List.length_drop, bytesS1] at h2
      unfold reachBytes at h2
      omega
    have hsz : ∀ s ∈ ss.take len, s.size ≤ 140737488351232 := fun s hs => by
      rw [hx] at hd
      have := List.all_eq_true.1 hz _ (DataW.weights_mem_each hj hd s.size (by simp only [DataW.weights, Tryz.underlying22, List.mem_cons, List.mem_append]; exact Or.inr (Or.inl (weights_strs _ s hs))))
      exact of_decide_eq_true this
    by_cases h0 : len = 0
    · subst h0
      exact ⟨0, 0, [], ⟨rfl, fun h => absurd h (Nat.lt_irrefl 0), (fun j v h => by cases h), (fun s h => by cases h)⟩, (fun s h => by cases h), Nat.zero_le _, hl, fun h => by cases h⟩
    · obtain ⟨b, off, spot⟩ := a
      have hspot : spot = none := by simpa [Addr.add] using World.cell?_spot (hcell 0 (by omega))
      subst hspot
      refine ⟨b, off, ss.take len, ⟨by rw [List.length_take]; omega, fun _ => rfl, fun j v hv => ?_, fun s hs => Nat.le_trans (hsz s hs) (by decide)⟩, hsz, by omega, hl, fun h => by cases h⟩
      have hj : j < len := by have := (List.getElem?_eq_some_iff.1 hv).1; rw [List.length_map, List.length_take] at this; omega
      have hc := hcell j (by omega)
      rw [Addr.add_mid] at hc
      rw [hc, ← hv]
      simp [hj, List.getD_eq_getElem?_getD, List.getElem?_eq_getElem (show j < ss.length by omega)]
set_option maxRecDepth 100000 in
theorem lifted (os : Os) (started : os.Started) (H : Type) (enc : TypeId × Value → H) :
    ReturnsInHanded {} Tryz.checked os 3 .any (Rows.filesMemorySpec.pre6 enc Tryz.prog Tryz.f3 Rows.filesMemoryRow.domain false) (Rows.filesMemorySpec.post enc Tryz.prog Tryz.f3 false true false false) := by
  refine returnsInHanded_of_change_sized (C := Tryz.checked) own started (by kernel_rfl) Tryz.func3
    (ChangeSpec.witness6 (enc := enc) (C := Tryz.checked) false ⟨#[], #[.int .i64 0, .slice none 0 0, .slice none 0 0], []⟩ 8 (by kernel_rfl) (by kernel_rfl) (by kernel_rfl) (by kernel_rfl)) ?_
  intro W base args ds gs before hval0 hW _ hz0 _
  have hval : ∀ (j : Nat) t v, Tryz.f3.params[j]? = some t → args[j]? = some v → Value.okWide Tryz.prog W .any base t v := hval0
  have hW' := hW
  obtain ⟨p, q, hA0, hV, rfl, hfz, hnd⟩ := hW
  have hA : DataW.TrodAll enc Tryz.prog W 0 (fun _ => true) true Tryz.f3.params.toList args.toList ds p := hA0
  rw [Tryz.params3] at hA hval
  obtain ⟨v0, vs0, d0, ds0, p0, q0, hargs, rfl, rfl, h0, r0⟩ := trodAll_cons hA
  obtain ⟨v1, vs1, d1, ds1, p1, q1, rfl, rfl, rfl, h1, r1⟩ := trodAll_cons r0
  obtain ⟨v2, vs2, d2, ds2, p2, q2, rfl, rfl, rfl, h2, r2⟩ := trodAll_cons r1
  obtain ⟨rfl, rfl, rfl⟩ := trodAll_nil r2
  obtain rfl : args = #[v0, v1, v2] := by cases args; simp_all
  obtain ⟨rfl, rfl⟩ := trodVars_none hV
  have hz : (DataW.weightsEach Tryz.prog [3, 22, 22] [d0, d1, d2]).all (· ≤ reachBytes) = true := hz0
  clear hz0
  obtain ⟨a0, rfl, rfl, rfl, w0⟩ := open_int Tryz.underlying3 (hval 0 3 v0 rfl rfl) h0
  obtain ⟨A1, n1, c1, rfl⟩ := okWide_slice Tryz.underlying22 (hval 1 22 v1 rfl rfl)
  have hk1 := h1
  obtain ⟨fuel1, hf1⟩ := h1
  obtain ⟨b1, o1, l1, rd1, hs1, hm1, hc1, hn1⟩ := sliceRdS (j := 1) (by simpa [Value.cells] using hf1) hz rfl rfl
  obtain ⟨A2, n2, c2, rfl⟩ := okWide_slice Tryz.underlying22 (hval 2 22 v2 rfl rfl)
  have hk2 := h2
  obtain ⟨fuel2, hf2⟩ := h2
  obtain ⟨b2, o2, l2, rd2, hs2, hm2, hc2, hn2⟩ := sliceRdS (j := 2) (by simpa [Value.cells] using hf2) hz rfl rfl
  clear hA0 hval0
  simp only [List.append_nil, List.nil_append] at hW'
  have hlt1 : ∀ x ∈ p1, x.block < W.heap.size := fun x hx => by simpa using hW'.lt x (by simp [hx])
  have hlt2 : ∀ x ∈ p2, x.block < W.heap.size := fun x hx => by simpa using hW'.lt x (by simp [hx])
  refine (memory_walk W a0 A1 b1 o1 n1 c1 l1 rd1 (by omega) A2 b2 o2 n2 c2 l2 rd2 (by omega)).mono fun e W' ⟨he, hb⟩ => ?_
  subst he
  have hsh := trodAll_cons_mk (shut_int Tryz.underlying3 w0) (trodAll_cons_mk (Below.trod laidOut (by kernel_rfl) (of_decide_eq_true (by kernel_rfl)) hk1 hb hlt1) (trodAll_cons_mk (Below.trod laidOut (by kernel_rfl) (of_decide_eq_true (by kernel_rfl)) hk2 hb hlt2) trodAll_mk0))
  simp only [List.append_nil, List.nil_append] at hsh
  exact ⟨_, rfl, _, _, _, [], p1 ++ (p2), [], hW', trodAll_cons_mk (shut_bool Tryz.underlying4 _) trodAll_mk0, hsh, rfl, hb.frame _, fun h => by cases h⟩
theorem over : Rows.filesMemoryRow.holds Tryz.pinned (OpenSpec.ofChange Rows.filesMemorySpec) :=
  OpenClaim.holds_of_wide 3 Tryz.f3 rfl rfl rfl rfl rfl rfl rfl ⟨rfl, rfl, rfl, rfl, rfl⟩ rfl rfl rfl rfl rfl (by kernel_rfl) Tryz.func3 (by kernel_rfl)
    (of_decide_eq_true (by kernel_rfl)) (by unfold Func.isWrapper; first | (rw [if_pos (by decide +kernel)]; kernel_rfl) | (rw [if_neg (by decide +kernel)]; exact ⟨rfl, rfl⟩))
    (fun os started H enc _ => lifted os started H enc)
end Go.Proofs.YthfnpagangjpbaaGreat.filesMemory
namespace Go.Proofs.YthfnpagangjpbaaGreat
theorem filesMemory_holds : Rows.FilesMemorySaid := filesMemory.over
#print axioms filesMemory_holds
end Go.Proofs.YthfnpagangjpbaaGreat
