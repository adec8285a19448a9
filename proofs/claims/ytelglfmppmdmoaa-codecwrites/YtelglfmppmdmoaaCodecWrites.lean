/-
  CodecWrites: the row. Own work.
-/
import Derived.Test.YtelglfmppmdmoaaRows
import Derived.Test.YtelglfmppmdmoaaGWrite
import Derived.Test.YtelglfmppmdmoaaGRow
import Derived.WalkKit
import Derived.ProofKit
import Derived.OpenShut
import Derived.Below
import Derived.ChangeSame
import Derived.SizedLaws
import Derived.ChangeMaps5
import Derived.SliceStrings
import Derived.ChangeSlices
import Derived.Carry
namespace Go.Proofs.Ytelglfmppmdmoaa.codecWrites
open Go.ChangeShapes Go.WideShapes Go.ChangeAt Go.RowKit
theorem own : ownKnob Try.prog.godebug = none := by kernel_rfl
theorem laidOut : laidOutB Try.prog = true := by kernel_rfl
theorem cellsPf : Try.prog.cellsOf 26 = 6 := by kernel_rfl
theorem cellsPI : Try.prog.cellsOf 3 = 1 := by kernel_rfl
theorem cellsPU : Try.prog.cellsOf 22 = 1 := by kernel_rfl
theorem cellsPSU : Try.prog.cellsOf 23 = 1 := by kernel_rfl
theorem cellsPSS : Try.prog.cellsOf 24 = 1 := by kernel_rfl
theorem cellsPT : Try.prog.cellsOf 9 = 1 := by kernel_rfl
theorem bytesPU : Try.prog.bytesOf 22 = 8 := by kernel_rfl
theorem bytesPT : Try.prog.bytesOf 9 = 16 := by kernel_rfl
theorem slicePs {H : Type} {enc : TypeId × Value → H} {W : World} {fuel : Nat} {v : Value} {x : DataW H × List MemPlace} (hf : DataW.trod enc Try.prog W 0 (fun _ => true) true fuel 23 [v] = some x) (hw : ∀ y ∈ DataW.weights Try.prog 23 x.1, y ≤ reachBytes) :
    ∃ (ao : Option Addr) (b off cap : Nat) (l : List Nat), v = .slice ao l.length cap ∧ RdU W ao b off l.length l ∧ l.length ≤ 17592186043904 ∧ (ao = none → cap = 0) ∧ l.length ≤ cap := by
  rcases open_ints Try.underlying23 Try.underlying22 cellsPU hf with ⟨hcs, hx⟩ | ⟨a, len, cap, zs, hcs, _, hl, hm, hzl, hx, hcell, hws⟩
  · simp at hcs
    subst hcs
    exact ⟨none, 0, 0, 0, [], rfl, ⟨rfl, fun h => absurd h (Nat.lt_irrefl 0), fun j v h => by cases h⟩, Nat.zero_le _, (fun _ => rfl), Nat.le_refl _⟩
  · simp at hcs
    subst hcs
    simp only [if_true] at hzl
    rw [hx] at hw
    have hcap : cap ≤ 17592186043904 := by
      have h2 := hw _ (by simp only [DataW.weights, Try.underlying23]; exact List.mem_cons_self)
      simp only [lits, List.length_map, List.length_take, List.length_drop, bytesPU] at h2
      unfold reachBytes at h2
      omega
    by_cases h0 : len = 0
    · subst h0
      exact ⟨some a, 0, 0, cap, [], rfl, ⟨rfl, fun h => absurd h (Nat.lt_irrefl 0), fun j v h => by cases h⟩, Nat.zero_le _, (fun h => by cases h), Nat.zero_le _⟩
    · obtain ⟨b, off, spot⟩ := a
      have hspot : spot = none := by simpa [Addr.add] using World.cell?_spot (hcell 0 (by omega))
      subst hspot
      have hll : ((zs.take len).map Int.toNat).length = len := by rw [List.length_map, List.length_take]; omega
      refine ⟨some ⟨b, off, none⟩, b, off, cap, (zs.take len).map Int.toNat, by rw [hll], ⟨rfl, fun _ => rfl, fun j v hv => ?_⟩, by omega, (fun h => by cases h), by omega⟩
      have hj : j < len := by have := (List.getElem?_eq_some_iff.1 hv).1; simp at this; omega
      have hjz : j < zs.length := by omega
      have hc := hcell j hjz
      rw [Addr.add_mid] at hc
      rw [hc]
      obtain ⟨p, hp, _⟩ := u64_nat (hws zs[j] (List.getElem_mem _))
      have e1 : zs.getD j 0 = (p : Int) := by rw [List.getD_eq_getElem?_getD, List.getElem?_eq_getElem hjz]; exact hp
      rw [e1, ← hv]
      rw [show Cv.cU ((zs.take len).map Int.toNat) = ((zs.take len).map Int.toNat).map (fun n : Nat => Value.int .u64 (n : Int)) from rfl, List.getElem?_map, List.getElem?_map, List.getElem?_take_of_lt hj, List.getElem?_eq_getElem hjz, hp]; rfl
theorem weights_strP {H : Type} (l : List ByteArray) (s : ByteArray) (hs : s ∈ l) : s.size ∈ DataW.weightsAll Try.prog 9 (strs (H := H) l) := by
  induction l with
  | nil => cases hs
  | cons x r ih =>
    simp only [strs, List.map_cons, DataW.weightsAll, DataW.weights, List.mem_append, List.mem_singleton]
    rcases List.mem_cons.1 hs with rfl | h
    · left; rw [Array.length_toList]; rfl
    · right; exact ih h
theorem slicePd {H : Type} {enc : TypeId × Value → H} {W : World} {fuel : Nat} {v : Value} {x : DataW H × List MemPlace} (hf : DataW.trod enc Try.prog W 0 (fun _ => true) true fuel 24 [v] = some x) (hw : ∀ y ∈ DataW.weights Try.prog 24 x.1, y ≤ reachBytes) :
    ∃ (ao : Option Addr) (b off cap : Nat) (ss : List ByteArray), v = .slice ao ss.length cap ∧ RdS W ao b off ss.length ss ∧ ss.length ≤ 8796093021952 ∧ (ao = none → cap = 0) ∧ ss.length ≤ cap := by
  rcases open_strings Try.underlying24 Try.underlying9 cellsPT hf with ⟨hcs, hx⟩ | ⟨a, len, cap, ss, hcs, _, hl, hm, hzl, hx, hcell, hws⟩
  · simp at hcs
    subst hcs
    exact ⟨none, 0, 0, 0, [], rfl, ⟨rfl, fun h => absurd h (Nat.lt_irrefl 0), (fun j v h => by cases h), (fun s h => by cases h)⟩, Nat.zero_le _, (fun _ => rfl), Nat.le_refl _⟩
  · simp at hcs
    subst hcs
    simp only [if_true] at hzl
    rw [hx] at hw
    have hcap : cap ≤ 8796093021952 := by
      have h2 := hw _ (by simp only [DataW.weights, Try.underlying24]; exact List.mem_cons_self)
      simp only [strs, List.length_map, List.length_take, List.length_drop, bytesPT] at h2
      unfold reachBytes at h2
      omega
    have hsz : ∀ s ∈ ss.take len, s.size ≤ 140737488351232 := fun s hs =>
      hw s.size (by simp only [DataW.weights, Try.underlying24, List.mem_cons, List.mem_append]; exact Or.inr (Or.inl (weights_strP _ s hs)))
    by_cases h0 : len = 0
    · subst h0
      exact ⟨some a, 0, 0, cap, [], rfl, ⟨rfl, fun h => absurd h (Nat.lt_irrefl 0), (fun j v h => by cases h), (fun s h => by cases h)⟩, Nat.zero_le _, (fun h => by cases h), Nat.zero_le _⟩
    · obtain ⟨b, off, spot⟩ := a
      have hspot : spot = none := by simpa [Addr.add] using World.cell?_spot (hcell 0 (by omega))
      subst hspot
      have hll : (ss.take len).length = len := by rw [List.length_take]; omega
      refine ⟨some ⟨b, off, none⟩, b, off, cap, ss.take len, by rw [hll], ⟨rfl, fun _ => rfl, fun j v hv => ?_, fun s hs => Nat.le_trans (hsz s hs) (by decide)⟩, by omega, (fun h => by cases h), by omega⟩
      have hj : j < len := by have := (List.getElem?_eq_some_iff.1 hv).1; rw [List.length_map, List.length_take] at this; omega
      have hc := hcell j (by omega)
      rw [Addr.add_mid] at hc
      rw [hc, ← hv]
      simp [hj, List.getD_eq_getElem?_getD, List.getElem?_eq_getElem (show j < ss.length by omega)]
set_option maxRecDepth 100000 in
theorem openPf {H : Type} {enc : TypeId × Value → H} {W : World} {fuel : Nat} {cs : List Value} {x : DataW H × List MemPlace} (hl : cs.length = 6) (hf : DataW.trod enc Try.prog W 0 (fun _ => true) true fuel 26 cs = some x) (hw : ∀ y ∈ DataW.weights Try.prog 26 x.1, y ≤ reachBytes) :
    ∃ (kd k : Int) (old size : Nat) (sa : Option Addr) (sb so sc : Nat) (S : List Nat) (da : Option Addr) (db dO dc : Nat) (D : List ByteArray), cs = [.int .i64 kd, .int .i64 k, .int .u64 (old : Int), .int .u64 (size : Int), .slice sa S.length sc, .slice da D.length dc] ∧ RdU W sa sb so S.length S ∧ (sa = none → sc = 0) ∧ S.length ≤ 17592186043904 ∧ RdS W da db dO D.length D ∧ (da = none → dc = 0) ∧ D.length ≤ 8796093021952 ∧ D.length ≤ dc ∧ old < 18446744073709551616 ∧ size < 18446744073709551616 := by
  obtain ⟨xs, k, hk, hxy, _, hxl, hg⟩ := DataW.trod_struct Try.underlying26 hf
  match xs, hxl, cs, hl with
  | [y0, y1, y2, y3, y4, y5], _, [v0, v1, v2, v3, v4, v5], _ =>
    have g0 := hg 0 _ rfl
    have g1 := hg 1 _ rfl
    have g2 := hg 2 _ rfl
    have g3 := hg 3 _ rfl
    have g4 := hg 4 _ rfl
    have g5 := hg 5 _ rfl
    simp [cellsPI, cellsPU, cellsPSU, cellsPSS] at g0 g1 g2 g3 g4 g5
    obtain ⟨z0, e0, f0, _⟩ := DataW.trod_int Try.underlying3 g0
    obtain ⟨z1, e1, f1, _⟩ := DataW.trod_int Try.underlying3 g1
    obtain ⟨z2, e2, f2, wf2⟩ := DataW.trod_int Try.underlying22 g2
    obtain ⟨z3, e3, f3, wf3⟩ := DataW.trod_int Try.underlying22 g3
    simp only [List.cons.injEq, and_true] at e0 e1 e2 e3
    subst e0 e1 e2 e3
    obtain ⟨n2, rfl, hn2⟩ := u64_nat wf2
    obtain ⟨n3, rfl, hn3⟩ := u64_nat wf3
    rw [hxy] at hw
    obtain ⟨sa, sb, so, sc, S, rfl, h1, h2, h3⟩ := slicePs g4 (fun y hy => hw y (by
      simp only [DataW.weights, Try.underlying26, List.map_cons, List.map_nil, DataW.weightsEach, List.mem_append]
      exact Or.inr (Or.inr (Or.inr (Or.inr (Or.inl hy))))))
    obtain ⟨da, db, dO, dc, D, rfl, i1, i2, i3⟩ := slicePd g5 (fun y hy => hw y (by
      simp only [DataW.weights, Try.underlying26, List.map_cons, List.map_nil, DataW.weightsEach, List.mem_append]
      exact Or.inr (Or.inr (Or.inr (Or.inr (Or.inr (Or.inl hy)))))))
    exact ⟨z0, z1, n2, n3, sa, sb, so, sc, S, da, db, dO, dc, D, rfl, h1, h3.1, h2, i1, i3.1, i2, i3.2, hn2, hn3⟩
set_option maxRecDepth 100000 in
theorem lifted (os : Os) (started : os.Started) (H : Type) (enc : TypeId × Value → H) :
    ReturnsInHanded {} Try.checked os 4 .any (Rows.codecWritesSpec.pre6 enc Try.prog Try.f4 Rows.codecWritesRow.domain false) (Rows.codecWritesSpec.post enc Try.prog Try.f4 false true false false) := by
  refine returnsInHanded_of_change_sized (C := Try.checked) own started (by kernel_rfl) Try.func4
    (ChangeSpec.witness6 (enc := enc) (C := Try.checked) false ⟨#[], #[.agg #[.int .i64 0, .int .i64 0, .int .u64 0, .int .u64 0, .slice none 0 0, .slice none 0 0]], []⟩ 8 (by kernel_rfl) (by kernel_rfl) (by kernel_rfl) (by kernel_rfl)) ?_
  intro W base args ds gs before hval0 hW _ hz0 _
  have hval : ∀ (j : Nat) t v, Try.f4.params[j]? = some t → args[j]? = some v → Value.okWide Try.prog W .any base t v := hval0
  have hW' := hW
  obtain ⟨p, q, hA0, hV, rfl, hfz, hnd⟩ := hW
  have hA : DataW.TrodAll enc Try.prog W 0 (fun _ => true) true Try.f4.params.toList args.toList ds p := hA0
  rw [Try.params4] at hA hval
  obtain ⟨v0, vs0, d0, ds0, p0, q0, hargs, rfl, rfl, h0, r0⟩ := trodAll_cons hA
  obtain ⟨rfl, rfl, rfl⟩ := trodAll_nil r0
  obtain rfl : args = #[v0] := by cases args; simp_all
  obtain ⟨rfl, rfl⟩ := trodVars_none hV
  have hz : (DataW.weightsEach Try.prog [26] [d0]).all (· ≤ reachBytes) = true := hz0
  clear hz0
  obtain ⟨cs0, rfl, hsz0⟩ := okWide_struct Try.underlying26 (hval 0 26 v0 rfl rfl)
  rw [cellsPf] at hsz0
  have hk0 := h0
  obtain ⟨fuel0, hf0⟩ := h0
  obtain ⟨kd0, k0, old0, size0, sa0, sb0, so0, sc0, S0, da0, db0, dO0, dc0, D0, hcs0, rs0, hns0, hS0, rd0, hnd0, hD0, hdc0, ho0, hi0⟩ := openPf (cs := cs0.toList) (by simpa using hsz0) (by simpa [Value.cells] using hf0) (fun y hy => of_decide_eq_true (List.all_eq_true.1 hz y (DataW.weights_mem_each (j := 0) rfl rfl y hy)))
  obtain rfl : cs0 = #[.int .i64 kd0, .int .i64 k0, .int .u64 (old0 : Int), .int .u64 (size0 : Int), .slice sa0 S0.length sc0, .slice da0 D0.length dc0] := by cases cs0; simp_all
  clear hA0 hval0
  simp only [List.append_nil] at hW'
  have hlt0 : ∀ x ∈ p0, x.block < W.heap.size := fun x hx => by simpa using hW'.lt x hx
  refine (writes_walk W sa0 sb0 so0 sc0 da0 db0 dO0 dc0 ⟨kd0, k0, old0, size0, S0, D0⟩ ⟨rs0, rd0, ho0, hi0, (show S0.length ≤ 17592186044416 by omega), (show D0.length ≤ 8796093022208 by omega), hdc0⟩ hns0 hnd0 (show S0.length ≤ 17592186043904 by omega) (show D0.length ≤ 8796093021952 by omega)).mono fun e W' ⟨he, hb⟩ => ?_
  subst he
  have hsh := trodAll_cons_mk (Below.trod laidOut (by kernel_rfl) (of_decide_eq_true (by kernel_rfl)) hk0 hb hlt0) trodAll_mk0
  simp only [List.append_nil] at hsh
  exact ⟨_, rfl, _, _, _, [], p0, [], hW', trodAll_cons_mk (shut_bool Try.underlying4 _) trodAll_mk0, hsh, rfl, hb.frame _, fun h => by cases h⟩
theorem over : Rows.codecWritesRow.holds Try.pinned (OpenSpec.ofChange Rows.codecWritesSpec) :=
  OpenClaim.holds_of_wide 4 Try.f4 rfl rfl rfl rfl rfl rfl rfl ⟨rfl, rfl, rfl, rfl, rfl⟩ rfl rfl rfl rfl rfl (by kernel_rfl) Try.func4 (by kernel_rfl)
    (of_decide_eq_true (by kernel_rfl)) (by unfold Func.isWrapper; first | (rw [if_pos (by decide +kernel)]; kernel_rfl) | (rw [if_neg (by decide +kernel)]; exact ⟨rfl, rfl⟩))
    (fun os started H enc _ => lifted os started H enc)
end Go.Proofs.Ytelglfmppmdmoaa.codecWrites
namespace Go.Proofs.Ytelglfmppmdmoaa
theorem codecWrites_holds : Rows.CodecWritesSaid := codecWrites.over
#print axioms codecWrites_holds
end Go.Proofs.Ytelglfmppmdmoaa
