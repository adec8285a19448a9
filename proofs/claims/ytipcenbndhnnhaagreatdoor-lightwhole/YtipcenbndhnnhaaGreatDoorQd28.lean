/-
  Own work: JWalkC, Plan3.
-/
import Derived.Deep.RegionHeld3
import Derived.Laws.StructEq
import Derived.Test.YtipcenbndhnnhaaGreatDoorQd27
namespace Go.Proofs.YtipcenbndhnnhaaGreatDoor
open Go.RowKit
open Cv (RdC zl cU cov)
open Pl (pw)
attribute [local go_sem ↓] Go.wp_at_zero Go.wp_at_succ
abbrev dgF (F : Nat → Nat → ByteArray) (T : List (Nat × Nat)) : List ByteArray := T.map fun b => F b.1 b.2
structure JL (w wr : World) (s0 q : Nat) (F : Nat → Nat → ByteArray) (h k h' k' : Nat) (v u : Value) : Prop where
  js : JS wr s0 v u (cov 0 (k' * pw h')) (dgF F (cov 0 (k' * pw h')))
  tw : Tw wr q (h' : Int) k'
  hv : ∀ g, v.ownBlock = some g → g < q
  en : (k' + 1) * pw h' = (k + 1) * pw h
  hh : h ≤ h'
  be : Below (s0 + 1) w wr
  hq : s0 + 2 < q
section
variable {w wr W : World} {s0 q : Nat} {F : Nat → Nat → ByteArray} {h k h' k' : Nat} {v u : Value}
theorem JL.hu (j : JL w wr s0 q F h k h' k' v u) : ∀ g, u.ownBlock = some g → g ≠ q := own_ty j.js.op j.tw (by decide)
theorem JL.next (j : JL w wr s0 q F h k h' k' v u) (hb : Below wr.heap.size wr W) : JL w W s0 q F h k h' k' v u :=
  ⟨j.js.next hb, j.tw.next hb, j.hv, j.en, j.hh, j.be.trans (hb.mono (by have := j.js.lt; omega)), j.hq⟩
end
theorem js_last {w : World} {s0 : Nat} {v u : Value} {C : List (Nat × Nat)} {h k : Nat} {P : List ByteArray} {d : ByteArray} (j : JS w s0 v u (C ++ [(h, k)]) (P ++ [d])) : ∃ g cap gu cu, v = .slice (some ⟨g, 0, none⟩) (C.length + 1) cap ∧ u = .slice (some ⟨gu, 0, none⟩) (P.length + 1) cu ∧ C.length + 1 ≤ cap ∧ P.length + 1 ≤ cu ∧ w.cell? ⟨g, C.length * 2, none⟩ = some (.int .i64 (h : Int)) ∧ w.cell? ⟨g, C.length * 2 + 1, none⟩ = some (.int .u64 (k : Int)) ∧ w.cell? ⟨gu, P.length, none⟩ = some (.string d) := by
  have o1 := j.ot
  have o2 := j.op
  obtain ⟨ao, n, c, rfl⟩ := Cv.own_slice o1
  obtain ⟨au, nu, cu, rfl⟩ := Cv.own_slice o2
  have l1 := own_len o1
  have l2 := own_len o2
  obtain ⟨g, rfl, _, _⟩ := own_some o1 (by rw [Cv.zl_len, List.length_append]; simp)
  obtain ⟨gu, rfl, _, _⟩ := own_some o2 (by rw [List.length_append]; simp)
  rw [Cv.zl_len, List.length_append, List.length_singleton] at l1
  rw [List.length_append, List.length_singleton] at l2
  subst l1 l2
  have e1 := o1.cells (g := g) rfl
  have e2 := o2.cells (g := gu) rfl
  obtain ⟨f1, f2⟩ := Cv.cB_get (zl (C ++ [(h, k)])) C.length (h : Int) k (by rw [Cv.zl_app, List.getElem?_append_right (by rw [Cv.zl_len]; exact Nat.le_refl _), Cv.zl_len, Nat.sub_self]; rfl)
  have f1 := e1 _ _ f1
  have f2 := e1 _ _ f2
  have f3 := e2 P.length (.string d) (by rw [List.map_append, List.getElem?_append_right (by rw [List.length_map]; exact Nat.le_refl _), List.length_map, Nat.sub_self]; rfl)
  rw [Addr.add_mid, Nat.zero_add, Nat.mul_comm] at f1 f2
  rw [Addr.add_mid, Nat.zero_add] at f3
  have c1 : C.length + 1 ≤ c := by
    rcases o1.2 with ⟨h1, _⟩ | ⟨_, _, _, h1, _, _, h2, _⟩
    · cases h1
    · obtain ⟨_, _, e3⟩ := Value.slice.inj h1; rw [Cv.zl_len, List.length_append, List.length_singleton, ← e3] at h2; exact h2
  have c2 : P.length + 1 ≤ cu := by
    rcases o2.2 with ⟨h1, _⟩ | ⟨_, _, _, h1, _, _, h2, _⟩
    · cases h1
    · obtain ⟨_, _, e3⟩ := Value.slice.inj h1; rw [List.length_append, List.length_singleton, ← e3] at h2; exact h2
  exact ⟨g, c, gu, cu, rfl, rfl, c1, c2, f1, f2, f3⟩
theorem JL.up {w wr : World} {s0 q : Nat} {F : Nat → Nat → ByteArray} {h k h' a g cap gu cu : Nat} (C : List (Nat × Nat)) (hC : cov 0 (2 * a * pw h') = C) (hl : (k + 1) * pw h ≤ 2 ^ 40) (j : JL w wr s0 q F h k h' (2 * a + 1) (.slice (some ⟨g, 0, none⟩) (C.length + 1) cap) (.slice (some ⟨gu, 0, none⟩) (C.length + 1) cu)) (W : World) (hW : (((putB wr q ((h' + 1 : Nat) : Int) a).setCell ⟨s0 + 1, 0, none⟩ (.slice (some ⟨g, 0, none⟩) C.length cap)).setCell ⟨s0 + 2, 0, none⟩ (.slice (some ⟨gu, 0, none⟩) C.length cu)) = W) :
    JL w W s0 q F h k (h' + 1) a (.slice (some ⟨g, 0, none⟩) C.length cap) (.slice (some ⟨gu, 0, none⟩) C.length cu) := by
  have hen := j.en
  have ht : cov 0 ((2 * a + 1) * pw h') = C ++ [(h', 2 * a)] := by
    rw [← hC]
    refine cov_odd h' a (Nat.le_trans ?_ hl)
    rw [← hen]
    exact Nat.mul_le_mul_right _ (by omega)
  have ht2 : cov 0 (a * pw (h' + 1)) = C := by rw [Cv.mul_half, hC]
  have hjs := j.js
  rw [ht] at hjs
  have hne1 := (World.ownsRow.lt hjs.ot g rfl).1
  have hne2 := (World.ownsRow.lt hjs.op gu rfl).1
  have hgq : g < q := j.hv g rfl
  have huq : gu ≠ q := j.hu gu rfl
  have hq := j.hq
  have ch1 := putB_ch wr q ((h' + 1 : Nat) : Int) a
  obtain ⟨W1, hW1⟩ : ∃ W1, putB wr q ((h' + 1 : Nat) : Int) a = W1 := ⟨_, rfl⟩
  have tw1 := j.tw.put ((h' + 1 : Nat) : Int) a
  rw [hW1] at ch1 hW tw1
  have b1 : ∀ b, b ≠ q → W1.heap[b]? = wr.heap[b]? := fun b hb => ch1.block b hb
  have c1 := (b1 (s0 + 1) (by omega)).trans hjs.ct
  have c2 := (b1 (s0 + 2) (by omega)).trans hjs.cp
  have x1 := heap_setCell_same W1 (s0 + 1) 0 _ _ (.slice (some ⟨g, 0, none⟩) C.length cap) c1
  obtain ⟨W2, hW2⟩ : ∃ W2, W1.setCell ⟨s0 + 1, 0, none⟩ (.slice (some ⟨g, 0, none⟩) C.length cap) = W2 := ⟨_, rfl⟩
  have k2 : ChT (fun b => b = s0 + 1) W1 W2 := by rw [← hW2]; exact (ChT.refl _ _).set (s0 + 1) 0 _ rfl
  rw [hW2] at x1 hW
  have c2' := (k2.block (s0 + 2) (by omega)).trans c2
  have x2 := heap_setCell_same W2 (s0 + 2) 0 _ _ (.slice (some ⟨gu, 0, none⟩) C.length cu) c2'
  have k3 : ChT (fun b => b = s0 + 2) W2 W := by rw [← hW]; exact (ChT.refl _ _).set (s0 + 2) 0 _ rfl
  rw [hW] at x2
  have bb : ∀ b, b ≠ q → b ≠ s0 + 1 → b ≠ s0 + 2 → W.heap[b]? = wr.heap[b]? := fun b h1 h2 h3 => ((k3.block b h3).trans (k2.block b h2)).trans (b1 b h1)
  have ot : Cv.OwnB W (s0 + 3) (.slice (some ⟨g, 0, none⟩) C.length cap) (zl C) := by
    have o := hjs.ot
    rw [Cv.zl_app, Cv.OwnB, Cv.cB_app, List.length_append] at o
    have o' := own_cut (n := (zl C).length + 1) (m := (zl C).length) (by rw [Cv.zl_len] at o ⊢; exact o) (Cv.cB_len (zl C)) (by omega)
    rw [Cv.zl_len] at o'
    have o2 : Cv.OwnB wr (s0 + 3) (.slice (some ⟨g, 0, none⟩) C.length cap) (zl C) := by
      show wr.ownsRow (s0 + 3) 94 2 _ (zl C).length (Cv.cB (zl C))
      rw [Cv.zl_len]; exact o'
    refine keep_row o2 fun b hb _ => ?_
    cases hb
    exact bb g (by omega) (by omega) (by omega)
  have op : OwnS W (s0 + 3) (.slice (some ⟨gu, 0, none⟩) C.length cu) (dgF F C) := by
    have o := hjs.op
    rw [dgF, List.map_append, OwnS, List.map_append, List.length_append] at o
    have o' := own_cut (n := (dgF F C).length + 1) (m := (dgF F C).length) (by rw [List.length_map] at o ⊢; exact o) (by rw [List.length_map, Nat.mul_one]) (by omega)
    rw [List.length_map] at o'
    have o2 : OwnS wr (s0 + 3) (.slice (some ⟨gu, 0, none⟩) C.length cu) (dgF F C) := by
      show wr.ownsRow (s0 + 3) 9 1 _ (dgF F C).length ((dgF F C).map Value.string)
      rw [List.length_map]; exact o'
    refine keep_row o2 fun b hb _ => ?_
    cases hb
    exact bb gu huq (by omega) (by omega)
  refine ⟨?_, ?_, j.hv, ?_, by have := j.hh; omega, ?_, hq⟩
  · rw [ht2]
    exact ⟨(k3.block (s0 + 1) (by omega)).trans x1, x2, ot, op⟩
  · exact (tw1.same (k2.block q (by omega))).same (k3.block q (by omega))
  · rw [← hen, Cv.mul_half, show 2 * (a + 1) = 2 * a + 1 + 1 by omega]
  · have hz1 : Below (s0 + 1) wr W1 := ch1.below (by rintro b rfl; omega)
    have hz2 : Below (s0 + 1) W1 W2 := k2.below (by rintro b rfl; omega)
    have hz3 : Below (s0 + 1) W2 W := k3.below (by rintro b rfl; omega)
    exact ((j.be.trans hz1).trans hz2).trans hz3
end Go.Proofs.YtipcenbndhnnhaaGreatDoor
namespace Go.Proofs.YtipcenbndhnnhaaGreatDoor
open Go.RowKit
def StepJ (P : Program) (Q : Exit → Act → World → Prop) (ops : List Oper) (I : (Nat → Bool) → Act → World → Prop) (j : Nat) (o : Oper) : Prop :=
  ∀ (L : Nat → Bool) (a : Act) (w : World) (K : Act → World → Prop), I L a w → L j = false → (∀ i k, L i = true → dep ops i k = true → L k = true) →
    (∀ k, (o.after.toList.any fun e => e.on == k && Region.binds .any e) = true → L k = true) →
    (∀ v w', I (fun i => if i = j then true else L i) (a.put o.dst v) w' → K (a.put o.dst v) w') → o.wp P a w K Q
theorem wp_region_planJ {P : Program} {ops : Array Oper} {Q : Exit → Act → World → Prop} {id : Nat} {a0 : Act} {w0 : World} (hm : P.follows .mixedOrders = true)
    (hok : (List.range ops.size).all (fun j => match ops[j]? with | none => false | some o => o.after.all (fun e => !Region.binds .any e || decide (e.on < j)) && o.guard.isNone) = true)
    (I : (Nat → Bool) → Act → World → Prop) (h0 : ∀ w, w.heap = w0.heap → Below w0.heap.size w0 w → I (fun _ => false) a0 w)
    (step : StepAll (StepJ P Q ops.toList I) 0 ops.toList)
    (fin : ∀ L a w, (∀ k, k < ops.size → L k = true) → I L a w → Q .normal a w) : (Code.region id ops true).wp P Q a0 w0 := by
  have acy : ∀ (j : Nat) (o : Oper), ops[j]? = some o → (∀ e ∈ o.after, Region.binds .any e = true → e.on < j) ∧ o.guard = none := fun j o ho => by
    have hj : j < ops.size := (Array.getElem?_eq_some_iff.1 ho).1
    have h1 := List.all_eq_true.1 hok j (by simpa using hj)
    rw [ho] at h1
    simp only [Bool.and_eq_true] at h1
    refine ⟨fun e he hb => ?_, by simpa using h1.2⟩
    have := Array.all_eq_true_iff_forall_mem.1 h1.1 e he
    simpa [hb] using this
  have core : ∀ (fuel : Nat) (listed : Array Bool) (a : Act) (w : World), listed.size = ops.size → cntU (fun k => listed.getD k false) ops.size ≤ fuel →
      I (fun k => listed.getD k false) a w → (∀ i k, listed.getD i false = true → dep ops.toList i k = true → listed.getD k false = true) → wpAny P .any ops Q fuel listed a w := by
    intro fuel
    induction fuel with
    | zero =>
      intro listed a w hsz hc hI hcl
      have hall := cntU_zero (Nat.le_zero.1 hc)
      refine ⟨?_, fin _ a w (fun k hk => hall k hk) hI⟩
      apply List.eq_nil_iff_forall_not_mem.2
      intro i hi
      obtain ⟨h1, o, ho, _⟩ := mem_ready.1 hi
      have hi' : i < ops.size := (Array.getElem?_eq_some_iff.1 ho).1
      have h2 := hall i hi'
      simp [Array.getD, hsz, hi'] at h1 h2
      rw [h2] at h1; cases h1
    | succ fuel ih =>
      intro listed a w hsz hc hI hcl
      have gd : ∀ i, i < ops.size → listed.getD i true = listed.getD i false := fun i hi => by simp [Array.getD, hsz, hi]
      refine ⟨fun hr => ?_, fun i hi => ?_⟩
      · refine fin _ a w ?_ hI
        have : ∀ n, ∀ k, k < n → k < ops.size → listed.getD k false = true := by
          intro n
          induction n with
          | zero => intro k hk; omega
          | succ n ihn =>
            intro k hk hks
            by_cases hlk : listed.getD k false = true
            · exact hlk
            · exfalso
              have hmem : k ∈ Region.ready .any ops listed := by
                refine mem_ready.2 ⟨by rw [gd k hks]; simpa using hlk, ops[k], Array.getElem?_eq_getElem hks, fun e he hb => ?_⟩
                have h1 := (acy k ops[k] (Array.getElem?_eq_getElem hks)).1 e he hb
                exact ihn e.on (by omega) (by omega)
              rw [hr] at hmem; cases hmem
        exact fun k hk => this (k + 1) k (by omega) hk
      · obtain ⟨h1, o, ho, hdep⟩ := mem_ready.1 hi
        have hi' : i < ops.size := (Array.getElem?_eq_some_iff.1 ho).1
        have st := stepAll_at step (by rw [Array.getElem?_toList]; exact ho)
        rw [Nat.zero_add] at st
        have dval : ∀ k, (o.after.toList.any fun e => e.on == k && Region.binds .any e) = true → listed.getD k false = true := fun k hk => by
          obtain ⟨e, he, h2⟩ := any_mem hk
          simp only [Bool.and_eq_true, beq_iff_eq] at h2
          obtain ⟨rfl, hbnd⟩ := h2
          exact hdep e he hbnd
        have hfun : (fun k => (listed.setIfInBounds i true).getD k false) = fun k => if k = i then true else listed.getD k false := by
          funext k
          by_cases e : k = i
          · subst e; simp [Array.getD, hsz, hi']
          · by_cases h : k < listed.size
            · simp [Array.getD, h, e, Ne.symm e]
            · simp [Array.getD, h, e]
        have hK : ∀ v w', I (fun k => if k = i then true else listed.getD k false) (a.put o.dst v) w' → wpAny P .any ops Q fuel (listed.setIfInBounds i true) (a.put o.dst v) w' := fun v w' hI' => by
          refine ih _ _ _ (by simp [hsz]) ?_ (by rw [hfun]; exact hI') ?_
          · have := cntU_set (p := fun k => listed.getD k false) (q := fun k => (listed.setIfInBounds i true).getD k false) (i := i) (by rw [← gd i hi']; exact h1) (by simp [Array.getD, hsz, hi']) (fun k hk => by
              by_cases h : k < listed.size
              · simp [Array.getD, h, Ne.symm hk]
              · simp [Array.getD, h]) ops.size hi'
            omega
          · intro x y hx hxy
            have e1 : (listed.setIfInBounds i true).getD x false = if x = i then true else listed.getD x false := congrFun hfun x
            have e2 : (listed.setIfInBounds i true).getD y false = if y = i then true else listed.getD y false := congrFun hfun y
            rw [e1] at hx
            rw [e2]
            by_cases ey : y = i
            · rw [if_pos ey]
            · rw [if_neg ey]
              by_cases ex : x = i
              · subst ex
                refine dval y ?_
                have hxy' := hxy
                unfold dep at hxy'
                rw [Array.getElem?_toList, ho] at hxy'
                exact hxy'
              · rw [if_neg ex] at hx
                exact hcl x y hx hxy
        have hst := st (fun k => listed.getD k false) a w (wpAny P .any ops Q fuel (listed.setIfInBounds i true)) hI (by rw [← gd i hi']; exact h1) hcl dval hK
        unfold wpOp
        simp only [ho]
        rw [if_pos (by unfold Region.wanted; rw [(acy i o ho).2])]
        exact Or.inl hst
  refine wp_region_any hm (core ops.size _ a0 _ (by simp) ?_ ?_ ?_)
  · rw [cntU_congr (q := fun _ => false), cntU_none]
    · exact Nat.le_refl _
    · intro k hk; simp [Array.getD, hk]
  · have hf : (fun k => (Array.replicate ops.size false).getD k false) = fun _ => false := by
      funext k
      by_cases hk : k < ops.size
      · simp [Array.getD, hk]
      · simp [Array.getD, hk]
    rw [hf]
    exact h0 _ rfl ⟨rfl, rfl, rfl, Nat.le_refl _, fun _ _ => rfl⟩
  · intro i k hi hk
    exfalso
    by_cases hs : i < ops.size
    · simp [Array.getD, hs] at hi
    · simp [Array.getD, hs] at hi
end Go.Proofs.YtipcenbndhnnhaaGreatDoor
