/-
  A region that draws its order, by an invariant: what holds of frame and world hangs on which operations are done. Own work.
-/
import Derived.Test.YtmhedhhbdpdafaaPlan2
namespace Go.Proofs.Ytmhedhhbdpdafaa
open Go.RowKit
/-- What is to be shown of one operation. -/
def StepJ (P : Program) (Q : Exit → Act → World → Prop) (ops : List Oper) (I : (Nat → Bool) → Act → World → Prop) (j : Nat) (o : Oper) : Prop :=
  ∀ (L : Nat → Bool) (a : Act) (w : World) (K : Act → World → Prop), I L a w → L j = false → (∀ i k, L i = true → dep ops i k = true → L k = true) →
    (∀ k, (o.after.toList.any fun e => e.on == k && Region.binds .any e) = true → L k = true) →
    (∀ v w', I (fun i => if i = j then true else L i) (a.put o.dst v) w' → K (a.put o.dst v) w') → o.wp P a w K Q
theorem wp_region_planJ {P : Program} {ops : Array Oper} {Q : Exit → Act → World → Prop} {id : Nat} {a0 : Act} {w0 : World} (hm : P.follows .mixedOrders = true)
    (hok : (List.range ops.size).all (fun j => match ops[j]? with | none => false | some o => o.after.all (fun e => !Region.binds .any e || decide (e.on < j)) && o.guard.isNone) = true)
    (I : (Nat → Bool) → Act → World → Prop) (h0 : ∀ w, w.heap = w0.heap → Below w0.heap.size w0 w → I (fun _ => false) a0 w)
    (step : StepAll (StepJ P Q ops.toList I) 0 ops.toList)
    (fin : ∀ L a w, (∀ k, k < ops.size → L k = true) → I L a w → Q .normal a w) : (Code.region id ops true).wp P Q a0 w0 := by
  have acy : ∀ (j : Nat) (o : Oper), ops[j]? = some o → (∀ e ∈ o.after, Region.binds .any e = true → e.on < j) ∧ o.guard = none := fun j o ho => by
    have hj : j < ops.size := (Array.getElem?_eq_some_iff.1 ho).1
    have h1 := List.all_eq_true.1 hok j (by simpa using hj)
    rw [ho] at h1
    simp only [Bool.and_eq_true] at h1
    refine ⟨fun e he hb => ?_, by simpa using h1.2⟩
    have := Array.all_eq_true_iff_forall_mem.1 h1.1 e he
    simpa [hb] using this
  have core : ∀ (fuel : Nat) (listed : Array Bool) (a : Act) (w : World), listed.size = ops.size → cntU (fun k => listed.getD k false) ops.size ≤ fuel →
      I (fun k => listed.getD k false) a w → (∀ i k, listed.getD i false = true → dep ops.toList i k = true → listed.getD k false = true) → wpAny P .any ops Q fuel listed a w := by
    intro fuel
    induction fuel with
    | zero =>
      intro listed a w hsz hc hI hcl
      have hall := cntU_zero (Nat.le_zero.1 hc)
      refine ⟨?_, fin _ a w (fun k hk => hall k hk) hI⟩
      apply List.eq_nil_iff_forall_not_mem.2
      intro i hi
      obtain ⟨h1, o, ho, _⟩ := mem_ready.1 hi
      have hi' : i < ops.size := (Array.getElem?_eq_some_iff.1 ho).1
      have h2 := hall i hi'
      simp [Array.getD, hsz, hi'] at h1 h2
      rw [h2] at h1; cases h1
    | succ fuel ih =>
      intro listed a w hsz hc hI hcl
      have gd : ∀ i, i < ops.size → listed.getD i true = listed.getD i false := fun i hi => by simp [Array.getD, hsz, hi]
      refine ⟨fun hr => ?_, fun i hi => ?_⟩
      · refine fin _ a w ?_ hI
        have : ∀ n, ∀ k, k < n → k < ops.size → listed.getD k false = true := by
          intro n
          induction n with
          | zero => intro k hk; omega
          | succ n ihn =>
            intro k hk hks
            by_cases hlk : listed.getD k false = true
            · exact hlk
            · exfalso
              have hmem : k ∈ Region.ready .any ops listed := by
                refine mem_ready.2 ⟨by rw [gd k hks]; simpa using hlk, ops[k], Array.getElem?_eq_getElem hks, fun e he hb => ?_⟩
                have h1 := (acy k ops[k] (Array.getElem?_eq_getElem hks)).1 e he hb
                exact ihn e.on (by omega) (by omega)
              rw [hr] at hmem; cases hmem
        exact fun k hk => this (k + 1) k (by omega) hk
      · obtain ⟨h1, o, ho, hdep⟩ := mem_ready.1 hi
        have hi' : i < ops.size := (Array.getElem?_eq_some_iff.1 ho).1
        have st := stepAll_at step (by rw [Array.getElem?_toList]; exact ho)
        rw [Nat.zero_add] at st
        have dval : ∀ k, (o.after.toList.any fun e => e.on == k && Region.binds .any e) = true → listed.getD k false = true := fun k hk => by
          obtain ⟨e, he, h2⟩ := any_mem hk
          simp only [Bool.and_eq_true, beq_iff_eq] at h2
          obtain ⟨rfl, hbnd⟩ := h2
          exact hdep e he hbnd
        have hfun : (fun k => (listed.setIfInBounds i true).getD k false) = fun k => if k = i then true else listed.getD k false := by
          funext k
          by_cases e : k = i
          · subst e; simp [Array.getD, hsz, hi']
          · by_cases h : k < listed.size
            · simp [Array.getD, h, e, Ne.symm e]
            · simp [Array.getD, h, e]
        have hK : ∀ v w', I (fun k => if k = i then true else listed.getD k false) (a.put o.dst v) w' → wpAny P .any ops Q fuel (listed.setIfInBounds i true) (a.put o.dst v) w' := fun v w' hI' => by
          refine ih _ _ _ (by simp [hsz]) ?_ (by rw [hfun]; exact hI') ?_
          · have := cntU_set (p := fun k => listed.getD k false) (q := fun k => (listed.setIfInBounds i true).getD k false) (i := i) (by rw [← gd i hi']; exact h1) (by simp [Array.getD, hsz, hi']) (fun k hk => by
              by_cases h : k < listed.size
              · simp [Array.getD, h, Ne.symm hk]
              · simp [Array.getD, h]) ops.size hi'
            omega
          · intro x y hx hxy
            have e1 : (listed.setIfInBounds i true).getD x false = if x = i then true else listed.getD x false := congrFun hfun x
            have e2 : (listed.setIfInBounds i true).getD y false = if y = i then true else listed.getD y false := congrFun hfun y
            rw [e1] at hx
            rw [e2]
            by_cases ey : y = i
            · rw [if_pos ey]
            · rw [if_neg ey]
              by_cases ex : x = i
              · subst ex
                refine dval y ?_
                have hxy' := hxy
                unfold dep at hxy'
                rw [Array.getElem?_toList, ho] at hxy'
                exact hxy'
              · rw [if_neg ex] at hx
                exact hcl x y hx hxy
        have hst := st (fun k => listed.getD k false) a w (wpAny P .any ops Q fuel (listed.setIfInBounds i true)) hI (by rw [← gd i hi']; exact h1) hcl dval hK
        unfold wpOp
        simp only [ho]
        rw [if_pos (by unfold Region.wanted; rw [(acy i o ho).2])]
        exact Or.inl hst
  refine wp_region_any hm (core ops.size _ a0 _ (by simp) ?_ ?_ ?_)
  · rw [cntU_congr (q := fun _ => false), cntU_none]
    · exact Nat.le_refl _
    · intro k hk; simp [Array.getD, hk]
  · have hf : (fun k => (Array.replicate ops.size false).getD k false) = fun _ => false := by
      funext k
      by_cases hk : k < ops.size
      · simp [Array.getD, hk]
      · simp [Array.getD, hk]
    rw [hf]
    exact h0 _ rfl ⟨rfl, rfl, rfl, Nat.le_refl _, fun _ _ => rfl⟩
  · intro i k hi hk
    exfalso
    by_cases hs : i < ops.size
    · simp [Array.getD, hs] at hi
    · simp [Array.getD, hs] at hi
end Go.Proofs.Ytmhedhhbdpdafaa
