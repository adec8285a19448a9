/-
  Plans in which operations are passed by: what guards them was passed by itself. Own work.
-/
import Derived.Test.YtgmnolepaidiiaaDoorPlanH
namespace Go.Proofs.YtgmnolepaidiiaaDoor
open Go.RowKit
/-- What is to be shown of one operation. -/
def StepU (P : Program) (Q : Exit → Act → World → Prop) (sl : List Nat) (Φ : Nat → Value → World → Prop) (a0 : Act) (w0 : World) (j : Nat) (o : Oper) : Prop :=
  ∀ (a : Act) (w : World) (K : Act → World → Prop), Below w0.heap.size w0 w →
    (∀ t, sl.contains t = false → a.tmps.getD t undef = a0.tmps.getD t undef) →
    (∀ k, (o.after.toList.any fun e => e.on == k && Region.binds .any e) = true → Φ k (a.tmps.getD (sl.getD k 0) undef) w) →
    (∀ v w', Φ j v w' → Below w.heap.size w w' → K (a.put o.dst v) w') →
    match o.guard with
    | none => o.wp P a w K Q
    | some (g, want) => (∃ b, a.tmps.getD (sl.getD g 0) undef = .bool b ∧ (if b = want then o.wp P a w K Q else K (a.put o.dst undef) w)) ∨ (a.tmps.getD (sl.getD g 0) undef = undef ∧ K (a.put o.dst undef) w)
theorem wp_region_planU {P : Program} {ops : Array Oper} {Q : Exit → Act → World → Prop} {id : Nat} {a0 : Act} {w0 : World} (hm : P.follows .mixedOrders = true)
    (sl : List Nat) (hok : planOk ops.toList sl a0.tmps.size = true) (Φ : Nat → Value → World → Prop)
    (mono : ∀ j v w w', Φ j v w → Below w.heap.size w w' → Φ j v w')
    (step : StepAll (StepU P Q sl Φ a0 w0) 0 ops.toList)
    (fin : ∀ a w, Below w0.heap.size w0 w → a.defers = a0.defers → a.tmps.size = a0.tmps.size → (∀ t, sl.contains t = false → a.tmps.getD t undef = a0.tmps.getD t undef) →
      (∀ k, k < sl.length → Φ k (a.tmps.getD (sl.getD k 0) undef) w) → Q .normal a w) : (Code.region id ops true).wp P Q a0 w0 := by
  simp only [planOk, Bool.and_eq_true] at hok
  obtain ⟨⟨⟨hd, hlt⟩, hinj⟩, hacy⟩ := hok
  have hd' : ops.toList.map (·.dst) = sl.map some := by simpa using hd
  have hlen : ops.size = sl.length := by have := congrArg List.length hd'; simpa using this
  have dst : ∀ (j : Nat) (o : Oper), ops[j]? = some o → o.dst = some (sl.getD j 0) := fun j o ho => by
    have h1 : (ops.toList.map (·.dst))[j]? = some o.dst := by
      rw [List.getElem?_map, Array.getElem?_toList, ho]; rfl
    rw [hd', List.getElem?_map] at h1
    rw [List.getD_eq_getElem?_getD]
    cases hs : sl[j]? with
    | none => rw [hs] at h1; cases h1
    | some x => rw [hs] at h1; simpa using h1.symm
  have sll : ∀ j, j < sl.length → sl.getD j 0 < a0.tmps.size := fun j hj => by
    have := List.all_eq_true.1 hlt (sl.getD j 0) (by rw [List.getD_eq_getElem?_getD, List.getElem?_eq_getElem hj]; exact List.getElem_mem _)
    simpa using this
  have ne1 : ∀ j k, k < j → j < sl.length → sl.getD k 0 ≠ sl.getD j 0 := fun j k hk hj => by
    have h1 := List.all_eq_true.1 hinj j (by simpa using hj)
    have h2 := List.all_eq_true.1 h1 k (by simpa using hk)
    simpa using h2
  have ne : ∀ j k, j < sl.length → k < sl.length → j ≠ k → sl.getD j 0 ≠ sl.getD k 0 := fun j k hj hk h => by
    rcases Nat.lt_or_ge j k with h' | h'
    · exact ne1 k j h' hk
    · exact (ne1 j k (by omega) hj).symm
  have acy : ∀ (j : Nat) (o : Oper), ops[j]? = some o → (∀ e ∈ o.after, e.on < j) ∧ (∀ g want, o.guard = some (g, want) → (o.after.toList.any fun e => e.on == g && Region.binds .any e) = true) := fun j o ho => by
    have hj : j < ops.size := (Array.getElem?_eq_some_iff.1 ho).1
    have h1 := List.all_eq_true.1 hacy j (by simpa using hj)
    rw [Array.getElem?_toList, ho] at h1
    simp only [Bool.and_eq_true] at h1
    refine ⟨fun e he => ?_, fun g want hg => ?_⟩
    · have := Array.all_eq_true_iff_forall_mem.1 h1.1 e he
      simpa using this
    · have := h1.2
      rw [hg] at this
      exact this
  have memsl : ∀ j, j < sl.length → sl.contains (sl.getD j 0) = true := fun j hj => by
    rw [List.getD_eq_getElem?_getD, List.getElem?_eq_getElem hj]
    simp
  have core : ∀ (fuel : Nat) (listed : Array Bool) (a : Act) (w : World), listed.size = ops.size → cntU (fun k => listed.getD k false) ops.size ≤ fuel →
      Below w0.heap.size w0 w → a.defers = a0.defers → a.tmps.size = a0.tmps.size → (∀ t, sl.contains t = false → a.tmps.getD t undef = a0.tmps.getD t undef) →
      (∀ k, k < sl.length → listed.getD k false = true → Φ k (a.tmps.getD (sl.getD k 0) undef) w) → wpAny P .any ops Q fuel listed a w := by
    intro fuel
    induction fuel with
    | zero =>
      intro listed a w hsz hc hb hde hts hsm hΦ
      have hall := cntU_zero (Nat.le_zero.1 hc)
      refine ⟨?_, fin a w hb hde hts hsm (fun k hk => hΦ k hk (hall k (by omega)))⟩
      apply List.eq_nil_iff_forall_not_mem.2
      intro i hi
      obtain ⟨h1, o, ho, _⟩ := mem_ready.1 hi
      have hi' : i < ops.size := (Array.getElem?_eq_some_iff.1 ho).1
      have h2 := hall i hi'
      simp [Array.getD, hsz, hi'] at h1 h2
      rw [h2] at h1; cases h1
    | succ fuel ih =>
      intro listed a w hsz hc hb hde hts hsm hΦ
      have gd : ∀ i, i < ops.size → listed.getD i true = listed.getD i false := fun i hi => by simp [Array.getD, hsz, hi]
      refine ⟨fun hr => ?_, fun i hi => ?_⟩
      · refine fin a w hb hde hts hsm (fun k hk => hΦ k hk ?_)
        have : ∀ n, ∀ k, k < n → k < ops.size → listed.getD k false = true := by
          intro n
          induction n with
          | zero => intro k hk; omega
          | succ n ihn =>
            intro k hk hks
            by_cases hlk : listed.getD k false = true
            · exact hlk
            · exfalso
              have hmem : k ∈ Region.ready .any ops listed := by
                refine mem_ready.2 ⟨by rw [gd k hks]; simpa using hlk, ops[k], Array.getElem?_eq_getElem hks, fun e he _ => ?_⟩
                have h1 := (acy k ops[k] (Array.getElem?_eq_getElem hks)).1 e he
                exact ihn e.on (by omega) (by omega)
              rw [hr] at hmem; cases hmem
        exact this (k + 1) k (by omega) (by omega)
      · obtain ⟨h1, o, ho, hdep⟩ := mem_ready.1 hi
        have hi' : i < ops.size := (Array.getElem?_eq_some_iff.1 ho).1
        have hds := dst i o ho
        have st := stepAll_at step (by rw [Array.getElem?_toList]; exact ho)
        rw [Nat.zero_add] at st
        have dep : ∀ k, (o.after.toList.any fun e => e.on == k && Region.binds .any e) = true → Φ k (a.tmps.getD (sl.getD k 0) undef) w := fun k hk => by
          obtain ⟨e, he, h2⟩ := any_mem hk
          simp only [Bool.and_eq_true, beq_iff_eq] at h2
          obtain ⟨rfl, hbnd⟩ := h2
          have h3 := hdep e he hbnd
          have h4 := (acy i o ho).1 e he
          exact hΦ e.on (by omega) h3
        have hK : ∀ v w', Φ i v w' → Below w.heap.size w w' → wpAny P .any ops Q fuel (listed.setIfInBounds i true) (a.put o.dst v) w' := fun v w' hv hb' => by
          refine ih _ _ _ (by simp [hsz]) ?_ (hb.trans (hb'.mono hb.size)) ?_ ?_ ?_ ?_
          · have := cntU_set (p := fun k => listed.getD k false) (q := fun k => (listed.setIfInBounds i true).getD k false) (i := i) (by rw [← gd i hi']; exact h1) (by simp [Array.getD, hsz, hi']) (fun k hk => by
              by_cases h : k < listed.size
              · simp [Array.getD, h, Ne.symm hk]
              · simp [Array.getD, h]) ops.size hi'
            omega
          · rw [hds]; exact hde
          · rw [hds]; simp [Act.put, hts]
          · intro t ht
            rw [hds, getD_put_ne]
            · exact hsm t ht
            · intro e
              have := memsl i (by omega)
              rw [e, ht] at this; cases this
          · intro k hk hlk
            rw [hds]
            by_cases e : k = i
            · subst e
              rw [getD_put _ _ _ (by rw [hts]; exact sll k hk)]; exact hv
            · rw [getD_put_ne _ _ _ _ (ne i k (by omega) hk (Ne.symm e))]
              refine mono _ _ _ _ (hΦ k hk ?_) hb'
              have hks : k < listed.size := by omega
              simpa [Array.getD, hks, Array.getElem_setIfInBounds, Ne.symm e] using hlk
        have hst := st a w (wpAny P .any ops Q fuel (listed.setIfInBounds i true)) hb hsm dep hK
        unfold wpOp
        simp only [ho]
        cases hg : o.guard with
        | none =>
          rw [hg] at hst
          rw [if_pos (by unfold Region.wanted; rw [hg])]
          exact Or.inl hst
        | some gw =>
          obtain ⟨g, want⟩ := gw
          rw [hg] at hst
          have hgd := (acy i o ho).2 g want hg
          have hgi : g < i := by
            obtain ⟨e, he, h2⟩ := any_mem hgd
            simp only [Bool.and_eq_true, beq_iff_eq] at h2
            obtain ⟨rfl, _⟩ := h2
            exact (acy i o ho).1 e he
          rcases hst with ⟨b, hbv, hst⟩ | ⟨hbv, hst⟩
          · have hy : yielded ops a.tmps g = some b := by
              have hgs : ops[g]? = some ops[g] := Array.getElem?_eq_getElem (by omega)
              have h5 := dst g ops[g] hgs
              have h6 : sl.getD g 0 < a.tmps.size := by rw [hts]; exact sll g (by omega)
              have h7 : a.tmps[sl.getD g 0]? = some (.bool b) := by
                rw [← hbv, Array.getD_eq_getD_getElem?, Array.getElem?_eq_getElem h6]; rfl
              unfold yielded
              rw [hgs]
              simp only [Option.bind_some, h5, h7]
            have hw : Region.wanted o (yielded ops a.tmps) = (b == want) := by
              unfold Region.wanted; rw [hg]; simp only [hy]; cases b <;> cases want <;> rfl
            rw [hw]
            by_cases e : b = want
            · rw [if_pos e] at hst
              rw [if_pos (by rw [e]; simp)]
              exact Or.inl hst
            · rw [if_neg e] at hst
              rw [if_neg (by simpa using e)]
              exact hst
          · have hy : yielded ops a.tmps g = none := by
              have hgs : ops[g]? = some ops[g] := Array.getElem?_eq_getElem (by omega)
              have h5 := dst g ops[g] hgs
              have h6 : sl.getD g 0 < a.tmps.size := by rw [hts]; exact sll g (by omega)
              have h7 : a.tmps[sl.getD g 0]? = some undef := by
                rw [← hbv, Array.getD_eq_getD_getElem?, Array.getElem?_eq_getElem h6]; rfl
              unfold yielded
              rw [hgs]
              simp only [Option.bind_some, h5, h7]
              rfl
            have hw : Region.wanted o (yielded ops a.tmps) = false := by
              unfold Region.wanted; rw [hg]; simp only [hy]; rfl
            rw [hw]
            exact hst
  refine wp_region_any hm (core ops.size _ a0 _ (by simp) ?_ ⟨rfl, rfl, rfl, Nat.le_refl _, fun _ _ => rfl⟩ rfl rfl (fun _ _ => rfl) ?_)
  · rw [cntU_congr (q := fun _ => false), cntU_none]
    · exact Nat.le_refl _
    · intro k hk; simp [Array.getD, hk]
  · intro k hk hlk
    exfalso
    have : k < ops.size := by omega
    simp [Array.getD, this] at hlk
theorem wp_region_planGU {P : Program} {ops : Array Oper} {Q : Exit → Act → World → Prop} {id : Nat} {a0 : Act} {w0 : World} (hm : P.follows .mixedOrders = true)
    (sl : List Nat) (vs : List Value) (Gs : List (Nat × List ByteArray)) (hok : planOk ops.toList sl a0.tmps.size = true) (hl : sl.length = vs.length)
    (step : StepAll (StepU P Q sl (planG vs Gs) a0 w0) 0 ops.toList)
    (fin : ∀ (f : Nat → Value) w, Below w0.heap.size w0 w → (∀ j ss, j < sl.length → Gs.lookup j = some ss → RdL w (f j) ss) → Q .normal (puts a0 sl (mixG vs Gs f)) w) : (Code.region id ops true).wp P Q a0 w0 := by
  refine wp_region_planU hm sl hok (planG vs Gs) (planG_mono _ _) step fun a w hb hd hs ho hv => ?_
  simp only [planOk, Bool.and_eq_true] at hok
  obtain ⟨⟨⟨_, hlt⟩, hinj⟩, _⟩ := hok
  have e := act_puts (vs := mixG vs Gs fun k => a.tmps.getD (sl.getD k 0) undef) hd hs ho (fun k hk => ?_) (by rw [mixG, List.length_map, List.length_range]; exact hl) (fun j hj => ?_) (fun i j hij hj => ?_)
  · rw [e]
    refine fin _ w hb fun j ss hj hg => ?_
    have := hv j hj
    unfold planG at this
    rw [hg] at this
    exact this
  · rw [mixG_at _ _ _ (by omega)]
    have := hv k hk
    unfold planG at this
    split
    · rfl
    · rename_i hg
      rw [hg] at this
      exact this
  · have := List.all_eq_true.1 hlt (sl.getD j 0) (by rw [List.getD_eq_getElem?_getD, List.getElem?_eq_getElem hj]; exact List.getElem_mem _)
    simpa using this
  · have h1 := List.all_eq_true.1 hinj j (by simpa using hj)
    have h2 := List.all_eq_true.1 h1 i (by simpa using hij)
    simpa using h2
end Go.Proofs.YtgmnolepaidiiaaDoor
