/-
  Plans over lists of texts that give the frame back. Own work.
-/
import Derived.Test.YtgmnolepaidiiaaDoorPlanG
namespace Go.Proofs.YtgmnolepaidiiaaDoor
open Go.RowKit
/-- The plan's values, the lists as they came out. -/
def mixG (vs : List Value) (Gs : List (Nat × List ByteArray)) (f : Nat → Value) : List Value := (List.range vs.length).map fun k => match Gs.lookup k with | some _ => f k | none => vs.getD k undef
theorem mixG_at (vs : List Value) (Gs : List (Nat × List ByteArray)) (f : Nat → Value) {k : Nat} (hk : k < vs.length) : (mixG vs Gs f).getD k undef = match Gs.lookup k with | some _ => f k | none => vs.getD k undef := by
  rw [List.getD_eq_getElem?_getD, mixG, List.getElem?_map, List.getElem?_range hk]; rfl
theorem wp_region_planG {P : Program} {ops : Array Oper} {Q : Exit → Act → World → Prop} {id : Nat} {a0 : Act} {w0 : World} (hm : P.follows .mixedOrders = true)
    (sl : List Nat) (vs : List Value) (Gs : List (Nat × List ByteArray)) (hok : planOk ops.toList sl a0.tmps.size = true) (hl : sl.length = vs.length)
    (step : StepAll (Step P Q sl (planG vs Gs) a0 w0) 0 ops.toList)
    (fin : ∀ (f : Nat → Value) w, Below w0.heap.size w0 w → (∀ j ss, j < sl.length → Gs.lookup j = some ss → RdL w (f j) ss) → Q .normal (puts a0 sl (mixG vs Gs f)) w) : (Code.region id ops true).wp P Q a0 w0 := by
  refine wp_region_plan hm sl hok (planG vs Gs) (planG_mono _ _) step fun a w hb hd hs ho hv => ?_
  simp only [planOk, Bool.and_eq_true] at hok
  obtain ⟨⟨⟨_, hlt⟩, hinj⟩, _⟩ := hok
  have e := act_puts (vs := mixG vs Gs fun k => a.tmps.getD (sl.getD k 0) undef) hd hs ho (fun k hk => ?_) (by rw [mixG, List.length_map, List.length_range]; exact hl) (fun j hj => ?_) (fun i j hij hj => ?_)
  · rw [e]
    refine fin _ w hb fun j ss hj hg => ?_
    have := hv j hj
    unfold planG at this
    rw [hg] at this
    exact this
  · rw [mixG_at _ _ _ (by omega)]
    have := hv k hk
    unfold planG at this
    split
    · rfl
    · rename_i hg
      rw [hg] at this
      exact this
  · have := List.all_eq_true.1 hlt (sl.getD j 0) (by rw [List.getD_eq_getElem?_getD, List.getElem?_eq_getElem hj]; exact List.getElem_mem _)
    simpa using this
  · have h1 := List.all_eq_true.1 hinj j (by simpa using hj)
    have h2 := List.all_eq_true.1 h1 i (by simpa using hij)
    simpa using h2
end Go.Proofs.YtgmnolepaidiiaaDoor
