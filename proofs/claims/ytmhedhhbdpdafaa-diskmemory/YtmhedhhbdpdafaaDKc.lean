/-
  Appends of whole lists, of files and of truths; a truth in another's place. Own work.
-/
import Derived.Test.YtmhedhhbdpdafaaDKb
import Derived.Test.YtmhedhhbdpdafaaDClone
namespace Go.Proofs.Ytmhedhhbdpdafaa
open Go.RowKit
theorem rdc_F {w : World} {ao : Option Addr} {b off c : Nat} {M : List FL} (h : RdF w ao b off M) (hn : ao = none → c = 0) : RdC w (.slice ao M.length c) M.length (cF M) := by
  refine ⟨ao, c, rfl, fun e => ⟨?_, hn e⟩, fun ad ha j u hu => ?_⟩
  · rcases Nat.eq_zero_or_pos M.length with q | q
    · exact q
    · have := h.ptr q; rw [e] at this; cases this
  · have hj : j < (cF M).length := (List.getElem?_eq_some_iff.1 hu).1
    rw [cF_len] at hj
    have ep := h.ptr (by omega)
    rw [ha] at ep
    injection ep with ep
    rw [ep, Addr.add_mid]
    have hd : j / 2 < M.length := by omega
    rcases Nat.mod_two_eq_zero_or_one j with q | q
    · have e2 : j = j / 2 * 2 := by omega
      have := (cF_at M (j / 2) hd).1
      rw [← e2, hu] at this
      have h0 := h.c0 (j / 2) hd
      rw [← e2] at h0
      rw [h0, ← this]
    · have e2 : j = j / 2 * 2 + 1 := by omega
      have := (cF_at M (j / 2) hd).2
      rw [← e2, hu] at this
      have h0 := h.c1 (j / 2) hd
      rw [Nat.add_assoc, ← e2] at h0
      rw [h0, ← this]
theorem cF_one (l : List FL) : ∀ u ∈ cF l, u.oneCell' = true := fun u hu => by
  obtain ⟨p, _, hp⟩ := List.mem_flatMap.1 hu
  simp at hp
  rcases hp with rfl | rfl <;> rfl
/-- A whole list of files appended. -/
theorem run_all_F (w : World) (ty B : Nat) (v : Value) (L : List FL) (hown : OwnF w B v L) (ao : Option Addr) (b off c : Nat) (M : List FL) (hr : RdF w ao b off M) (hn : ao = none → c = 0) (hlen : L.length + M.length ≤ 4398046511104) (hB : B ≤ w.heap.size) :
    ∃ v' w', (Builtin.append_ #[40, 40] ty #[v, .slice ao M.length c]).run Try.prog w = .ok v' w' ∧ OwnF w' B v' (L ++ M) ∧ w.grownBy w' v.ownBlock := by
  obtain ⟨i0, hi, hz0, hz1, hz2⟩ := info_parts Try.infoF
  obtain ⟨v', w', q1, q2, q3⟩ := run_all w 40 ty 42 B 2 32 i0 (.agg #[.string ⟨#[]⟩, .string ⟨#[]⟩]) Try.underlying40 hi hz0 hz1 hz2 rfl (by decide) v L.length (cF L) hown _ M.length (cF M) (rdc_F hr hn) (cF_len M) (cF_one M) (by unfold maxLen; omega) (by omega) hB
  refine ⟨v', w', q1, ?_, q3⟩
  rw [OwnF, List.length_append, cF_app]
  exact q2
theorem rdc_L {w : World} {ao : Option Addr} {b off c : Nat} {M : List Bool} (h : RdL w ao b off M) (hn : ao = none → c = 0) : RdC w (.slice ao M.length c) M.length (cB M) := by
  refine ⟨ao, c, rfl, fun e => ⟨?_, hn e⟩, fun ad ha j u hu => ?_⟩
  · rcases Nat.eq_zero_or_pos M.length with q | q
    · exact q
    · have := h.ptr q; rw [e] at this; cases this
  · have hj : j < M.length := by have := (List.getElem?_eq_some_iff.1 hu).1; simpa [cB] using this
    have ep := h.ptr (by omega)
    rw [ha] at ep
    injection ep with ep
    rw [ep, Addr.add_mid, h.cell j hj, ← hu]
    simp [cB, List.getD_eq_getElem?_getD, hj]
theorem cB_one (l : List Bool) : ∀ u ∈ cB l, u.oneCell' = true := fun u hu => by obtain ⟨_, _, rfl⟩ := List.mem_map.1 hu; rfl
/-- A whole list of truths appended. -/
theorem run_all_L (w : World) (ty B : Nat) (v : Value) (L : List Bool) (hown : OwnL w B v L) (ao : Option Addr) (b off c : Nat) (M : List Bool) (hr : RdL w ao b off M) (hn : ao = none → c = 0) (hlen : L.length + M.length ≤ 140737488355328) (hB : B ≤ w.heap.size) :
    ∃ v' w', (Builtin.append_ #[28, 28] ty #[v, .slice ao M.length c]).run Try.prog w = .ok v' w' ∧ OwnL w' B v' (L ++ M) ∧ w.grownBy w' v.ownBlock := by
  obtain ⟨i0, hi, hz0, hz1, hz2⟩ := info_parts Try.infoB
  obtain ⟨v', w', q1, q2, q3⟩ := run_all w 28 ty 4 B 1 1 i0 (.bool false) Try.underlying28 hi hz0 hz1 hz2 rfl (by decide) v L.length (cB L) hown _ M.length (cB M) (rdc_L hr hn) (by simp [cB]) (cB_one M) (by unfold maxLen; omega) (by omega) hB
  refine ⟨v', w', q1, ?_, q3⟩
  rw [OwnL, List.length_append]
  have : cB (L ++ M) = cB L ++ cB M := by simp [cB]
  rw [this]
  exact q2
/-- An empty list, made. -/
theorem ownF_made (w : World) : OwnF (w.alloc (.cells #[] 42)) w.heap.size (.slice (some ⟨w.heap.size, 0, none⟩) 0 0) [] := ⟨rfl, .inr ⟨w.heap.size, 0, _, rfl, Nat.le_refl _, new1 w _, Nat.zero_le _, by decide, rfl, rfl⟩⟩
theorem ownL_made (w : World) : OwnL (w.alloc (.cells #[] 4)) w.heap.size (.slice (some ⟨w.heap.size, 0, none⟩) 0 0) [] := ⟨rfl, .inr ⟨w.heap.size, 0, _, rfl, Nat.le_refl _, new1 w _, Nat.zero_le _, by decide, rfl, rfl⟩⟩
theorem ownL_lt {w : World} {B : Nat} {v : Value} {l : List Bool} (h : OwnL w B v l) : ∀ k, v.ownBlock = some k → B ≤ k ∧ k < w.heap.size := World.ownsRow.lt h
theorem ownL_next {w w' : World} {B : Nat} {v : Value} {l : List Bool} (h : OwnL w B v l) (hb : Below w.heap.size w w') : OwnL w' B v l := ownB_next h hb
theorem ownL_at {w : World} {B g n cap : Nat} {l : List Bool} (h : OwnL w B (.slice (some ⟨g, 0, none⟩) n cap) l) {j : Nat} (hj : j < l.length) : w.cell? ⟨g, j, none⟩ = some (.bool (l.getD j false)) ∧ w.frozen? ⟨g, j, none⟩ = false := by
  rcases h.2 with ⟨hv, h0⟩ | ⟨g', cap', cur, hv, hg, hh, h1, h2, h3, h4⟩
  · cases hv
  · obtain ⟨e1, _, _⟩ := Value.slice.inj hv
    cases e1
    refine ⟨?_, frozen_of_row w g j cur _ hh⟩
    rw [cell_of_row w g j cur _ (0, 0) hh]
    have := congrArg (fun x => x[j]?) h4
    simp only [List.getElem?_take, Nat.mul_one, if_pos hj] at this
    rw [Array.getElem?_toList] at this
    rw [this]
    simp [cB, List.getD_eq_getElem?_getD, hj]
theorem ownL_some {w : World} {B n cap : Nat} {ao : Option Addr} {l : List Bool} (h : OwnL w B (.slice ao n cap) l) (hl : 0 < l.length) : ∃ g, ao = some ⟨g, 0, none⟩ := by
  rcases h.2 with ⟨hv, h0⟩ | ⟨g, cp, cur, hv, _⟩
  · omega
  · obtain ⟨e1, _, _⟩ := Value.slice.inj hv; exact ⟨g, e1⟩
theorem ownL_set {w : World} {B g n cap j : Nat} {l : List Bool} (h : OwnL w B (.slice (some ⟨g, 0, none⟩) n cap) l) (x : Bool) : OwnL (w.setCell ⟨g, j, none⟩ (.bool x)) B (.slice (some ⟨g, 0, none⟩) n cap) (l.set j x) := by
  obtain ⟨h1, h2⟩ := h
  refine ⟨by simp [cB], .inr ?_⟩
  rcases h2 with ⟨h2, h3⟩ | ⟨g', cap', cur, hv, hg, hh, h3, h4, h5, h6⟩
  · cases h2
  · obtain ⟨e1, e2, e3⟩ := Value.slice.inj hv
    cases e1
    have s1 : (w.setCell ⟨g, j, none⟩ (.bool x)).heap[g]? = _ := heap_setCell_same w g j cur _ _ hh
    refine ⟨g, cap, _, by rw [e2]; simp, hg, s1, by simpa [e3] using h3, by omega, by simpa [e3] using h5, ?_⟩
    rw [List.length_set, Array.toList_setIfInBounds, List.take_set, h6]
    simp [cB, List.map_set]
/-- Of a list of one's own: where it lies, and that it can be read. -/
theorem ownF_rd' {w : World} {B : Nat} {v : Value} {l : List FL} (h : OwnF w B v l) : ∃ ao b c, v = .slice ao l.length c ∧ RdF w ao b 0 l ∧ (ao = none → c = 0) ∧ l.length ≤ c ∧ (0 < l.length → B ≤ b ∧ v.ownBlock = some b) := by
  obtain ⟨ao, b, c, h1, h2, h3, h4⟩ := ownF_rd h
  refine ⟨ao, b, c, h1, h2, fun e => ?_, h3, fun h0 => ⟨h4 h0, by rw [h1, h2.ptr h0]; rfl⟩⟩
  rcases h.2 with ⟨e1, e2⟩ | ⟨g, cap, cur, e1, _⟩
  · rw [e1] at h1; injection h1 with _ _ h5; exact h5.symm
  · rw [e1] at h1; injection h1 with h5 _ _; rw [e] at h5; cases h5
/-- The first of a list. -/
theorem RdF.take {w : World} {ao : Option Addr} {b off : Nat} {l : List FL} (h : RdF w ao b off l) (n : Nat) : RdF w ao b off (l.take n) := by
  refine ⟨fun h0 => h.ptr (by rw [List.length_take] at h0; omega), fun j hj => ?_, fun j hj => ?_⟩ <;> rw [List.length_take] at hj
  · rw [h.c0 j (by omega), List.getD_eq_getElem?_getD, List.getD_eq_getElem?_getD, List.getElem?_take, if_pos (by omega)]
  · rw [h.c1 j (by omega), List.getD_eq_getElem?_getD, List.getD_eq_getElem?_getD, List.getElem?_take, if_pos (by omega)]
theorem RdL.take {w : World} {ao : Option Addr} {b off : Nat} {l : List Bool} (h : RdL w ao b off l) (n : Nat) : RdL w ao b off (l.take n) := by
  refine ⟨fun h0 => h.ptr (by rw [List.length_take] at h0; omega), fun j hj => ?_⟩
  rw [List.length_take] at hj
  rw [h.cell j (by omega), List.getD_eq_getElem?_getD, List.getD_eq_getElem?_getD, List.getElem?_take, if_pos (by omega)]
end Go.Proofs.Ytmhedhhbdpdafaa
