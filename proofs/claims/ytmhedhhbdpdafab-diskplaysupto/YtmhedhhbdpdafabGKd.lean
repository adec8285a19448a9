/-
  DKd, DKe, DKf in one text. Own work.
-/
import Derived.Test.YtmhedhhbdpdafabDTold
import Derived.Test.YtmhedhhbdpdafabGLa
import Derived.Test.YtmhedhhbdpdafabDLaid
/-
  Appends whose end is known. Own work.
-/
namespace Go.Proofs.Ytmhedhhbdpdafab
open Go.RowKit
/-- No list at all. -/
abbrev dv : Value := .slice none 0 0
/-- What is left of a run that has come to its end. -/
def resO (r : Result Value) : Option (Value × World) :=
  match r with
  | .ok v w => some (v, w)
  | .halt _ _ => none
theorem resO_ok (r : Result Value) (hs : (resO r).isSome = true) (d : Value × World) : r = .ok ((resO r).getD d).1 ((resO r).getD d).2 := by
  cases r with
  | ok v w => rfl
  | halt x w => cases hs
/-- What an append comes to. -/
noncomputable def appR (t ty : Nat) (v u : Value) (w : World) : Option (Value × World) := resO ((Builtin.append_ #[t, t] ty #[v, u]).run Try.prog w)
theorem appR_of {t ty : Nat} {v u v' : Value} {w w' : World} (h : (Builtin.append_ #[t, t] ty #[v, u]).run Try.prog w = .ok v' w') : appR t ty v u w = some (v', w') := congrArg resO h
/-- An append that is known to come to its end is not opened. -/
theorem run_appR (t ty : Nat) (v u : Value) (w : World) (hs : (appR t ty v u w).isSome = true) : (Builtin.append_ #[t, t] ty #[v, u]).run Try.prog w = .ok ((appR t ty v u w).getD (dv, w)).1 ((appR t ty v u w).getD (dv, w)).2 := resO_ok _ hs (dv, w)
theorem exec_appR (ρ : Operand → Value) (d : Option Tmp) (s x : Operand) (t ty : Nat) (ps : String) (af : Array Edge) (gd : Option (Nat × Bool)) (w : World) (hs : (appR t ty (ρ s) (ρ x) w).isSome = true) :
    (execOp ρ { dst := d, op := Op.call { callee := Callee.builtin Builtin.append, args := #[s, x], argTypes := #[t, t] }, type := ty, pos := ps, after := af, guard := gd }).run Try.prog w = .ok (.value ((appR t ty (ρ s) (ρ x) w).getD (dv, w)).1) ((appR t ty (ρ s) (ρ x) w).getD (dv, w)).2 := by
  have hrun := run_appR t ty (ρ s) (ρ x) w hs
  generalize (appR t ty (ρ s) (ρ x) w).getD (dv, w) = r at *
  simp [execOp, resolve, invoke, builtin, hrun, Result.andThen]
/-- Cells that can be read. -/
def RdC (w : World) (u : Value) (m : Nat) (news : List Value) : Prop :=
  ∃ ao cap, u = .slice ao m cap ∧ (ao = none → m = 0 ∧ cap = 0) ∧ ∀ ad, ao = some ad → ∀ j c, news[j]? = some c → w.cell? (ad.add j) = some c
theorem run_all (w : World) (t ty e B size bytes : Nat) (i : TypeInfo) (z : Value) (h1 : Try.prog.underlying t = some (.slice e)) (h2 : Try.prog.info? e = some i) (h3 : i.zero = some z) (h4 : i.size = size) (h5 : i.bytes = bytes) (h6 : z.cells.size = size) (h7 : 0 < size)
    (v : Value) (n : Nat) (xs : List Value) (hown : w.ownsRow B e size v n xs) (u : Value) (m : Nat) (news : List Value) (hr : RdC w u m news) (hn : news.length = m * size) (h1c : ∀ u ∈ news, u.oneCell' = true)
    (b1 : n + m ≤ maxLen) (b2 : (n + m) * bytes ≤ 140737488355328) (hB : B ≤ w.heap.size) :
    ∃ v' w', (Builtin.append_ #[t, t] ty #[v, u]).run Try.prog w = .ok v' w' ∧ w'.ownsRow B e size v' (n + m) (xs ++ news) ∧ w.grownBy w' v.ownBlock := by
  obtain ⟨ao, cap, rfl, hnone, hcells⟩ := hr
  cases ao with
  | none =>
    obtain ⟨rfl, rfl⟩ := hnone rfl
    have hnil : news = [] := List.length_eq_zero_iff.1 (by rw [hn]; omega)
    subst hnil
    exact ⟨v, w, run_append_owned_none (P := Try.prog) (w := w) B t ty e i size h1 h2 v n xs hown, by simpa using hown, World.grownBy.refl w _⟩
  | some ad =>
    obtain ⟨v', w', q1, q2, q3, _⟩ := run_append_own (P := Try.prog) w B t ty e i z size bytes h1 h2 h3 h4 h5 h6 h7 v n xs hown ad m cap news hn (hcells ad rfl) h1c b1 b2 hB
    exact ⟨v', w', q1, q2, q3⟩
end Go.Proofs.Ytmhedhhbdpdafab
/-
  Lists of truths appended whole. Own work.
-/
namespace Go.Proofs.Ytmhedhhbdpdafab
open Go.RowKit
theorem rdc_L {w : World} {ao : Option Addr} {b off c : Nat} {M : List Bool} (h : RdL w ao b off M) (hn : ao = none → c = 0) : RdC w (.slice ao M.length c) M.length (cB M) := by
  refine ⟨ao, c, rfl, fun e => ⟨?_, hn e⟩, fun ad ha j u hu => ?_⟩
  · rcases Nat.eq_zero_or_pos M.length with q | q
    · exact q
    · have := h.ptr q; rw [e] at this; cases this
  · have hj : j < M.length := by have := (List.getElem?_eq_some_iff.1 hu).1; simpa [cB] using this
    have ep := h.ptr (by omega)
    rw [ha] at ep
    injection ep with ep
    rw [ep, Addr.add_mid, h.cell j hj, ← hu]
    simp [cB, List.getD_eq_getElem?_getD, hj]
theorem cB_one (l : List Bool) : ∀ u ∈ cB l, u.oneCell' = true := fun u hu => by obtain ⟨_, _, rfl⟩ := List.mem_map.1 hu; rfl
/-- A whole list of truths appended. -/
theorem run_all_L (w : World) (ty B : Nat) (v : Value) (L : List Bool) (hown : OwnL w B v L) (ao : Option Addr) (b off c : Nat) (M : List Bool) (hr : RdL w ao b off M) (hn : ao = none → c = 0) (hlen : L.length + M.length ≤ 140737488355328) (hB : B ≤ w.heap.size) :
    ∃ v' w', (Builtin.append_ #[36, 36] ty #[v, .slice ao M.length c]).run Try.prog w = .ok v' w' ∧ OwnL w' B v' (L ++ M) ∧ w.grownBy w' v.ownBlock := by
  obtain ⟨i0, hi, hz0, hz1, hz2⟩ := info_parts Try.infoB
  obtain ⟨v', w', q1, q2, q3⟩ := run_all w 36 ty 4 B 1 1 i0 (.bool false) Try.underlying36 hi hz0 hz1 hz2 rfl (by decide) v L.length (cB L) hown _ M.length (cB M) (rdc_L hr hn) (by simp [cB]) (cB_one M) (by unfold maxLen; omega) (by omega) hB
  refine ⟨v', w', q1, ?_, q3⟩
  rw [OwnL, List.length_append]
  have : cB (L ++ M) = cB L ++ cB M := by simp [cB]
  rw [this]
  exact q2
theorem ownL_made (w : World) : OwnL (w.alloc (.cells #[] 4)) w.heap.size (.slice (some ⟨w.heap.size, 0, none⟩) 0 0) [] := ⟨rfl, .inr ⟨w.heap.size, 0, _, rfl, Nat.le_refl _, new1 w _, Nat.zero_le _, by decide, rfl, rfl⟩⟩
theorem ownL_lt {w : World} {B : Nat} {v : Value} {l : List Bool} (h : OwnL w B v l) : ∀ k, v.ownBlock = some k → B ≤ k ∧ k < w.heap.size := World.ownsRow.lt h
theorem ownL_next {w w' : World} {B : Nat} {v : Value} {l : List Bool} (h : OwnL w B v l) (hb : Below w.heap.size w w') : OwnL w' B v l := row_keep h fun g hg => hb.block g (h.lt g hg).2
end Go.Proofs.Ytmhedhhbdpdafab
/-
  Lists of files appended whole; a truth in another's place. Own work.
-/
namespace Go.Proofs.Ytmhedhhbdpdafab
open Go.RowKit
theorem rdc_F {w : World} {ao : Option Addr} {b off c : Nat} {M : List (List UInt8 × List UInt8)} (h : RdF w ao b off M) (hn : ao = none → c = 0) : RdC w (.slice ao M.length c) M.length (cF M) := by
  refine ⟨ao, c, rfl, fun e => ⟨?_, hn e⟩, fun ad ha j u hu => ?_⟩
  · rcases Nat.eq_zero_or_pos M.length with q | q
    · exact q
    · have := h.ptr q; rw [e] at this; cases this
  · have hj : j < (cF M).length := (List.getElem?_eq_some_iff.1 hu).1
    rw [cF_len] at hj
    have ep := h.ptr (by omega)
    rw [ha] at ep
    injection ep with ep
    rw [ep, Addr.add_mid]
    have hd : j / 2 < M.length := by omega
    rcases Nat.mod_two_eq_zero_or_one j with q | q
    · have e2 : j = j / 2 * 2 := by omega
      have := (cF_at M (j / 2) hd).1
      rw [← e2, hu] at this
      have h0 := h.c0 (j / 2) hd
      rw [← e2] at h0
      rw [h0, ← this]
    · have e2 : j = j / 2 * 2 + 1 := by omega
      have := (cF_at M (j / 2) hd).2
      rw [← e2, hu] at this
      have h0 := h.c1 (j / 2) hd
      rw [Nat.add_assoc, ← e2] at h0
      rw [h0, ← this]
theorem cF_one (l : List (List UInt8 × List UInt8)) : ∀ u ∈ cF l, u.oneCell' = true := fun u hu => by
  obtain ⟨p, _, hp⟩ := List.mem_flatMap.1 hu
  simp at hp
  rcases hp with rfl | rfl <;> rfl
/-- A whole list of files appended. -/
theorem run_all_F (w : World) (ty B : Nat) (v : Value) (L : List (List UInt8 × List UInt8)) (hown : OwnF w B v L) (ao : Option Addr) (b off c : Nat) (M : List (List UInt8 × List UInt8)) (hr : RdF w ao b off M) (hn : ao = none → c = 0) (hlen : L.length + M.length ≤ 4398046511104) (hB : B ≤ w.heap.size) :
    ∃ v' w', (Builtin.append_ #[23, 23] ty #[v, .slice ao M.length c]).run Try.prog w = .ok v' w' ∧ OwnF w' B v' (L ++ M) ∧ w.grownBy w' v.ownBlock := by
  obtain ⟨i0, hi, hz0, hz1, hz2⟩ := info_parts Try.infoF
  obtain ⟨v', w', q1, q2, q3⟩ := run_all w 23 ty 52 B 2 32 i0 (.agg #[.string ⟨#[]⟩, .string ⟨#[]⟩]) Try.underlying23 hi hz0 hz1 hz2 rfl (by decide) v L.length (cF L) hown _ M.length (cF M) (rdc_F hr hn) (cF_len M) (cF_one M) (by unfold maxLen; omega) (by omega) hB
  refine ⟨v', w', q1, ?_, q3⟩
  rw [OwnF, List.length_append, cF_app]
  exact q2
theorem ownF_made (w : World) : OwnF (w.alloc (.cells #[] 52)) w.heap.size (.slice (some ⟨w.heap.size, 0, none⟩) 0 0) [] := ⟨rfl, .inr ⟨w.heap.size, 0, _, rfl, Nat.le_refl _, new1 w _, Nat.zero_le _, by decide, rfl, rfl⟩⟩
theorem ownL_at {w : World} {B g n cap : Nat} {l : List Bool} (h : OwnL w B (.slice (some ⟨g, 0, none⟩) n cap) l) {j : Nat} (hj : j < l.length) : w.cell? ⟨g, j, none⟩ = some (.bool (l.getD j false)) ∧ w.frozen? ⟨g, j, none⟩ = false := by
  rcases h.2 with ⟨hv, h0⟩ | ⟨g', cap', cur, hv, hg, hh, h1, h2, h3, h4⟩
  · cases hv
  · obtain ⟨e1, _, _⟩ := Value.slice.inj hv
    cases e1
    refine ⟨?_, frozen_of_row w g j cur _ hh⟩
    rw [cell_of_row w g j cur _ (0, 0) hh]
    have := congrArg (fun x => x[j]?) h4
    simp only [List.getElem?_take, Nat.mul_one, if_pos hj] at this
    rw [Array.getElem?_toList] at this
    rw [this]
    simp [cB, List.getD_eq_getElem?_getD, hj]
theorem ownL_some {w : World} {B n cap : Nat} {ao : Option Addr} {l : List Bool} (h : OwnL w B (.slice ao n cap) l) (hl : 0 < l.length) : ∃ g, ao = some ⟨g, 0, none⟩ := by
  rcases h.2 with ⟨hv, h0⟩ | ⟨g, cp, cur, hv, _⟩
  · omega
  · obtain ⟨e1, _, _⟩ := Value.slice.inj hv; exact ⟨g, e1⟩
theorem ownL_set {w : World} {B g n cap j : Nat} {l : List Bool} (h : OwnL w B (.slice (some ⟨g, 0, none⟩) n cap) l) (x : Bool) : OwnL (w.setCell ⟨g, j, none⟩ (.bool x)) B (.slice (some ⟨g, 0, none⟩) n cap) (l.set j x) := by
  obtain ⟨h1, h2⟩ := h
  refine ⟨by simp [cB], .inr ?_⟩
  rcases h2 with ⟨h2, h3⟩ | ⟨g', cap', cur, hv, hg, hh, h3, h4, h5, h6⟩
  · cases h2
  · obtain ⟨e1, e2, e3⟩ := Value.slice.inj hv
    cases e1
    have s1 : (w.setCell ⟨g, j, none⟩ (.bool x)).heap[g]? = _ := heap_setCell_same w g j cur _ _ hh
    refine ⟨g, cap, _, by rw [e2]; simp, hg, s1, by simpa [e3] using h3, by omega, by simpa [e3] using h5, ?_⟩
    rw [List.length_set, Array.toList_setIfInBounds, List.take_set, h6]
    simp [cB, List.map_set]
/-- Of a list of one's own: where it lies, and that it can be read. -/
theorem ownF_rd' {w : World} {B : Nat} {v : Value} {l : List (List UInt8 × List UInt8)} (h : OwnF w B v l) : ∃ ao b c, v = .slice ao l.length c ∧ RdF w ao b 0 l ∧ (ao = none → c = 0) ∧ l.length ≤ c ∧ (0 < l.length → B ≤ b ∧ v.ownBlock = some b) := by
  obtain ⟨ao, b, c, h1, h2, h3, h4⟩ := ownF_rd h
  refine ⟨ao, b, c, h1, h2, fun e => ?_, h3, fun h0 => ⟨h4 h0, by rw [h1, h2.ptr h0]; rfl⟩⟩
  rcases h.2 with ⟨e1, e2⟩ | ⟨g, cap, cur, e1, _⟩
  · rw [e1] at h1; injection h1 with _ _ h5; exact h5.symm
  · rw [e1] at h1; injection h1 with h5 _ _; rw [e] at h5; cases h5
theorem ownF_lt {w : World} {B : Nat} {v : Value} {l : List (List UInt8 × List UInt8)} (h : OwnF w B v l) : ∀ k, v.ownBlock = some k → B ≤ k ∧ k < w.heap.size := World.ownsRow.lt h
theorem ownF_next {w w' : World} {B : Nat} {v : Value} {l : List (List UInt8 × List UInt8)} (h : OwnF w B v l) (hb : Below w.heap.size w w') : OwnF w' B v l := row_keep h fun g hg => hb.block g (h.lt g hg).2
end Go.Proofs.Ytmhedhhbdpdafab
