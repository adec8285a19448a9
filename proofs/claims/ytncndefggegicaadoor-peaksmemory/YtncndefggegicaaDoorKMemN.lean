/-
  What the walk of PeaksMemory takes of four lists that grow in turn. Own work.
-/
import Derived.Test.YtncndefggegicaaDoorKMemM
namespace Go.Proofs.YtncndefggegicaaDoor
open Go.RowKit
theorem ownV_at {w : World} {B g n cap : Nat} {vs : List Value} (h : OwnV w B (.slice (some ⟨g, 0, none⟩) n cap) vs) (i : Nat) (hi : i < vs.length) : w.cell? ⟨g, i, none⟩ = some (vs.getD i dv) ∧ w.frozen? ⟨g, i, none⟩ = false := by
  refine ⟨ownV_cells h i hi, ?_⟩
  rcases h.2 with ⟨h2, _⟩ | ⟨g', cap', cur, hv, hg, hh, _⟩
  · cases h2
  · obtain ⟨e1, _, _⟩ := Value.slice.inj hv
    cases e1
    exact frozen_of_row w g i cur _ hh
section
variable {w W W1 : World} {vs ms : List Value} {Ls : List (List ByteArray)} {e : Nat → Nat} {vA v1 v2 : Value} {p1 p2 n : Nat} {K : Int} {P : List ByteArray}
theorem M4.fits {gM cM : Nat} (h : M4 w W vs ms Ls e vA (.slice (some ⟨gM, 0, none⟩) 4 cM) p1 v1 p2 v2 K n P) {i : Nat} (hi : i < 4) {x : Value} (hx : ms.getD i dv = x) : W.cell? ⟨gM, i, none⟩ = some x ∧ W.frozen? ⟨gM, i, none⟩ = false := by
  subst hx
  exact ownV_at h.more i (by rw [h.ml]; exact hi)
theorem M4.at1 {gM cM : Nat} (h : M4 w W vs ms Ls e vA (.slice (some ⟨gM, 0, none⟩) 4 cM) p1 v1 p2 v2 K n P) {i : Nat} (hi : i < 4) {x x' : Value} (hx : ms.getD i dv = x)
    (r2 : (∃ g n cap, x = .slice (some ⟨g, 0, none⟩) n cap ∧ x' = .slice (some ⟨g, 0, none⟩) (n + 1) cap ∧ W.grownBy W1 (some g)) ∨ (W.grownBy W1 none ∧ ∀ g, x'.ownBlock = some g → W.heap.size ≤ g)) :
    W1.cell? ⟨gM, i, none⟩ = some x ∧ W1.frozen? ⟨gM, i, none⟩ = false := by
  subst hx
  have hX := h.Mm i hi
  have more1 : OwnV W1 w.heap.size (.slice (some ⟨gM, 0, none⟩) 4 cM) ms := by
    rcases r2 with ⟨g, m, cap, e1, _, hg⟩ | ⟨hg, _⟩
    · rw [e1] at hX
      exact kept_ty h.more hX (by decide) hg
    · exact ownB_next h.more ((Below.refl _ _).grown hg (Nat.le_refl _) (fun j hj => by cases hj))
  exact ownV_at more1 i (by rw [h.ml]; exact hi)
theorem M4.rnd {gM cM i t : Nat} (h : M4 w W vs ms Ls (fun k => if k < i then t + 1 else t) vA (.slice (some ⟨gM, 0, none⟩) 4 cM) p1 v1 p2 v2 K n P) (hi : i < 4) {x x' : Value} (hx : ms.getD i dv = x) (r1 : OwnS W1 w.heap.size x' (mkE Ls i t ++ [mkT i]))
    (r2 : (∃ g n cap, x = .slice (some ⟨g, 0, none⟩) n cap ∧ x' = .slice (some ⟨g, 0, none⟩) (n + 1) cap ∧ W.grownBy W1 (some g)) ∨ (W.grownBy W1 none ∧ ∀ g, x'.ownBlock = some g → W.heap.size ≤ g)) :
    M4 w (W1.setCell ⟨gM, i, none⟩ x') vs (ms.set i x') Ls (fun k => if k < i + 1 then t + 1 else t) vA (.slice (some ⟨gM, 0, none⟩) 4 cM) p1 v1 p2 v2 K n P := by
  subst hx
  have ei : (if i < i then t + 1 else t) = t := if_neg (Nat.lt_irrefl i)
  have h1 := h.app hi rfl (by simp only [ei]; exact r1) r2
  have ef : (fun k => if k = i then (fun k => if k < i then t + 1 else t) i + 1 else (fun k => if k < i then t + 1 else t) k) = fun k => if k < i + 1 then t + 1 else t := by
    funext k
    show (if k = i then (if i < i then t + 1 else t) + 1 else (if k < i then t + 1 else t)) = _
    rw [ei]
    by_cases h2 : k = i
    · rw [if_pos h2, if_pos (by omega)]
    · rw [if_neg h2]
      by_cases h3 : k < i
      · rw [if_pos h3, if_pos (by omega)]
      · rw [if_neg h3, if_neg (by omega)]
  rw [← ef]
  exact h1
end
/-- One text appended to a list of one's own: what it comes to, and where it went. -/
theorem run_app_T (w : World) (ty B : Nat) (v : Value) (L : List ByteArray) (hown : OwnS w B v L) (ad : Addr) (mc : Nat) (c : ByteArray) (hr : RdC w (.slice (some ad) 1 mc) 1 [.string c])
    (hlen : L.length + 1 ≤ 1048576) (hB : B ≤ w.heap.size) :
    ∃ v' w', (Builtin.append_ #[25, 25] ty #[v, .slice (some ad) 1 mc]).run Tryd.prog w = .ok v' w' ∧ OwnS w' B v' (L ++ [c]) ∧ ((∃ g n cap, v = .slice (some ⟨g, 0, none⟩) n cap ∧ v' = .slice (some ⟨g, 0, none⟩) (n + 1) cap ∧ w.grownBy w' (some g)) ∨ (w.grownBy w' none ∧ ∀ g, v'.ownBlock = some g → w.heap.size ≤ g)) := by
  obtain ⟨i0, hi, hz0, hz1, hz2⟩ := info_parts Tryd.infoS
  obtain ⟨ao, cap, he, _, hcells⟩ := hr
  obtain ⟨rfl, _, rfl⟩ := Value.slice.inj he
  have hap : ∀ {w' : World} {v' : Value} {n : Nat}, n = L.length + 1 → w'.ownsRow B 9 1 v' n (L.map Value.string ++ [.string c]) → OwnS w' B v' (L ++ [c]) := fun hn h => by
    rw [OwnS, List.map_append, List.length_append, List.length_cons, List.length_nil, Nat.zero_add, ← hn]; exact h
  have h1c : ∀ u ∈ ([.string c] : List Value), u.oneCell' = true := by intro u hu; simp at hu; subst hu; rfl
  have hown0 := hown
  rcases hown.2 with ⟨rfl, h0⟩ | ⟨g, cp, cur, rfl, hgb, hh, hc⟩
  · have hL : L = [] := List.length_eq_zero_iff.1 h0
    subst hL
    obtain ⟨v', w', hrun, r1, r2, _⟩ := run_append_own (P := Tryd.prog) w w.heap.size 25 ty 9 i0 (.string ByteArray.empty) 1 16 Tryd.underlying25 hi hz0 hz1 hz2 rfl (by decide) _ 0 [] (World.ownsRow_nil _ _ _ _) ad 1 mc [.string c] rfl (hcells ad rfl) h1c (by decide) (by decide) (Nat.le_refl _)
    exact ⟨v', w', hrun, hap rfl (by simpa using World.ownsRow.mono r1 hB), .inr ⟨r2, fun k hk => (World.ownsRow.lt r1 k hk).1⟩⟩
  · by_cases hfit : L.length + 1 ≤ cp
    · obtain ⟨w', hrun, r1, r2⟩ := run_append_fits (P := Tryd.prog) w B 25 ty 9 i0 1 Tryd.underlying25 hi hz1 g L.length cp (L.map Value.string) hown0 ad 1 mc [.string c] rfl (hcells ad rfl) h1c hfit
      exact ⟨_, w', hrun, hap rfl r1, .inl ⟨g, L.length, cp, rfl, rfl, r2⟩⟩
    · obtain ⟨v', w', hrun, r1, r2⟩ := run_append_arg_grows (P := Tryd.prog) w 25 ty 9 i0 (.string ByteArray.empty) 1 16 Tryd.underlying25 hi hz0 hz1 hz2 rfl (by decide) ⟨g, 0, none⟩ L.length cp (L.map Value.string) hown0.1 (World.ownsRow.cells hown0 rfl) ad 1 mc [.string c] rfl (hcells ad rfl) (by omega) (by unfold maxLen; omega) (by omega)
      exact ⟨v', w', hrun, hap rfl (World.ownsRow.mono r1 hB), .inr ⟨r2, fun k hk => (World.ownsRow.lt r1 k hk).1⟩⟩
/-- What is left of a run that has come to its end. -/
def resO (r : Result Value) : Option (Value × World) :=
  match r with
  | .ok v w => some (v, w)
  | .halt _ _ => none
theorem resO_ok (r : Result Value) (hs : (resO r).isSome = true) (d : Value × World) : r = .ok ((resO r).getD d).1 ((resO r).getD d).2 := by
  cases r with
  | ok v w => rfl
  | halt x w => cases hs
/-- What an append comes to. -/
noncomputable def appR (ty : Nat) (v u : Value) (w : World) : Option (Value × World) := resO ((Builtin.append_ #[25, 25] ty #[v, u]).run Tryd.prog w)
theorem appR_of {ty : Nat} {v u v' : Value} {w w' : World} (h : (Builtin.append_ #[25, 25] ty #[v, u]).run Tryd.prog w = .ok v' w') : appR ty v u w = some (v', w') := congrArg resO h
/-- An append that is known to come to its end is not opened. -/
theorem run_appR (ty : Nat) (v u : Value) (w : World) (hs : (appR ty v u w).isSome = true) : (Builtin.append_ #[25, 25] ty #[v, u]).run Tryd.prog w = .ok ((appR ty v u w).getD (dv, w)).1 ((appR ty v u w).getD (dv, w)).2 := resO_ok _ hs (dv, w)
theorem exec_appR (ρ : Operand → Value) (d : Option Tmp) (s x : Operand) (ty : Nat) (ps : String) (af : Array Edge) (gd : Option (Nat × Bool)) (w : World) (hs : (appR ty (ρ s) (ρ x) w).isSome = true) :
    (execOp ρ { dst := d, op := Op.call { callee := Callee.builtin Builtin.append, args := #[s, x], argTypes := #[25, 25] }, type := ty, pos := ps, after := af, guard := gd }).run Tryd.prog w = .ok (.value ((appR ty (ρ s) (ρ x) w).getD (dv, w)).1) ((appR ty (ρ s) (ρ x) w).getD (dv, w)).2 := by
  have hrun := run_appR ty (ρ s) (ρ x) w hs
  generalize (appR ty (ρ s) (ρ x) w).getD (dv, w) = r at *
  simp [execOp, resolve, invoke, builtin, hrun, Result.andThen]
end Go.Proofs.YtncndefggegicaaDoor
