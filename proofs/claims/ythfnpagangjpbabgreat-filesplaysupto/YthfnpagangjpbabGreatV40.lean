/-
  Own work: DCan, DOpen, DFt.
-/
import Derived.Test.YthfnpagangjpbabGreatV16
namespace Go.Proofs.YthfnpagangjpbabGreat
open Go.RowKit
def nms (l : List (List UInt8 × List UInt8)) : List (List UInt8) := l.map (·.1)
def nmF (N : List (List UInt8)) : List UInt8 → Option Value := fun s => if s ∈ N then some (.agg #[]) else none
theorem nmF_upd (N : List (List UInt8)) (s : List UInt8) : updF (nmF N) s (some (.agg #[])) = nmF (N ++ [s]) := by
  funext t
  simp only [updF, nmF, List.mem_append, List.mem_singleton]
  by_cases e : t = s
  · simp [e]
  · simp [e]
theorem nmF_in (N : List (List UInt8)) (s : List UInt8) : s ∈ N ↔ (nmF N s).isSome = true := by
  unfold nmF
  split <;> simp [*]
def canL (l : List (List UInt8 × List UInt8)) : Prop := (nms l).Nodup ∧ ∀ x ∈ l, x.2.length ≤ 268435456
theorem nms_take {l : List (List UInt8 × List UInt8)} {j : Nat} {x : List UInt8 × List UInt8} (h : l.take (j + 1) = l.take j ++ [x]) (hn : (nms l).Nodup) : x.1 ∉ nms (l.take j) ∧ (nms (l.take j)).Nodup := by
  have h1 : nms (l.take (j + 1)) = nms (l.take j) ++ [x.1] := by rw [h]; simp [nms]
  have h2 : (nms (l.take (j + 1))).Nodup := by
    have : nms (l.take (j + 1)) = (nms l).take (j + 1) := by simp [nms, List.map_take]
    rw [this]
    exact hn.sublist (List.take_sublist _ _)
  rw [h1] at h2
  have h3 := List.nodup_append.1 h2
  exact ⟨fun hm => h3.2.2 _ hm _ (List.mem_singleton.2 rfl) rfl, h3.1⟩
end Go.Proofs.YthfnpagangjpbabGreat
namespace Go.Proofs.YthfnpagangjpbabGreat
open Go.RowKit
def byt : List (List UInt8 × List UInt8) → Nat
  | [] => 0
  | x :: r => x.2.length + byt r
theorem byt_snoc (l : List (List UInt8 × List UInt8)) (x : List UInt8 × List UInt8) : byt (l ++ [x]) = byt l + x.2.length := by
  induction l with
  | nil => simp [byt]
  | cons y r ih => simp only [List.cons_append, byt, ih]; omega
theorem byt_take (l : List (List UInt8 × List UInt8)) (j : Nat) : byt (l.take j) ≤ byt l := by
  induction l generalizing j with
  | nil => simp [byt]
  | cons y r ih =>
    cases j with
    | zero => simp [byt]
    | succ j => have := ih j; simp only [List.take_succ_cons, byt]; omega
def openD (room : Nat) (l : List (List UInt8 × List UInt8)) : DV := ⟨room - byt l, layL l, 0, 0, 0, [], false⟩
end Go.Proofs.YthfnpagangjpbabGreat
namespace Go.Proofs.YthfnpagangjpbabGreat
open Go.RowKit
def allS (l : List (List UInt8 × List UInt8)) : List (List UInt8 × FV) := l.map fun x => (x.1, ⟨x.2, x.2⟩)
theorem fput_last (s : List UInt8) (f : FV) (hf : f.gone = false) : ∀ L : List (List UInt8 × FV), (∀ p ∈ L, p.1 < s) → fput L s f = L ++ [(s, f)]
  | [], _ => by rw [fput, if_neg (by simp [hf])]; rfl
  | (t, g) :: r, h => by
    have h1 : t < s := h (t, g) (by simp)
    have ne : ¬ t = s := fun e => by rw [e] at h1; exact List.lt_irrefl _ h1
    have nl : ¬ s < t := fun e => List.lt_irrefl _ (List.lt_trans h1 e)
    rw [fput, if_neg ne, if_neg nl, fput_last s f hf r (fun p hp => h p (List.mem_cons_of_mem _ hp))]
    rfl
theorem rev_ind {α : Type} {P : List α → Prop} (h0 : P []) (hs : ∀ l x, P l → P (l ++ [x])) (l : List α) : P l := by
  rw [← List.reverse_reverse l]
  induction l.reverse with
  | nil => exact h0
  | cons x r ih => rw [List.reverse_cons]; exact hs _ _ ih
def Sor (l : List (List UInt8 × List UInt8)) : Prop := l.Pairwise (fun a b => a.1 < b.1) ∧ ∀ x ∈ l, x.2 ≠ []
theorem lay_sor (l : List (List UInt8 × List UInt8)) : Sor l → layL l = allS l := by
  induction l using rev_ind with
  | h0 => intro _; rfl
  | hs l x ih =>
    intro h
    obtain ⟨h1, h2⟩ := h
    have h3 := List.pairwise_append.1 h1
    have ih' := ih ⟨h3.1, fun y hy => h2 y (by simp [hy])⟩
    have hx := h2 x (by simp)
    rw [layL_snoc, if_neg hx, ih', fput_last]
    · simp [allS]
    · cases hg : (⟨x.2, x.2⟩ : FV).gone
      · rfl
      · exact absurd (congrArg FV.now (gone_iff.1 hg)) hx
    · intro p hp
      obtain ⟨y, hy, rfl⟩ := List.mem_map.1 hp
      exact h3.2.2 y hy x (by simp)
theorem aft_sor (ks : List Bool) : ∀ (L : List (List UInt8 × FV)) (i : Nat), L.Pairwise (fun a b => a.1 < b.1) → Sor (aft ks L i)
  | [], _, _ => ⟨.nil, by simp [aft]⟩
  | (s, f) :: r, i, h => by
    obtain ⟨h1, h2⟩ := List.pairwise_cons.1 h
    have ih := aft_sor ks r (stay ks f i).2 h2
    simp only [aft]
    split
    · exact ih
    · rename_i hn
      refine ⟨List.pairwise_cons.2 ⟨fun y hy => ?_, ih.1⟩, fun y hy => ?_⟩
      · obtain ⟨g, j, hg, _⟩ := aft_mem hy
        exact h1 _ hg
      · rcases List.mem_cons.1 hy with rfl | hy
        · exact hn
        · exact ih.2 y hy
theorem tell_all : ∀ l : List (List UInt8 × List UInt8), (∀ x ∈ l, x.2 ≠ []) → tell (allS l) = l
  | [], _ => rfl
  | x :: r, h => by
    have := tell_all r (fun y hy => h y (List.mem_cons_of_mem _ hy))
    show tell ((x.1, ⟨x.2, x.2⟩) :: allS r) = _
    rw [tell, if_neg (h x (by simp)), this]
theorem stay_sync (ks : List Bool) (x : List UInt8) (i : Nat) : (stay ks ⟨x, x⟩ i).1 = x := by
  have hs : slen ks ⟨x, x⟩ i = (x.length, i) := by unfold slen; rw [if_pos rfl]
  have hg : ∀ n, (sgo ks ⟨x, x⟩ i n).1 = (List.range (64 * n)).map fun j => x.getD j 0 := by
    intro n
    induction n with
    | zero => rfl
    | succ n ih =>
      simp only [sgo, if_true]
      rw [ih, show 64 * (n + 1) = 64 * n + 64 by omega, List.range_add, List.map_append, List.map_map]
      rfl
  simp only [stay, hs]
  rw [hg]
  apply List.ext_getElem?
  intro j
  by_cases hj : j < x.length
  · have h1 : j < 64 * nsec ⟨x, x⟩ := by unfold nsec; simp only; omega
    rw [List.getElem?_take, if_pos hj, List.getElem?_map, List.getElem?_range h1]
    simp [List.getD_eq_getElem?_getD, hj]
  · rw [List.getElem?_take, if_neg hj, List.getElem?_eq_none (by omega)]
theorem aft_all (ks : List Bool) : ∀ (l : List (List UInt8 × List UInt8)) (i : Nat), (∀ x ∈ l, x.2 ≠ []) → aft ks (allS l) i = l
  | [], _, _ => rfl
  | x :: r, i, h => by
    show aft ks ((x.1, ⟨x.2, x.2⟩) :: allS r) i = _
    simp only [aft]
    rw [stay_sync, if_neg (h x (by simp)), aft_all ks r _ (fun y hy => h y (List.mem_cons_of_mem _ hy))]
section
variable {D E : DV} {at_ k j : Nat} {ks : List Bool}
end
section
variable {D : DV} {l : List (List UInt8 × List UInt8)} {n : Nat}
end
end Go.Proofs.YthfnpagangjpbabGreat
