/-
  The row of all nodes as items come; lists of roots. Own work.
-/
import Derived.Test.YtdkcliblbaldhaaDoorFLaw
namespace Go.Proofs.YtdkcliblbaldhaaDoor
open Go.RowKit
open Pl (ones pw N at' fr blk most)
theorem ones_up1 : ∀ j k, ones j (k + 1) ≤ ones j k + 1
  | 0, _ => by simp [ones]
  | j + 1, k => by
    have ih := ones_up1 j (k / 2)
    simp only [ones]
    by_cases h : k % 2 = 1
    · rw [show (k + 1) / 2 = k / 2 + 1 by omega]; omega
    · rw [show (k + 1) / 2 = k / 2 by omega]; omega
theorem ones_even1 (j k : Nat) (h : k % 2 = 0) : ones (j + 1) (k + 1) = ones (j + 1) k + 1 := by
  simp only [ones]
  rw [show (k + 1) / 2 = k / 2 by omega]; omega
theorem N_succ (n : Nat) : N n + 1 ≤ N (n + 1) := by
  have h1 := Pl.N_eq n
  have h2 := Pl.N_eq (n + 1)
  have h3 := ones_up1 64 n
  omega
theorem N_mono {a b : Nat} (h : a ≤ b) : N a ≤ N b := by
  induction b with
  | zero => obtain rfl : a = 0 := by omega
            exact Nat.le_refl _
  | succ b ih =>
    by_cases e : a = b + 1
    · rw [e]; exact Nat.le_refl _
    · exact Nat.le_trans (ih (by omega)) (Nat.le_trans (Nat.le_succ _) (N_succ b))
/-- A place below the row's end: all items of its block are there. -/
theorem blk_in {n p : Nat} (hn : n ≤ 65536) (hp : p < N n) : p ≤ most ∧ ((blk p).2 + 1) * 2 ^ (blk p).1 ≤ n := by
  have hN := Pl.N_eq n
  have hm : p ≤ most := by unfold most; omega
  obtain ⟨h1, h2, h3⟩ := Pl.blk_at p hm
  refine ⟨hm, Nat.le_of_not_lt fun hlt => ?_⟩
  have hb := Pl.may_mul h1 h2
  have := Pl.N_at (blk p).1 (blk p).2 (by omega)
  rw [h3] at this
  have h4 : N n ≤ N (((blk p).2 + 1) * pw (blk p).1 - 1) := N_mono (by
    have : ((blk p).2 + 1) * pw (blk p).1 = ((blk p).2 + 1) * 2 ^ (blk p).1 := rfl
    omega)
  omega
theorem blk_out {n p : Nat} (hn : n ≤ 65536) (hp : N n ≤ p) (hm : p ≤ most) : ¬ ((blk p).2 + 1) * 2 ^ (blk p).1 ≤ n := by
  intro hle
  obtain ⟨h1, h2, h3⟩ := Pl.blk_at p hm
  have hle2 : ((blk p).2 + 1) * pw (blk p).1 ≤ n := hle
  have e1 := Pl.N_fr (blk p).1 ((blk p).2 + 1) (by omega)
  have e2 := Pl.at_eq (blk p).1 (blk p).2
  have e3 := Pl.fr_eq (blk p).1 ((blk p).2 + 1)
  have e4 := ones_up1 64 (blk p).2
  have e5 := N_mono hle2
  rw [h3] at e2
  omega
theorem most_in {n : Nat} (hn : n ≤ 65536) : N n ≤ most := by
  have hN := Pl.N_eq n
  unfold most; omega
theorem N_next {n t : Nat} (hn : n < 65536) (ht : tr 64 (n + 1) = t) : N (n + 1) = N n + (t + 1) := by
  have t16 : t ≤ 16 := by rw [← ht]; exact tr_small (by omega) (by omega)
  obtain ⟨h1, h2⟩ := (tr_eq 64 t (n + 1) (by omega)).1 ht
  obtain ⟨q, hq⟩ := tr_div (j := t) ht (Nat.le_refl _)
  have hq2 : (n + 1) / 2 ^ t = q := last_at hq
  rw [hq2] at h2
  obtain ⟨k, rfl⟩ : ∃ k, q = k + 1 := ⟨q - 1, by omega⟩
  have hq3 : (k + 1) * pw t = n + 1 := by rw [hq, Nat.mul_comm]; rfl
  have e1 := Pl.N_at t k (by omega)
  have e2 := Pl.N_fr t (k + 1) (by omega)
  rw [hq3] at e1 e2
  have e3 := Pl.at_eq t k
  have e4 := Pl.fr_eq t (k + 1)
  have e5 : ones 64 (k + 1) = ones 64 k + 1 := ones_even1 63 k (by omega)
  rw [Nat.add_sub_cancel] at e1
  omega
theorem blk_new {n t j : Nat} (hn : n < 65536) (ht : tr 64 (n + 1) = t) (hj : j ≤ t) : blk (N n + j) = (j, (n + 1) / 2 ^ j - 1) := by
  have t16 : t ≤ 16 := by rw [← ht]; exact tr_small (by omega) (by omega)
  obtain ⟨q, hq⟩ := tr_div (j := j) ht hj
  have hq2 : (n + 1) / 2 ^ j = q := last_at hq
  have hq0 : q ≠ 0 := by rintro rfl; simp at hq
  obtain ⟨k, rfl⟩ : ∃ k, q = k + 1 := ⟨q - 1, by omega⟩
  have hq3 : (k + 1) * pw j = n + 1 := by rw [hq, Nat.mul_comm]; rfl
  have e1 := Pl.N_at j k (by omega)
  rw [hq3, Nat.add_sub_cancel] at e1
  rw [e1, hq2, Nat.add_sub_cancel]
  refine (Pl.at_blk j k (by omega) ?_).2
  have hp := Pl.pw_pos j
  have h1 : k + 1 ≤ (k + 1) * pw j := Nat.le_mul_of_pos_right _ hp
  have h2 : 2 ^ 24 ≤ pw (40 - j) := Nat.pow_le_pow_right (by decide) (by omega)
  omega
/-- The row of all nodes. -/
noncomputable def Rw (c : Nat) (M : List ByteArray) : List ByteArray := (List.range (N M.length)).map fun p => nd c M (blk p).1 (blk p).2
theorem Rw_len (c : Nat) (M : List ByteArray) : (Rw c M).length = N M.length := by simp [Rw]
theorem Rw_at (c : Nat) (M : List ByteArray) {p : Nat} (hp : p < N M.length) : (Rw c M).getD p ByteArray.empty = nd c M (blk p).1 (blk p).2 := by
  simp [Rw, List.getD_eq_getElem?_getD, hp]
theorem Rw_nil (c : Nat) : Rw c [] = [] := by simp [Rw, N, ones]
theorem Rw_size {c : Nat} (hc : c ≤ 32) (M : List ByteArray) : ∀ s ∈ Rw c M, s.size = c := by
  intro s hs
  obtain ⟨j, _, rfl⟩ := List.mem_map.1 hs
  exact nd_size hc _ _ _
theorem Rw_next (c : Nat) (M : List ByteArray) (x : ByteArray) (t : Nat) (hn : M.length < 65536) (ht : tr 64 (M.length + 1) = t) : Rw c (M ++ [x]) = Rw c M ++ nw c (M ++ [x]) t := by
  rw [Rw, List.length_append, List.length_singleton, N_next hn ht, List.range_add, List.map_append, List.map_map]
  have h1 : (List.range (N M.length)).map (fun p => nd c (M ++ [x]) (blk p).1 (blk p).2) = Rw c M :=
    List.map_congr_left fun p hp => nd_app c M [x] _ _ (blk_in (by omega) (List.mem_range.1 hp)).2
  have h2 : (List.range (t + 1)).map ((fun p => nd c (M ++ [x]) (blk p).1 (blk p).2) ∘ fun j => N M.length + j) = nw c (M ++ [x]) t := by
    rw [nw]
    refine List.map_congr_left fun j hj => ?_
    have := blk_new hn ht (j := j) (by have := List.mem_range.1 hj; omega)
    show nd c (M ++ [x]) (blk (N M.length + j)).1 (blk (N M.length + j)).2 = _
    rw [this, List.length_append, List.length_singleton]
  rw [h1, ← h2]
/-- The roots of all beginnings. -/
noncomputable def rts (c : Nat) (M : List ByteArray) : List (Nat × ByteArray) := (List.range (M.length + 1)).map fun i => (i, rtD c M i)
theorem rts_len (c : Nat) (M : List ByteArray) : (rts c M).length = M.length + 1 := by simp [rts]
theorem rts_at (c : Nat) (M : List ByteArray) {i : Nat} (hi : i < M.length + 1) : (rts c M)[i]? = some (i, rtD c M i) := by
  simp [rts, hi]
theorem rts_nil (c : Nat) : rts c [] = [(0, rtD c [] 0)] := by simp [rts, List.range_succ]
theorem rts_next (c : Nat) (M : List ByteArray) (x : ByteArray) : rts c (M ++ [x]) = rts c M ++ [(M.length + 1, rtD c (M ++ [x]) (M.length + 1))] := by
  rw [rts, List.length_append, List.length_singleton, List.range_succ, List.map_append]
  have h1 : (List.range (M.length + 1)).map (fun i => (i, rtD c (M ++ [x]) i)) = rts c M := List.map_congr_left fun i hi => by
    have := List.mem_range.1 hi
    rw [rtD, rtD, List.take_append_of_le_length (by omega)]
  rw [h1]
  rfl
/-- Roots as cells. -/
def cR : List (Nat × ByteArray) → List Value
  | [] => []
  | b :: r => .int .u64 (b.1 : Int) :: .string b.2 :: cR r
theorem cR_len (l : List (Nat × ByteArray)) : (cR l).length = l.length * 2 := by
  induction l with
  | nil => rfl
  | cons b r ih => simp [cR, ih]; omega
theorem cR_app (l m : List (Nat × ByteArray)) : cR (l ++ m) = cR l ++ cR m := by
  induction l with
  | nil => rfl
  | cons b r ih => simp [cR, ih]
theorem cR_one (l : List (Nat × ByteArray)) : ∀ u ∈ cR l, u.oneCell' = true := by
  induction l with
  | nil => intro u hu; cases hu
  | cons b r ih =>
    intro u hu
    simp [cR] at hu
    rcases hu with rfl | rfl | hu
    · rfl
    · rfl
    · exact ih u hu
theorem cR_get (l : List (Nat × ByteArray)) (j : Nat) (n : Nat) (d : ByteArray) (hj : l[j]? = some (n, d)) : (cR l)[2 * j]? = some (.int .u64 (n : Int)) ∧ (cR l)[2 * j + 1]? = some (.string d) := by
  induction l generalizing j with
  | nil => simp at hj
  | cons b r ih =>
    cases j with
    | zero => simp at hj; subst hj; exact ⟨rfl, rfl⟩
    | succ j =>
      have := ih j (by simpa using hj)
      rw [show 2 * (j + 1) = 2 * j + 1 + 1 by omega]
      simpa [cR] using this
abbrev OwnR (w : World) (base : Nat) (v : Value) (l : List (Nat × ByteArray)) : Prop := w.ownsRow base 37 2 v l.length (cR l)
theorem Tryd.infoR : (Tryd.prog.info? 37).map (fun i => (i.zero, i.size, i.bytes)) = some (some (.agg #[.int .u64 0, .string ByteArray.empty]), 2, 24) := by kernel_rfl
theorem rdc_root (w : World) (n : Nat) (d : ByteArray) (t : Nat) : Cv.RdC (w.alloc (.cells #[.int .u64 (n : Int), .string d] t)) (.slice (some ⟨w.heap.size, 0, none⟩) 1 1) [(n, d)].length (cR [(n, d)]) := by
  refine ⟨some ⟨w.heap.size, 0, none⟩, 1, rfl, (fun h => by cases h), fun ad ha j c hj => ?_⟩
  cases ha
  match j, hj with
  | 0, hj => simp [cR] at hj; subst hj; simp [Addr.add, World.cell?_alloc_at]
  | 1, hj => simp [cR] at hj; subst hj; simp [Addr.add, World.cell?_alloc_at]
/-- Texts appended to texts; what is changed. -/
theorem wpList_append_G (w : World) {ops : Array Oper} {rest : List Oper} {o : Oper} {a : Act} {Q : Exit → Act → World → Prop}
    (hg : o.guard = none) (s x : Operand) (hop : o.op = Op.call { callee := Callee.builtin Builtin.append, args := #[s, x], argTypes := #[22, 22] })
    (B : Nat) (v : Value) (L : List ByteArray) (hs : a.eval s = v) (hown : OwnS w B v L) (u : Value) (M : List ByteArray) (hx : a.eval x = u) (hr : Cv.RdC w u M.length (M.map Value.string))
    (hlen : L.length + M.length ≤ 1048576) (hB : B ≤ w.heap.size)
    (hK : ∀ v' w', OwnS w' B v' (L ++ M) → w.grownBy w' v.ownBlock → wpList Tryd.prog ops Q rest (a.put o.dst v') w') : wpList Tryd.prog ops Q (o :: rest) a w := by
  obtain ⟨i0, hi, hz0, hz1, hz2⟩ := info_parts Tryd.infoS
  refine Cv.wpList_append_ap w hg s x _ hop B 9 i0 (.string ByteArray.empty) 1 16 Tryd.underlying22 hi hz0 hz1 hz2 rfl (by decide) v L.length (L.map Value.string) hs hown u M.length (M.map Value.string) hx hr (by simp) (by intro u hu; obtain ⟨y, _, rfl⟩ := List.mem_map.1 hu; rfl) (by unfold maxLen; omega) (by omega) hB ?_
  intro v' w' h
  refine hK v' w' ?_ h.grown
  rw [OwnS, List.map_append, List.length_append]
  exact h.own
theorem row_keep {w w' : World} {B T s n : Nat} {x : Value} {cs : List Value} (h : w.ownsRow B T s x n cs) (hk : ∀ g, x.ownBlock = some g → w'.heap[g]? = w.heap[g]?) : w'.ownsRow B T s x n cs := by
  obtain ⟨h1, h2⟩ := h
  refine ⟨h1, ?_⟩
  rcases h2 with h2 | ⟨g, cap, cur, rfl, hg, hh, r⟩
  · exact .inl h2
  · exact .inr ⟨g, cap, cur, rfl, hg, (hk g rfl).trans hh, r⟩
/-- A list is untouched where another one of another kind grows. -/
theorem row_grown {w w' : World} {B T s n B' T' s' n' : Nat} {x y : Value} {cs cs' : List Value} (h : w.ownsRow B T s x n cs) (h2 : w.ownsRow B' T' s' y n' cs') (hT : T ≠ T') (hg : w.grownBy w' y.ownBlock) : w'.ownsRow B T s x n cs := by
  refine row_keep h fun g hx => ?_
  obtain ⟨_, cur, hh⟩ := own_block h hx
  refine hg.block g (Array.getElem?_eq_some_iff.1 hh).1 fun e => ?_
  obtain ⟨_, cur', hh'⟩ := own_block h2 e.symm
  rw [hh] at hh'
  injection hh' with hh'
  injection hh' with _ h3 _
  exact hT h3
theorem Frs.grown {w w' : World} {m B' T' s' n' : Nat} {k : Int} {L : List ByteArray} {y : Value} {cs' : List Value} (h : Frs w m k L) (h2 : w.ownsRow B' T' s' y n' cs') (hT : T' ≠ 78) (hg : w.grownBy w' y.ownBlock) : Frs w' m k L := by
  have hl := h.lt
  refine h.same (hg.block m (by omega) fun e => ?_) (hg.block (m + 1) hl fun e => ?_)
  · obtain ⟨_, cur', hh'⟩ := own_block h2 e.symm
    obtain ⟨es, c, hx, _⟩ := h.mp
    rw [hh'] at hx
    cases hx
  · obtain ⟨_, cur', hh'⟩ := own_block h2 e.symm
    have := h.blk
    rw [hh'] at this
    injection this with this
    injection this with _ h3 _
    exact hT h3
end Go.Proofs.YtdkcliblbaldhaaDoor
