/-
  FLaw, FRowS, FMem in one text. Own work.
-/
import Derived.Test.YtdkcliblbaldhaaDoorJLawA
/-
  Items that are taken (off forest's texts). Own work.
-/
namespace Go.Proofs.YtdkcliblbaldhaaDoor
open Go.RowKit
/-- The items that are taken. -/
def tk (l : List ByteArray) : List ByteArray := l.filter fun s => decide (s.size ≤ 1048576)
theorem tk_len (l : List ByteArray) : (tk l).length ≤ l.length := List.length_filter_le _ _
theorem tk_size (l : List ByteArray) : ∀ s ∈ tk l, s.size ≤ 1048576 := fun s hs => by
  have := (List.mem_filter.1 hs).2
  simpa using this
theorem tk_yes (l : List ByteArray) (s : ByteArray) (h : s.size ≤ 1048576) : tk (l ++ [s]) = tk l ++ [s] := by simp [tk, h]
theorem tk_no (l : List ByteArray) (s : ByteArray) (h : 1048576 < s.size) : tk (l ++ [s]) = tk l := by simp [tk, h]
theorem tk_self {l : List ByteArray} (h : ∀ s ∈ l, s.size ≤ 1048576) : tk l = l := List.filter_eq_self.2 fun s hs => by simpa using h s hs
theorem take_next {ss : List ByteArray} {j : Nat} (h : j < ss.length) : ss.take (j + 1) = ss.take j ++ [ss.getD j ByteArray.empty] := by
  rw [List.take_add_one, List.getD_eq_getElem?_getD, List.getElem?_eq_getElem h]; rfl
end Go.Proofs.YtdkcliblbaldhaaDoor
/-
  The row of all nodes as items come; lists of roots. Own work.
-/
namespace Go.Proofs.YtdkcliblbaldhaaDoor
open Go.RowKit
open Pl (ones pw N at' fr blk most)
theorem ones_up1 : ∀ j k, ones j (k + 1) ≤ ones j k + 1
  | 0, _ => by simp [ones]
  | j + 1, k => by
    have ih := ones_up1 j (k / 2)
    simp only [ones]
    by_cases h : k % 2 = 1
    · rw [show (k + 1) / 2 = k / 2 + 1 by omega]; omega
    · rw [show (k + 1) / 2 = k / 2 by omega]; omega
theorem ones_even1 (j k : Nat) (h : k % 2 = 0) : ones (j + 1) (k + 1) = ones (j + 1) k + 1 := by
  simp only [ones]
  rw [show (k + 1) / 2 = k / 2 by omega]; omega
theorem N_succ (n : Nat) : N n + 1 ≤ N (n + 1) := by
  have h1 := Pl.N_eq n
  have h2 := Pl.N_eq (n + 1)
  have h3 := ones_up1 64 n
  omega
theorem N_mono {a b : Nat} (h : a ≤ b) : N a ≤ N b := by
  induction b with
  | zero => obtain rfl : a = 0 := by omega
            exact Nat.le_refl _
  | succ b ih =>
    by_cases e : a = b + 1
    · rw [e]; exact Nat.le_refl _
    · exact Nat.le_trans (ih (by omega)) (Nat.le_trans (Nat.le_succ _) (N_succ b))
/-- A place below the row's end: all items of its block are there. -/
theorem blk_in {n p : Nat} (hn : n ≤ 65536) (hp : p < N n) : p ≤ most ∧ ((blk p).2 + 1) * 2 ^ (blk p).1 ≤ n := by
  have hN := Pl.N_eq n
  have hm : p ≤ most := by unfold most; omega
  obtain ⟨h1, h2, h3⟩ := Pl.blk_at p hm
  refine ⟨hm, Nat.le_of_not_lt fun hlt => ?_⟩
  have hb := Pl.may_mul h1 h2
  have := Pl.N_at (blk p).1 (blk p).2 (by omega)
  rw [h3] at this
  have h4 : N n ≤ N (((blk p).2 + 1) * pw (blk p).1 - 1) := N_mono (by
    have : ((blk p).2 + 1) * pw (blk p).1 = ((blk p).2 + 1) * 2 ^ (blk p).1 := rfl
    omega)
  omega
theorem blk_out {n p : Nat} (hn : n ≤ 65536) (hp : N n ≤ p) (hm : p ≤ most) : ¬ ((blk p).2 + 1) * 2 ^ (blk p).1 ≤ n := by
  intro hle
  obtain ⟨h1, h2, h3⟩ := Pl.blk_at p hm
  have hle2 : ((blk p).2 + 1) * pw (blk p).1 ≤ n := hle
  have e1 := Pl.N_fr (blk p).1 ((blk p).2 + 1) (by omega)
  have e2 := Pl.at_eq (blk p).1 (blk p).2
  have e3 := Pl.fr_eq (blk p).1 ((blk p).2 + 1)
  have e4 := ones_up1 64 (blk p).2
  have e5 := N_mono hle2
  rw [h3] at e2
  omega
theorem most_in {n : Nat} (hn : n ≤ 65536) : N n ≤ most := by
  have hN := Pl.N_eq n
  unfold most; omega
theorem N_next {n t : Nat} (hn : n < 65536) (ht : tr 64 (n + 1) = t) : N (n + 1) = N n + (t + 1) := by
  have t16 : t ≤ 16 := by rw [← ht]; exact tr_small (by omega) (by omega)
  obtain ⟨h1, h2⟩ := (tr_eq 64 t (n + 1) (by omega)).1 ht
  obtain ⟨q, hq⟩ := tr_div (j := t) ht (Nat.le_refl _)
  have hq2 : (n + 1) / 2 ^ t = q := last_at hq
  rw [hq2] at h2
  obtain ⟨k, rfl⟩ : ∃ k, q = k + 1 := ⟨q - 1, by omega⟩
  have hq3 : (k + 1) * pw t = n + 1 := by rw [hq, Nat.mul_comm]; rfl
  have e1 := Pl.N_at t k (by omega)
  have e2 := Pl.N_fr t (k + 1) (by omega)
  rw [hq3] at e1 e2
  have e3 := Pl.at_eq t k
  have e4 := Pl.fr_eq t (k + 1)
  have e5 : ones 64 (k + 1) = ones 64 k + 1 := ones_even1 63 k (by omega)
  rw [Nat.add_sub_cancel] at e1
  omega
theorem blk_new {n t j : Nat} (hn : n < 65536) (ht : tr 64 (n + 1) = t) (hj : j ≤ t) : blk (N n + j) = (j, (n + 1) / 2 ^ j - 1) := by
  have t16 : t ≤ 16 := by rw [← ht]; exact tr_small (by omega) (by omega)
  obtain ⟨q, hq⟩ := tr_div (j := j) ht hj
  have hq2 : (n + 1) / 2 ^ j = q := last_at hq
  have hq0 : q ≠ 0 := by rintro rfl; simp at hq
  obtain ⟨k, rfl⟩ : ∃ k, q = k + 1 := ⟨q - 1, by omega⟩
  have hq3 : (k + 1) * pw j = n + 1 := by rw [hq, Nat.mul_comm]; rfl
  have e1 := Pl.N_at j k (by omega)
  rw [hq3, Nat.add_sub_cancel] at e1
  rw [e1, hq2, Nat.add_sub_cancel]
  refine (Pl.at_blk j k (by omega) ?_).2
  have hp := Pl.pw_pos j
  have h1 : k + 1 ≤ (k + 1) * pw j := Nat.le_mul_of_pos_right _ hp
  have h2 : 2 ^ 24 ≤ pw (40 - j) := Nat.pow_le_pow_right (by decide) (by omega)
  omega
/-- The row of all nodes. -/
noncomputable def Rw (c : Nat) (M : List ByteArray) : List ByteArray := (List.range (N M.length)).map fun p => nd c M (blk p).1 (blk p).2
theorem Rw_len (c : Nat) (M : List ByteArray) : (Rw c M).length = N M.length := by simp [Rw]
theorem Rw_at (c : Nat) (M : List ByteArray) {p : Nat} (hp : p < N M.length) : (Rw c M).getD p ByteArray.empty = nd c M (blk p).1 (blk p).2 := by
  simp [Rw, List.getD_eq_getElem?_getD, hp]
theorem Rw_nil (c : Nat) : Rw c [] = [] := by simp [Rw, N, ones]
theorem Rw_size {c : Nat} (hc : c ≤ 32) (M : List ByteArray) : ∀ s ∈ Rw c M, s.size = c := by
  intro s hs
  obtain ⟨j, _, rfl⟩ := List.mem_map.1 hs
  exact nd_size hc _ _ _
theorem Rw_next (c : Nat) (M : List ByteArray) (x : ByteArray) (t : Nat) (hn : M.length < 65536) (ht : tr 64 (M.length + 1) = t) : Rw c (M ++ [x]) = Rw c M ++ nw c (M ++ [x]) t := by
  rw [Rw, List.length_append, List.length_singleton, N_next hn ht, List.range_add, List.map_append, List.map_map]
  have h1 : (List.range (N M.length)).map (fun p => nd c (M ++ [x]) (blk p).1 (blk p).2) = Rw c M :=
    List.map_congr_left fun p hp => nd_app c M [x] _ _ (blk_in (by omega) (List.mem_range.1 hp)).2
  have h2 : (List.range (t + 1)).map ((fun p => nd c (M ++ [x]) (blk p).1 (blk p).2) ∘ fun j => N M.length + j) = nw c (M ++ [x]) t := by
    rw [nw]
    refine List.map_congr_left fun j hj => ?_
    have := blk_new hn ht (j := j) (by have := List.mem_range.1 hj; omega)
    show nd c (M ++ [x]) (blk (N M.length + j)).1 (blk (N M.length + j)).2 = _
    rw [this, List.length_append, List.length_singleton]
  rw [h1, ← h2]
/-- The roots of all beginnings. -/
noncomputable def rts (c : Nat) (M : List ByteArray) : List (Nat × ByteArray) := (List.range (M.length + 1)).map fun i => (i, rtD c M i)
theorem rts_len (c : Nat) (M : List ByteArray) : (rts c M).length = M.length + 1 := by simp [rts]
theorem rts_at (c : Nat) (M : List ByteArray) {i : Nat} (hi : i < M.length + 1) : (rts c M)[i]? = some (i, rtD c M i) := by
  simp [rts, hi]
theorem rts_nil (c : Nat) : rts c [] = [(0, rtD c [] 0)] := by simp [rts, List.range_succ]
theorem rts_next (c : Nat) (M : List ByteArray) (x : ByteArray) : rts c (M ++ [x]) = rts c M ++ [(M.length + 1, rtD c (M ++ [x]) (M.length + 1))] := by
  rw [rts, List.length_append, List.length_singleton, List.range_succ, List.map_append]
  have h1 : (List.range (M.length + 1)).map (fun i => (i, rtD c (M ++ [x]) i)) = rts c M := List.map_congr_left fun i hi => by
    have := List.mem_range.1 hi
    rw [rtD, rtD, List.take_append_of_le_length (by omega)]
  rw [h1]
  rfl
/-- Roots as cells. -/
def cR : List (Nat × ByteArray) → List Value
  | [] => []
  | b :: r => .int .u64 (b.1 : Int) :: .string b.2 :: cR r
theorem cR_len (l : List (Nat × ByteArray)) : (cR l).length = l.length * 2 := by
  induction l with
  | nil => rfl
  | cons b r ih => simp [cR, ih]; omega
theorem cR_app (l m : List (Nat × ByteArray)) : cR (l ++ m) = cR l ++ cR m := by
  induction l with
  | nil => rfl
  | cons b r ih => simp [cR, ih]
theorem cR_one (l : List (Nat × ByteArray)) : ∀ u ∈ cR l, u.oneCell' = true := by
  induction l with
  | nil => intro u hu; cases hu
  | cons b r ih =>
    intro u hu
    simp [cR] at hu
    rcases hu with rfl | rfl | hu
    · rfl
    · rfl
    · exact ih u hu
theorem cR_get (l : List (Nat × ByteArray)) (j : Nat) (n : Nat) (d : ByteArray) (hj : l[j]? = some (n, d)) : (cR l)[2 * j]? = some (.int .u64 (n : Int)) ∧ (cR l)[2 * j + 1]? = some (.string d) := by
  induction l generalizing j with
  | nil => simp at hj
  | cons b r ih =>
    cases j with
    | zero => simp at hj; subst hj; exact ⟨rfl, rfl⟩
    | succ j =>
      have := ih j (by simpa using hj)
      rw [show 2 * (j + 1) = 2 * j + 1 + 1 by omega]
      simpa [cR] using this
abbrev OwnR (w : World) (base : Nat) (v : Value) (l : List (Nat × ByteArray)) : Prop := w.ownsRow base 37 2 v l.length (cR l)
theorem Tryd.infoR : (Tryd.prog.info? 37).map (fun i => (i.zero, i.size, i.bytes)) = some (some (.agg #[.int .u64 0, .string ByteArray.empty]), 2, 24) := by kernel_rfl
theorem rdc_root (w : World) (n : Nat) (d : ByteArray) (t : Nat) : Cv.RdC (w.alloc (.cells #[.int .u64 (n : Int), .string d] t)) (.slice (some ⟨w.heap.size, 0, none⟩) 1 1) [(n, d)].length (cR [(n, d)]) := by
  refine ⟨some ⟨w.heap.size, 0, none⟩, 1, rfl, (fun h => by cases h), fun ad ha j c hj => ?_⟩
  cases ha
  match j, hj with
  | 0, hj => simp [cR] at hj; subst hj; simp [Addr.add, World.cell?_alloc_at]
  | 1, hj => simp [cR] at hj; subst hj; simp [Addr.add, World.cell?_alloc_at]
/-- Texts appended to texts; what is changed. -/
theorem wpList_append_G (w : World) {ops : Array Oper} {rest : List Oper} {o : Oper} {a : Act} {Q : Exit → Act → World → Prop}
    (hg : o.guard = none) (s x : Operand) (hop : o.op = Op.call { callee := Callee.builtin Builtin.append, args := #[s, x], argTypes := #[22, 22] })
    (B : Nat) (v : Value) (L : List ByteArray) (hs : a.eval s = v) (hown : OwnS w B v L) (u : Value) (M : List ByteArray) (hx : a.eval x = u) (hr : Cv.RdC w u M.length (M.map Value.string))
    (hlen : L.length + M.length ≤ 1048576) (hB : B ≤ w.heap.size)
    (hK : ∀ v' w', OwnS w' B v' (L ++ M) → w.grownBy w' v.ownBlock → wpList Tryd.prog ops Q rest (a.put o.dst v') w') : wpList Tryd.prog ops Q (o :: rest) a w := by
  obtain ⟨i0, hi, hz0, hz1, hz2⟩ := info_parts Tryd.infoS
  refine Cv.wpList_append_ap w hg s x _ hop B 9 i0 (.string ByteArray.empty) 1 16 Tryd.underlying22 hi hz0 hz1 hz2 rfl (by decide) v L.length (L.map Value.string) hs hown u M.length (M.map Value.string) hx hr (by simp) (by intro u hu; obtain ⟨y, _, rfl⟩ := List.mem_map.1 hu; rfl) (by unfold maxLen; omega) (by omega) hB ?_
  intro v' w' h
  refine hK v' w' ?_ h.grown
  rw [OwnS, List.map_append, List.length_append]
  exact h.own
theorem row_keep {w w' : World} {B T s n : Nat} {x : Value} {cs : List Value} (h : w.ownsRow B T s x n cs) (hk : ∀ g, x.ownBlock = some g → w'.heap[g]? = w.heap[g]?) : w'.ownsRow B T s x n cs := by
  obtain ⟨h1, h2⟩ := h
  refine ⟨h1, ?_⟩
  rcases h2 with h2 | ⟨g, cap, cur, rfl, hg, hh, r⟩
  · exact .inl h2
  · exact .inr ⟨g, cap, cur, rfl, hg, (hk g rfl).trans hh, r⟩
/-- A list is untouched where another one of another kind grows. -/
theorem row_grown {w w' : World} {B T s n B' T' s' n' : Nat} {x y : Value} {cs cs' : List Value} (h : w.ownsRow B T s x n cs) (h2 : w.ownsRow B' T' s' y n' cs') (hT : T ≠ T') (hg : w.grownBy w' y.ownBlock) : w'.ownsRow B T s x n cs := by
  refine row_keep h fun g hx => ?_
  obtain ⟨_, cur, hh⟩ := own_block h hx
  refine hg.block g (Array.getElem?_eq_some_iff.1 hh).1 fun e => ?_
  obtain ⟨_, cur', hh'⟩ := own_block h2 e.symm
  rw [hh] at hh'
  injection hh' with hh'
  injection hh' with _ h3 _
  exact hT h3
theorem Frs.grown {w w' : World} {m B' T' s' n' : Nat} {k : Int} {L : List ByteArray} {y : Value} {cs' : List Value} (h : Frs w m k L) (h2 : w.ownsRow B' T' s' y n' cs') (hT : T' ≠ 78) (hg : w.grownBy w' y.ownBlock) : Frs w' m k L := by
  have hl := h.lt
  refine h.same (hg.block m (by omega) fun e => ?_) (hg.block (m + 1) hl fun e => ?_)
  · obtain ⟨_, cur', hh'⟩ := own_block h2 e.symm
    obtain ⟨es, c, hx, _⟩ := h.mp
    rw [hh'] at hx
    cases hx
  · obtain ⟨_, cur', hh'⟩ := own_block h2 e.symm
    have := h.blk
    rw [hh'] at this
    injection this with this
    injection this with _ h3 _
    exact hT h3
end Go.Proofs.YtdkcliblbaldhaaDoor
/-
  Lists of lists of texts of one's own, apart from one another. Own work.
-/
namespace Go.Proofs.YtdkcliblbaldhaaDoor.Mm
open Go.RowKit
attribute [local go_sem ↓] Go.wp_at_zero Go.wp_at_succ
theorem Tryd.infoV : (Tryd.prog.info? 22).map (fun i => (i.zero, i.size, i.bytes)) = some (some (.slice none 0 0), 1, 24) := by kernel_rfl
/-- A list of lists. -/
abbrev OwnV (w : World) (B : Nat) (v : Value) (vs : List Value) : Prop := w.ownsRow B 22 1 v vs.length vs
/-- Cells that can be read. -/
def RdC (w : World) (u : Value) (m : Nat) (news : List Value) : Prop :=
  ∃ ao cap, u = .slice ao m cap ∧ (ao = none → m = 0 ∧ cap = 0) ∧ ∀ ad, ao = some ad → ∀ j c, news[j]? = some c → w.cell? (ad.add j) = some c
/-- What an append leaves. -/
structure Ap (w w' : World) (B e size : Nat) (v v' : Value) (n : Nat) (xs : List Value) : Prop where
  own : w'.ownsRow B e size v' n xs
  grown : w.grownBy w' v.ownBlock
  fresh : v'.ownBlock = v.ownBlock ∨ ∀ g, v'.ownBlock = some g → w.heap.size ≤ g
theorem wpList_append_ap (w : World) {ops : Array Oper} {rest : List Oper} {o : Oper} {a : Act} {Q : Exit → Act → World → Prop}
    (hg : o.guard = none) (s x : Operand) (t : TypeId) (hop : o.op = Op.call { callee := Callee.builtin Builtin.append, args := #[s, x], argTypes := #[t, t] })
    (B : Nat) (e : TypeId) (i : TypeInfo) (z : Value) (size bytes : Nat) (h1 : Tryd.prog.underlying t = some (.slice e)) (h2 : Tryd.prog.info? e = some i) (h3 : i.zero = some z) (h4 : i.size = size) (h5 : i.bytes = bytes) (h6 : z.cells.size = size) (h7 : 0 < size)
    (v : Value) (n : Nat) (xs : List Value) (hs : a.eval s = v) (hown : w.ownsRow B e size v n xs) (u : Value) (m : Nat) (news : List Value) (hx : a.eval x = u) (hr : RdC w u m news) (hn : news.length = m * size) (h1c : ∀ u ∈ news, u.oneCell' = true)
    (b1 : n + m ≤ maxLen) (b2 : (n + m) * bytes ≤ 140737488355328) (hB : B ≤ w.heap.size)
    (hK : ∀ v' w', Ap w w' B e size v v' (n + m) (xs ++ news) → wpList Tryd.prog ops Q rest (a.put o.dst v') w') : wpList Tryd.prog ops Q (o :: rest) a w := by
  obtain ⟨ao, cap, rfl, hnone, hcells⟩ := hr
  cases ao with
  | none =>
    obtain ⟨rfl, rfl⟩ := hnone rfl
    have hnil : news = [] := List.length_eq_zero_iff.1 (by rw [hn]; omega)
    subst hnil
    exact wpList_append_own_none hg s x _ hop B e i size h1 h2 v n xs hs hown hx (hK _ w ⟨by simpa using hown, World.grownBy.refl w _, .inl rfl⟩)
  | some ad =>
    have hown0 := hown
    obtain ⟨g1, g2⟩ := hown
    rcases g2 with ⟨rfl, rfl⟩ | ⟨g, cp, cur, rfl, hgb, hh, hc⟩
    · have hxs : xs = [] := List.length_eq_zero_iff.1 (by omega)
      subst hxs
      refine wpList_append_own w hg s x _ hop w.heap.size e i z size bytes h1 h2 h3 h4 h5 h6 h7 _ 0 [] hs (World.ownsRow_nil _ _ _ _) ad m cap news hx hn (hcells ad rfl) h1c b1 b2 (Nat.le_refl _) ?_
      intro v' w' r1 r2 _
      exact hK v' w' ⟨r1.mono hB, r2, .inr fun k hk => (r1.lt k hk).1⟩
    · by_cases hfit : n + m ≤ cp
      · refine wpList_append_fits w hg s x _ hop B e i size h1 h2 h4 g n cp xs hs hown0 ad m cap news hx hn (hcells ad rfl) h1c hfit ?_
        intro w' r1 r2
        exact hK _ w' ⟨r1, r2, .inl rfl⟩
      · refine wpList_append_grows w hg s x _ hop e i z size bytes h1 h2 h3 h4 h5 h6 h7 (some ⟨g, 0, none⟩) n cp xs hs (fun h => by cases h) g1 (fun b hb => by cases hb; exact hown0.cells rfl) ad m cap news hx hn (hcells ad rfl) h1c (by omega) b1 b2 ?_
        intro v' w' r1 r2
        exact hK v' w' ⟨r1.mono hB, ⟨r2.os, r2.tape, r2.output, r2.size, fun k hk _ => r2.block k hk (by simp)⟩, .inr fun k hk => (r1.lt k hk).1⟩
theorem ownB_next {w w' : World} {B e size n : Nat} {v : Value} {l : List Value} (h : w.ownsRow B e size v n l) (hb : Below w.heap.size w w') : w'.ownsRow B e size v n l := by
  obtain ⟨h1, h2⟩ := h
  refine ⟨h1, ?_⟩
  rcases h2 with h2 | ⟨g, cap, cur, hv, hg, hh, h3⟩
  · exact .inl h2
  · exact .inr ⟨g, cap, cur, hv, hg, (hb.block g (by have := (Array.getElem?_eq_some_iff.1 hh).1; exact this)).trans hh, h3⟩
theorem ownB_step0 {B : Nat} {w wr w1 : World} {v : Value} {e size n : Nat} {xs : List Value} (hB : Below B w wr) (hs : B ≤ wr.heap.size) (hown : wr.ownsRow B e size v n xs) (hg : wr.grownBy w1 v.ownBlock) : Below B w w1 := hB.grown hg hs (fun j hj => (hown.lt j hj).1)
theorem own_of_block {w w' : World} {B e size n : Nat} {v : Value} {xs : List Value} (h : w.ownsRow B e size v n xs) (hb : ∀ g, v.ownBlock = some g → w'.heap[g]? = w.heap[g]?) : w'.ownsRow B e size v n xs := by
  obtain ⟨h1, h2⟩ := h
  refine ⟨h1, ?_⟩
  rcases h2 with h2 | ⟨g, cap, cur, hv, hg, hh, h3⟩
  · exact .inl h2
  · exact .inr ⟨g, cap, cur, hv, hg, by rw [hb g (by rw [hv]; rfl)]; exact hh, h3⟩
theorem own_slice {w : World} {B e size n : Nat} {v : Value} {xs : List Value} (h : w.ownsRow B e size v n xs) : ∃ ao m c, v = .slice ao m c := by
  rcases h.2 with ⟨hv, _⟩ | ⟨g, cap, cur, hv, _⟩
  · exact ⟨none, 0, 0, hv⟩
  · exact ⟨_, _, _, hv⟩
theorem ty_ne {w : World} {B e s n B' e' s' n' : Nat} {u v : Value} {xs xs' : List Value} (h : w.ownsRow B e s u n xs) (hv : w.ownsRow B' e' s' v n' xs') (hne : e ≠ e') : u.ownBlock = none ∨ u.ownBlock ≠ v.ownBlock := by
  rcases h.2 with ⟨rfl, _⟩ | ⟨g, cap, cur, rfl, _, hg, _⟩
  · exact .inl rfl
  · refine .inr (fun he => ?_)
    rcases hv.2 with ⟨rfl, _⟩ | ⟨g', cap', cur', rfl, _, hg', _⟩
    · cases he
    · have : g = g' := by simpa [Value.ownBlock] using he
      subst this
      rw [hg] at hg'
      injection hg' with h1
      injection h1 with _ h2 _
      exact hne h2
theorem kept_ty {w w' : World} {B e s n B' e' s' n' : Nat} {u v : Value} {xs xs' : List Value} (h : w.ownsRow B e s u n xs) (hv : w.ownsRow B' e' s' v n' xs') (hne : e ≠ e') (hg : w.grownBy w' v.ownBlock) : w'.ownsRow B e s u n xs := h.kept hg (ty_ne h hv hne)
theorem wpList_append_V (w : World) {ops : Array Oper} {rest : List Oper} {o : Oper} {a : Act} {Q : Exit → Act → World → Prop}
    (hg : o.guard = none) (s x : Operand) (hop : o.op = Op.call { callee := Callee.builtin Builtin.append, args := #[s, x], argTypes := #[94, 94] })
    (B : Nat) (v : Value) (L : List Value) (hs : a.eval s = v) (hown : OwnV w B v L) (u : Value) (M : List Value) (hx : a.eval x = u) (hr : RdC w u M.length M) (h1c : ∀ u ∈ M, u.oneCell' = true)
    (hlen : L.length + M.length ≤ 1048576) (hB : B ≤ w.heap.size)
    (hK : ∀ v' w', OwnV w' B v' (L ++ M) → w.grownBy w' v.ownBlock → (v'.ownBlock = v.ownBlock ∨ ∀ g, v'.ownBlock = some g → w.heap.size ≤ g) → wpList Tryd.prog ops Q rest (a.put o.dst v') w') : wpList Tryd.prog ops Q (o :: rest) a w := by
  obtain ⟨i0, hi, hz0, hz1, hz2⟩ := info_parts Tryd.infoV
  refine wpList_append_ap w hg s x _ hop B 22 i0 (.slice none 0 0) 1 24 Tryd.underlying94 hi hz0 hz1 hz2 rfl (by decide) v L.length L hs hown u M.length M hx hr (by simp) h1c (by unfold maxLen; omega) (by omega) hB ?_
  intro v' w' h
  refine hK v' w' ?_ h.grown h.fresh
  rw [OwnV, List.length_append]
  exact h.own
theorem rdc_vals (w : World) (cs : Array Value) (t : Nat) : RdC (w.alloc (.cells cs t)) (.slice (some ⟨w.heap.size, 0, none⟩) cs.size cs.size) cs.toList.length cs.toList := by
  refine ⟨some ⟨w.heap.size, 0, none⟩, cs.size, by rw [Array.length_toList], (fun h => by cases h), fun ad ha j c hj => ?_⟩
  cases ha
  rw [Addr.add_mid, Nat.zero_add, World.cell?_alloc_at cs t w.heap.size j rfl]
  simpa using hj
/-- No list at all. -/
abbrev dv : Value := .slice none 0 0
def Apart (v u : Value) : Prop := ∀ k, v.ownBlock = some k → u.ownBlock = some k → False
theorem Apart.symm {v u : Value} (h : Apart v u) : Apart u v := fun k h1 h2 => h k h2 h1
theorem owns_lt {w : World} {B : Nat} {v : Value} {l : List ByteArray} (h : OwnS w B v l) : ∀ k, v.ownBlock = some k → B ≤ k ∧ k < w.heap.size := World.ownsRow.lt h
theorem owns_step {w w' : World} {B : Nat} {v : Value} {l : List ByteArray} (h : OwnS w B v l) (hb : Below w.heap.size w w') : OwnS w' B v l := ownB_next h hb
/-- Lists of texts, apart from one another. -/
structure Fam (w : World) (B : Nat) (vs : List Value) (Ls : List (List ByteArray)) : Prop where
  len : vs.length = Ls.length
  own : ∀ i, i < vs.length → OwnS w B (vs.getD i dv) (Ls.getD i [])
  dj : ∀ i j, i < vs.length → j < vs.length → i ≠ j → Apart (vs.getD i dv) (vs.getD j dv)
theorem fam_nil (w : World) (B : Nat) : Fam w B [] [] := ⟨rfl, fun i hi => absurd hi (Nat.not_lt_zero i), fun i _ hi => absurd hi (Nat.not_lt_zero i)⟩
theorem fam_next {w w' : World} {B : Nat} {vs : List Value} {Ls : List (List ByteArray)} (h : Fam w B vs Ls) (hb : Below w.heap.size w w') : Fam w' B vs Ls := ⟨h.len, fun i hi => owns_step (h.own i hi) hb, h.dj⟩
theorem fam_ty {w w' : World} {B B' e s n : Nat} {v : Value} {xs : List Value} {vs : List Value} {Ls : List (List ByteArray)} (h : Fam w B vs Ls) (hv : w.ownsRow B' e s v n xs) (hne : 9 ≠ e) (hg : w.grownBy w' v.ownBlock) : Fam w' B vs Ls :=
  ⟨h.len, fun i hi => kept_ty (h.own i hi) hv hne hg, h.dj⟩
theorem getD_snoc {α : Type} (d : α) (l : List α) (x : α) (i : Nat) : (l ++ [x]).getD i d = if i < l.length then l.getD i d else if i = l.length then x else d := by
  by_cases h : i < l.length
  · rw [if_pos h, List.getD_eq_getElem?_getD, List.getElem?_append_left h, ← List.getD_eq_getElem?_getD]
  · rw [if_neg h]
    by_cases h2 : i = l.length
    · rw [if_pos h2, h2, List.getD_eq_getElem?_getD]; simp
    · rw [if_neg h2, List.getD_eq_getElem?_getD, List.getElem?_eq_none (by simp; omega)]; rfl
theorem fam_new {w w' : World} {B : Nat} {vs : List Value} {Ls : List (List ByteArray)} {v : Value} {L : List ByteArray} (h : Fam w B vs Ls) (hB : B ≤ w.heap.size) (hb : Below w.heap.size w w') (ho : OwnS w' w.heap.size v L) : Fam w' B (vs ++ [v]) (Ls ++ [L]) := by
  refine ⟨by simp [h.len], fun i hi => ?_, fun i j hi hj hne => ?_⟩
  · rw [getD_snoc, getD_snoc, ← h.len]
    by_cases h1 : i < vs.length
    · rw [if_pos h1, if_pos h1]; exact owns_step (h.own i h1) hb
    · have h2 : i = vs.length := by simp at hi; omega
      rw [if_neg h1, if_neg h1, if_pos h2, if_pos h2]; exact World.ownsRow.mono ho hB
  · simp at hi hj
    rw [getD_snoc, getD_snoc]
    by_cases h1 : i < vs.length
    · rw [if_pos h1]
      by_cases h2 : j < vs.length
      · rw [if_pos h2]; exact h.dj i j h1 h2 hne
      · rw [if_neg h2, if_pos (by omega)]
        intro k k1 k2
        have a1 := (owns_lt (h.own i h1) k k1).2
        have a2 := (owns_lt ho k k2).1
        omega
    · rw [if_neg h1, if_pos (show i = vs.length by omega), if_pos (show j < vs.length by omega)]
      intro k k1 k2
      have a1 := (owns_lt (h.own j (by omega)) k k2).2
      have a2 := (owns_lt ho k k1).1
      omega
theorem fam_two {w w1 w2 : World} {B : Nat} {vs : List Value} {Ls : List (List ByteArray)} {v1 v2 : Value} {L1 L2 : List ByteArray} (h : Fam w B vs Ls) (hB : B ≤ w.heap.size) (b1 : Below w.heap.size w w1) (o1 : OwnS w1 w.heap.size v1 L1) (b2 : Below w1.heap.size w1 w2) (o2 : OwnS w2 w1.heap.size v2 L2) : Fam w2 B (vs ++ [v1, v2]) (Ls ++ [L1, L2]) := by
  have f1 := fam_new h hB b1 o1
  have f2 := fam_new f1 (Nat.le_trans hB b1.size) b2 o2
  simpa using f2
theorem getD_set {α : Type} (d : α) (l : List α) (i j : Nat) (x : α) (hi : i < l.length) : (l.set i x).getD j d = if j = i then x else l.getD j d := by
  rw [List.getD_eq_getElem?_getD, List.getElem?_set]
  by_cases h : i = j
  · subst h; simp [hi]
  · rw [if_neg h, if_neg (fun e => h e.symm), ← List.getD_eq_getElem?_getD]
/-- One of them is written to. -/
theorem fam_set {w w' : World} {B : Nat} {vs : List Value} {Ls : List (List ByteArray)} {i : Nat} {L : List ByteArray} (h : Fam w B vs Ls) (hi : i < vs.length) (ho : OwnS w' B (vs.getD i dv) L) (hk : ∀ b, (vs.getD i dv).ownBlock ≠ some b → w'.heap[b]? = w.heap[b]?) : Fam w' B vs (Ls.set i L) := by
  refine ⟨by simp [h.len], fun j hj => ?_, h.dj⟩
  rw [getD_set _ _ _ _ _ (by rw [← h.len]; exact hi)]
  by_cases e : j = i
  · rw [if_pos e, e]; exact ho
  · rw [if_neg e]
    exact own_of_block (h.own j hj) (fun g hg => hk g (fun e2 => h.dj j i hj hi e g hg e2))
/-- A text written into a list of one's own. -/
theorem ownS_set {w : World} {B g n cap j : Nat} {l : List ByteArray} (h : OwnS w B (.slice (some ⟨g, 0, none⟩) n cap) l) (x : ByteArray) : OwnS (w.setCell ⟨g, j, none⟩ (.string x)) B (.slice (some ⟨g, 0, none⟩) n cap) (l.set j x) := by
  obtain ⟨h1, h2⟩ := h
  refine ⟨by simp, .inr ?_⟩
  rcases h2 with ⟨h2, h3⟩ | ⟨g', cap', cur, hv, hg, hh, h3, h4, h5, h6⟩
  · cases h2
  · obtain ⟨e1, e2, e3⟩ := Value.slice.inj hv
    cases e1
    have s1 : (w.setCell ⟨g, j, none⟩ (.string x)).heap[g]? = _ := heap_setCell_same w g j cur _ _ hh
    refine ⟨g, cap, _, by rw [e2]; simp, hg, s1, by simpa [e3] using h3, by omega, by simpa [e3] using h5, ?_⟩
    rw [List.map_set, ← h6, List.length_set, Array.toList_setIfInBounds, List.take_set]
theorem ownV_cell {w : World} {B i : Nat} {v : Value} {vs : List Value} (h : OwnV w B v vs) (hi : i < vs.length) : ∃ g cap, v = .slice (some ⟨g, 0, none⟩) vs.length cap ∧ w.cell? ⟨g, i, none⟩ = some (vs.getD i dv) := by
  rcases h.2 with ⟨_, h2⟩ | ⟨g, cap, cur, rfl, hg, hh, hc⟩
  · omega
  · refine ⟨g, cap, rfl, ?_⟩
    have := h.cells (g := g) rfl i (vs.getD i dv) (by rw [List.getD_eq_getElem?_getD, List.getElem?_eq_getElem hi]; rfl)
    rw [Addr.add_mid, Nat.zero_add] at this
    exact this
theorem ownV_cells {w : World} {B g n cap : Nat} {vs : List Value} (h : OwnV w B (.slice (some ⟨g, 0, none⟩) n cap) vs) (i : Nat) (hi : i < vs.length) : w.cell? ⟨g, i, none⟩ = some (vs.getD i dv) := by
  obtain ⟨g', c', e', h'⟩ := ownV_cell h hi
  obtain ⟨e1, _, _⟩ := Value.slice.inj e'
  cases e1; exact h'
theorem ownS_len {w : World} {B n cap : Nat} {ao : Option Addr} {l : List ByteArray} (h : OwnS w B (.slice ao n cap) l) : l.length = n := by
  rcases h.2 with ⟨hv, h0⟩ | ⟨g, cp, cur, hv, _⟩
  · obtain ⟨_, e2, _⟩ := Value.slice.inj hv; omega
  · obtain ⟨_, e2, _⟩ := Value.slice.inj hv; exact e2.symm
theorem ownS_some {w : World} {B n cap : Nat} {ao : Option Addr} {l : List ByteArray} (h : OwnS w B (.slice ao n cap) l) (hl : 0 < l.length) : ∃ g, ao = some ⟨g, 0, none⟩ := by
  obtain ⟨g, cp, hv, _⟩ := own_form h hl
  obtain ⟨e1, _, _⟩ := Value.slice.inj hv
  exact ⟨g, e1⟩
/-- One text appended to a list of one's own: where it went. -/
theorem wpList_append_K (w : World) {ops : Array Oper} {rest : List Oper} {o : Oper} {a : Act} {Q : Exit → Act → World → Prop}
    (hg : o.guard = none) (s x : Operand) (hop : o.op = Op.call { callee := Callee.builtin Builtin.append, args := #[s, x], argTypes := #[22, 22] })
    (B : Nat) (v : Value) (L : List ByteArray) (hs : a.eval s = v) (hown : OwnS w B v L) (ad : Addr) (mc : Nat) (c : ByteArray) (hx : a.eval x = .slice (some ad) 1 mc) (hr : RdC w (.slice (some ad) 1 mc) 1 [.string c])
    (hlen : L.length + 1 ≤ 1048576) (hB : B ≤ w.heap.size)
    (hK : ∀ v' w', OwnS w' B v' (L ++ [c]) → ((∃ g n cap, v = .slice (some ⟨g, 0, none⟩) n cap ∧ v' = .slice (some ⟨g, 0, none⟩) (n + 1) cap ∧ w.grownBy w' (some g)) ∨ (w.grownBy w' none ∧ ∀ g, v'.ownBlock = some g → w.heap.size ≤ g)) → wpList Tryd.prog ops Q rest (a.put o.dst v') w') : wpList Tryd.prog ops Q (o :: rest) a w := by
  obtain ⟨i0, hi, hz0, hz1, hz2⟩ := info_parts Tryd.infoS
  obtain ⟨ao, cap, he, _, hcells⟩ := hr
  obtain ⟨rfl, _, rfl⟩ := Value.slice.inj he
  have hap : ∀ {w' : World} {v' : Value} {n : Nat}, n = L.length + 1 → w'.ownsRow B 9 1 v' n (L.map Value.string ++ [.string c]) → OwnS w' B v' (L ++ [c]) := fun hn h => by
    rw [OwnS, List.map_append, List.length_append, List.length_cons, List.length_nil, Nat.zero_add, ← hn]; exact h
  have h1c : ∀ u ∈ ([.string c] : List Value), u.oneCell' = true := by intro u hu; simp at hu; subst hu; rfl
  have hown0 := hown
  rcases hown.2 with ⟨rfl, h0⟩ | ⟨g, cp, cur, rfl, hgb, hh, hc⟩
  · have hL : L = [] := List.length_eq_zero_iff.1 h0
    subst hL
    refine wpList_append_own w hg s x _ hop w.heap.size 9 i0 (.string ByteArray.empty) 1 16 Tryd.underlying22 hi hz0 hz1 hz2 rfl (by decide) _ 0 [] hs (World.ownsRow_nil _ _ _ _) ad 1 mc [.string c] hx rfl (hcells ad rfl) h1c (by decide) (by decide) (Nat.le_refl _) ?_
    intro v' w' r1 r2 _
    exact hK v' w' (hap rfl (by simpa using r1.mono hB)) (.inr ⟨r2, fun k hk => (r1.lt k hk).1⟩)
  · by_cases hfit : L.length + 1 ≤ cp
    · refine wpList_append_fits w hg s x _ hop B 9 i0 1 Tryd.underlying22 hi hz1 g L.length cp (L.map Value.string) hs hown0 ad 1 mc [.string c] hx rfl (hcells ad rfl) h1c hfit ?_
      intro w' r1 r2
      exact hK _ w' (hap rfl r1) (.inl ⟨g, L.length, cp, rfl, rfl, r2⟩)
    · refine wpList_append_grows w hg s x _ hop 9 i0 (.string ByteArray.empty) 1 16 Tryd.underlying22 hi hz0 hz1 hz2 rfl (by decide) (some ⟨g, 0, none⟩) L.length cp (L.map Value.string) hs (fun h => by cases h) hown0.1 (fun b hb => by cases hb; exact World.ownsRow.cells hown0 rfl) ad 1 mc [.string c] hx rfl (hcells ad rfl) h1c (by omega) (by unfold maxLen; omega) (by omega) ?_
      intro v' w' r1 r2
      exact hK v' w' (hap rfl (r1.mono hB)) (.inr ⟨r2, fun k hk => (r1.lt k hk).1⟩)
/-- A list that another one goes on from stays. -/
theorem ownS_head {w w' : World} {B B1 B2 g n0 cap0 n cap n' : Nat} {l X r : List ByteArray} (hu : OwnS w B (.slice (some ⟨g, 0, none⟩) n0 cap0) l) (hx : OwnS w B1 (.slice (some ⟨g, 0, none⟩) n cap) X) (hx' : OwnS w' B2 (.slice (some ⟨g, 0, none⟩) n' cap) (l ++ r)) : OwnS w' B (.slice (some ⟨g, 0, none⟩) n0 cap0) l := by
  obtain ⟨h1, h2⟩ := hu
  rcases h2 with ⟨h2, _⟩ | ⟨g1, c1, cur1, hv1, hg1, hh1, a1, a2, a3, a4⟩
  · cases h2
  rcases hx.2 with ⟨h3, _⟩ | ⟨g2, c2, cur2, hv2, hg2, hh2, b1, b2, b3, b4⟩
  · cases h3
  rcases hx'.2 with ⟨h4, _⟩ | ⟨g3, c3, cur3, hv3, hg3, hh3, d1, d2, d3, d4⟩
  · cases h4
  obtain ⟨e1, e2, e3⟩ := Value.slice.inj hv1
  obtain ⟨f1, f2, f3⟩ := Value.slice.inj hv2
  obtain ⟨i1, i2, i3⟩ := Value.slice.inj hv3
  cases e1; cases f1; cases i1
  rw [hh1] at hh2
  cases hh2
  refine ⟨h1, .inr ⟨g, c1, cur3, hv1, hg1, hh3, a1, a2, by rw [d3, ← i3, f3, ← b3, a3], ?_⟩⟩
  have h5 : l.map Value.string = ((l ++ r).map Value.string).take (l.length * 1) := by rw [List.map_append, ← h1, List.take_left]
  rw [h5, ← d4, List.take_take]
  congr 1
  simp
/-- The mark of list k. -/
def mkT (k : Nat) : ByteArray := strB [33, (k : Int), 0]
theorem mkT_size (k : Nat) : (mkT k).size = 3 := by rw [mkT, strB_size]; rfl
theorem conv_mark (w : World) (k : Nat) : (convert 51 9 (.slice (some ⟨w.heap.size, 0, none⟩) 3 3)).run Tryd.prog (w.alloc (.cells #[.int .u8 33, .int .u8 (k : Int), .int .u8 0] 5)) = .ok (.string (mkT k)) (w.alloc (.cells #[.int .u8 33, .int .u8 (k : Int), .int .u8 0] 5)) :=
  conv_str _ _ [33, (k : Int), 0] 3 rfl (range_new w (cB [33, (k : Int), 0]) 5)
theorem set_getD_self {α : Type} (d : α) (l : List α) (i : Nat) : l.set i (l.getD i d) = l := by
  apply List.ext_getElem?
  intro j
  rw [List.getElem?_set]
  by_cases h : i = j
  · subst h
    by_cases hl : i < l.length
    · simp [hl]
    · simp [hl]
  · simp [h]
theorem mark_set (R : List ByteArray) (j : Nat) (x : ByteArray) (h : j < R.length) : (List.replicate j x ++ R.drop j).set j x = List.replicate (j + 1) x ++ R.drop (j + 1) := by
  rw [List.set_append_right _ _ (by simp), List.length_replicate, Nat.sub_self, List.drop_eq_getElem_cons h, List.set_cons_zero, List.replicate_succ', List.append_assoc]; rfl
/-- All lists, in a list. -/
structure P3 (w wr : World) (vs : List Value) (Qs : List (List ByteArray)) (vA : Value) : Prop where
  fam : Fam wr w.heap.size vs Qs
  all : OwnV wr w.heap.size vA vs
  below : Below w.heap.size w wr
theorem P3.next {w wr w' : World} {vs : List Value} {Qs : List (List ByteArray)} {vA : Value} (h : P3 w wr vs Qs vA) (hb : Below wr.heap.size wr w') : P3 w w' vs Qs vA := ⟨fam_next h.fam hb, ownB_next h.all hb, bnext h.below hb⟩
theorem store_keep {w : World} {B e s n B' g m cap x : Nat} {u p : Value} {xs : List Value} {L : List ByteArray} (h : w.ownsRow B e s u n xs) (hv : OwnS w B' (.slice (some ⟨g, 0, none⟩) m cap) L) (hne : e ≠ 9) : (w.setCell ⟨g, x, none⟩ p).ownsRow B e s u n xs := by
  refine own_of_block h (fun b hb => ?_)
  have hbg : b ≠ g := fun e2 => by
    rcases ty_ne h hv hne with h1 | h1
    · rw [h1] at hb; cases hb
    · exact h1 (by rw [hb, e2]; rfl)
  rw [Below.heap_setCell _ _ _ _ hbg]
theorem P3.store {w wr : World} {vs : List Value} {Qs : List (List ByteArray)} {vA : Value} (h : P3 w wr vs Qs vA) (i : Nat) (hi : i < vs.length) (g m cap : Nat) (hu : vs.getD i dv = .slice (some ⟨g, 0, none⟩) m cap) (j : Nat) (x : ByteArray) :
    P3 w (wr.setCell ⟨g, j, none⟩ (.string x)) vs (Qs.set i ((Qs.getD i []).set j x)) vA := by
  have hol := h.fam.own i hi
  rw [hu] at hol
  have ho := ownS_set (j := j) hol x
  have hgB := (owns_lt hol g rfl).1
  have hf := fam_set (i := i) (L := (Qs.getD i []).set j x) h.fam hi (by rw [hu]; exact ho) (fun b hb => by
    rw [hu] at hb
    have hbg : b ≠ g := fun e => hb (by rw [e]; rfl)
    rw [Below.heap_setCell _ _ _ _ hbg])
  exact ⟨hf, store_keep h.all hol (by decide), h.below.setCell hgB _⟩
/-- The first i lists are marks. -/
def Mk (N i : Nat) (Qs Ls : List (List ByteArray)) : Prop := Qs.length = N ∧ ∀ k, k < N → Qs.getD k [] = if k < i then List.replicate (Ls.getD k []).length (mkT k) else Ls.getD k []
theorem mk_next {N i : Nat} {Qs Ls : List (List ByteArray)} {m : Nat} (h : Mk N i Qs Ls) (hi : i + 1 ≤ N) (hm : (Ls.getD i []).length = m) : Mk N (i + 1) (Qs.set i (List.replicate m (mkT i))) Ls := by
  refine ⟨by rw [List.length_set]; exact h.1, fun k hk => ?_⟩
  rw [getD_set _ _ _ _ _ (by rw [h.1]; omega)]
  by_cases e : k = i
  · subst e; rw [if_pos rfl, if_pos (by omega), hm]
  · rw [if_neg e, h.2 k hk]
    by_cases e2 : k < i
    · rw [if_pos e2, if_pos (by omega)]
    · rw [if_neg e2, if_neg (by omega)]
/-- The marks of list k, e more of them. -/
def mkE (Ls : List (List ByteArray)) (k e : Nat) : List ByteArray := List.replicate ((Ls.getD k []).length + e) (mkT k)
theorem mkE_len (Ls : List (List ByteArray)) (k e : Nat) : (mkE Ls k e).length = (Ls.getD k []).length + e := List.length_replicate
theorem mkE_get (Ls : List (List ByteArray)) (k e j : Nat) (h : j < (Ls.getD k []).length + e) : (mkE Ls k e).getD j ByteArray.empty = mkT k := by
  rw [mkE, List.getD_eq_getElem?_getD, List.getElem?_replicate, if_pos h]; rfl
theorem mkE_succ (Ls : List (List ByteArray)) (k e : Nat) : mkE Ls k (e + 1) = mkE Ls k e ++ [mkT k] := by rw [mkE, ← Nat.add_assoc, List.replicate_succ']; rfl
theorem mkE_head (Ls : List (List ByteArray)) (k e : Nat) : ∃ r, mkE Ls k e = mkE Ls k 0 ++ r := ⟨List.replicate e _, by rw [mkE, mkE, Nat.add_zero, List.replicate_append_replicate]⟩
structure P4 (w wr : World) (N : Nat) (vs ms : List Value) (Ls : List (List ByteArray)) (vA vM : Value) (i : Nat) : Prop where
  A : ∀ k, k < N → OwnS wr w.heap.size (vs.getD k dv) (mkE Ls k 0)
  Mm : ∀ k, k < i → OwnS wr w.heap.size (ms.getD k dv) (mkE Ls k 12)
  dMV : ∀ k, k < i → ∀ j, j < N → j ≠ k → Apart (ms.getD k dv) (vs.getD j dv)
  all : OwnV wr w.heap.size vA vs
  more : OwnV wr w.heap.size vM ms
  nA : vA.ownBlock = none ∨ vA.ownBlock ≠ vM.ownBlock
  below : Below w.heap.size w wr
  ml : ms.length = i
structure P5 (w wr : World) (N : Nat) (vs ms : List Value) (Ls : List (List ByteArray)) (vA vM : Value) (i t : Nat) (x : Value) : Prop where
  p : P4 w wr N vs ms Ls vA vM i
  X : OwnS wr w.heap.size x (mkE Ls i t)
  dX : ∀ k, k < N → k ≠ i → Apart (vs.getD k dv) x
  dM : ∀ k, k < i → Apart (ms.getD k dv) x
variable {w wr : World} {N : Nat} {vs ms : List Value} {Ls : List (List ByteArray)} {vA vM : Value} {i t : Nat} {x : Value}
theorem P4.next (h : P4 w wr N vs ms Ls vA vM i) {w' : World} (hb : Below wr.heap.size wr w') : P4 w w' N vs ms Ls vA vM i :=
  ⟨fun k hk => owns_step (h.A k hk) hb, fun k hk => owns_step (h.Mm k hk) hb, h.dMV, ownB_next h.all hb, ownB_next h.more hb, h.nA, bnext h.below hb, h.ml⟩
theorem P5.next (h : P5 w wr N vs ms Ls vA vM i t x) {w' : World} (hb : Below wr.heap.size wr w') : P5 w w' N vs ms Ls vA vM i t x := ⟨h.p.next hb, owns_step h.X hb, h.dX, h.dM⟩
theorem P4.start (h : P4 w wr N vs ms Ls vA vM i) (hi : i < N) (dVV : ∀ k j, k < N → j < N → k ≠ j → Apart (vs.getD k dv) (vs.getD j dv)) : P5 w wr N vs ms Ls vA vM i 0 (vs.getD i dv) :=
  ⟨h, h.A i hi, fun k hk hne => dVV k i hk hi hne, fun k hk => h.dMV k hk i hi (by omega)⟩
theorem kept_apart {w' : World} {B g : Nat} {u y : Value} {L : List ByteArray} (h : OwnS wr B u L) (ha : Apart u y) (hy : y.ownBlock = some g) (hg : wr.grownBy w' (some g)) : OwnS w' B u L := World.ownsRow.kept h hg (.inr (fun e => ha g e hy))
theorem P5.app (h : P5 w wr N vs ms Ls vA vM i t x) {w1 : World} {x' : Value} (r1 : OwnS w1 w.heap.size x' (mkE Ls i t ++ [mkT i]))
    (r2 : (∃ g n cap, x = .slice (some ⟨g, 0, none⟩) n cap ∧ x' = .slice (some ⟨g, 0, none⟩) (n + 1) cap ∧ wr.grownBy w1 (some g)) ∨ (wr.grownBy w1 none ∧ ∀ g, x'.ownBlock = some g → wr.heap.size ≤ g)) : P5 w w1 N vs ms Ls vA vM i (t + 1) x' := by
  rw [← mkE_succ] at r1
  rcases r2 with ⟨g, n, cap, rfl, rfl, hg⟩ | ⟨hg, hf⟩
  · have hX := h.X
    refine ⟨⟨fun k hk => ?_, fun k hk => kept_apart (h.p.Mm k hk) (h.dM k hk) rfl hg, h.p.dMV, kept_ty h.p.all hX (by decide) hg, kept_ty h.p.more hX (by decide) hg, h.p.nA, ownB_step0 h.p.below h.p.below.size hX hg, h.p.ml⟩, r1, fun k hk hne => h.dX k hk hne, h.dM⟩
    by_cases e : k = i
    · subst e
      have hA := h.p.A k hk
      by_cases e2 : (vs.getD k dv).ownBlock = some g
      · obtain ⟨ao, n0, c0, hv⟩ := own_slice hA
        rw [hv] at hA e2 ⊢
        obtain ⟨g0, hg0⟩ : ∃ g0, ao = some g0 := by
          cases ao with
          | none => cases e2
          | some g0 => exact ⟨g0, rfl⟩
        subst hg0
        rcases hA.2 with ⟨h4, _⟩ | ⟨g3, c3, cur3, hv3, _⟩
        · cases h4
        obtain ⟨i1, i2, i3⟩ := Value.slice.inj hv3
        cases i1
        have : g3 = g := by simpa [Value.ownBlock] using e2
        subst this
        obtain ⟨r, hr⟩ := mkE_head Ls k (t + 1)
        rw [hr] at r1
        exact ownS_head hA hX r1
      · exact World.ownsRow.kept hA hg (.inr e2)
    · exact kept_apart (h.p.A k hk) (h.dX k hk e) rfl hg
  · have hb : Below wr.heap.size wr w1 := (Below.refl _ _).grown hg (Nat.le_refl _) (fun j hj => by cases hj)
    have far : ∀ {u : Value} {L : List ByteArray}, OwnS wr w.heap.size u L → Apart u x' := fun ho k k1 k2 => by
      have a1 := (owns_lt ho k k1).2
      have a2 := hf k k2
      omega
    exact ⟨h.p.next hb, r1, fun k hk _ => far (h.p.A k hk), fun k hk => far (h.p.Mm k hk)⟩
theorem P5.push (h : P5 w wr N vs ms Ls vA vM i 12 x) {w1 : World} {vM' : Value} (r1 : OwnV w1 w.heap.size vM' (ms ++ [x])) (r2 : wr.grownBy w1 vM.ownBlock) (r3 : vM'.ownBlock = vM.ownBlock ∨ ∀ g, vM'.ownBlock = some g → wr.heap.size ≤ g) : P4 w w1 N vs (ms ++ [x]) Ls vA vM' (i + 1) := by
  have hm := h.p.more
  have hml := h.p.ml
  have key : ∀ {u : Value} {B n : Nat} {xs : List Value}, wr.ownsRow B 22 1 u n xs → (u.ownBlock = none ∨ u.ownBlock ≠ vM.ownBlock) → (u.ownBlock = none ∨ u.ownBlock ≠ vM'.ownBlock) := fun {u B n xs} ho hn => by
    rcases r3 with e | e
    · rw [e]; exact hn
    · cases hu : u.ownBlock with
      | none => exact .inl rfl
      | some g =>
        refine .inr (fun h2 => ?_)
        have a1 := (ho.lt g hu).2
        have a2 := e g h2.symm
        omega
  refine ⟨fun k hk => kept_ty (h.p.A k hk) hm (by decide) r2, fun k hk => ?_, fun k hk j hj hne => ?_, h.p.all.kept r2 h.p.nA, r1, key h.p.all h.p.nA, ownB_step0 h.p.below h.p.below.size hm r2, by simp [hml]⟩
  · rw [getD_snoc, hml]
    by_cases e : k < i
    · rw [if_pos e]; exact kept_ty (h.p.Mm k e) hm (by decide) r2
    · have e2 : k = i := by omega
      rw [if_neg e, if_pos e2, e2]; exact kept_ty h.X hm (by decide) r2
  · rw [getD_snoc, hml]
    by_cases e : k < i
    · rw [if_pos e]; exact h.p.dMV k e j hj hne
    · have e2 : k = i := by omega
      rw [if_neg e, if_pos e2]; exact (h.dX j hj (by omega)).symm

end Go.Proofs.YtdkcliblbaldhaaDoor.Mm
