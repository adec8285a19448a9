/-
  FLaw, FRowS, FMem, FRefA, FRefB, FRefC in one text. Own work.
-/
import Derived.Test.YtdkcliblbaldhaaDoorJLawA
import Derived.Test.YtdkcliblbaldhaaDoorHRefB
/-
  Items that are taken (off forest's texts). Own work.
-/
namespace Go.Proofs.YtdkcliblbaldhaaDoor
open Go.RowKit
/-- The items that are taken. -/
def tk (l : List ByteArray) : List ByteArray := l.filter fun s => decide (s.size ≤ 1048576)
theorem tk_len (l : List ByteArray) : (tk l).length ≤ l.length := List.length_filter_le _ _
theorem tk_size (l : List ByteArray) : ∀ s ∈ tk l, s.size ≤ 1048576 := fun s hs => by
  have := (List.mem_filter.1 hs).2
  simpa using this
theorem tk_yes (l : List ByteArray) (s : ByteArray) (h : s.size ≤ 1048576) : tk (l ++ [s]) = tk l ++ [s] := by simp [tk, h]
theorem tk_no (l : List ByteArray) (s : ByteArray) (h : 1048576 < s.size) : tk (l ++ [s]) = tk l := by simp [tk, h]
theorem tk_self {l : List ByteArray} (h : ∀ s ∈ l, s.size ≤ 1048576) : tk l = l := List.filter_eq_self.2 fun s hs => by simpa using h s hs
theorem take_next {ss : List ByteArray} {j : Nat} (h : j < ss.length) : ss.take (j + 1) = ss.take j ++ [ss.getD j ByteArray.empty] := by
  rw [List.take_add_one, List.getD_eq_getElem?_getD, List.getElem?_eq_getElem h]; rfl
end Go.Proofs.YtdkcliblbaldhaaDoor
/-
  The row of all nodes as items come; lists of roots. Own work.
-/
namespace Go.Proofs.YtdkcliblbaldhaaDoor
open Go.RowKit
open Pl (ones pw N at' fr blk most)
theorem ones_up1 : ∀ j k, ones j (k + 1) ≤ ones j k + 1
  | 0, _ => by simp [ones]
  | j + 1, k => by
    have ih := ones_up1 j (k / 2)
    simp only [ones]
    by_cases h : k % 2 = 1
    · rw [show (k + 1) / 2 = k / 2 + 1 by omega]; omega
    · rw [show (k + 1) / 2 = k / 2 by omega]; omega
theorem ones_even1 (j k : Nat) (h : k % 2 = 0) : ones (j + 1) (k + 1) = ones (j + 1) k + 1 := by
  simp only [ones]
  rw [show (k + 1) / 2 = k / 2 by omega]; omega
theorem N_succ (n : Nat) : N n + 1 ≤ N (n + 1) := by
  have h1 := Pl.N_eq n
  have h2 := Pl.N_eq (n + 1)
  have h3 := ones_up1 64 n
  omega
theorem N_mono {a b : Nat} (h : a ≤ b) : N a ≤ N b := by
  induction b with
  | zero => obtain rfl : a = 0 := by omega
            exact Nat.le_refl _
  | succ b ih =>
    by_cases e : a = b + 1
    · rw [e]; exact Nat.le_refl _
    · exact Nat.le_trans (ih (by omega)) (Nat.le_trans (Nat.le_succ _) (N_succ b))
/-- A place below the row's end: all items of its block are there. -/
theorem blk_in {n p : Nat} (hn : n ≤ 65536) (hp : p < N n) : p ≤ most ∧ ((blk p).2 + 1) * 2 ^ (blk p).1 ≤ n := by
  have hN := Pl.N_eq n
  have hm : p ≤ most := by unfold most; omega
  obtain ⟨h1, h2, h3⟩ := Pl.blk_at p hm
  refine ⟨hm, Nat.le_of_not_lt fun hlt => ?_⟩
  have hb := Pl.may_mul h1 h2
  have := Pl.N_at (blk p).1 (blk p).2 (by omega)
  rw [h3] at this
  have h4 : N n ≤ N (((blk p).2 + 1) * pw (blk p).1 - 1) := N_mono (by
    have : ((blk p).2 + 1) * pw (blk p).1 = ((blk p).2 + 1) * 2 ^ (blk p).1 := rfl
    omega)
  omega
theorem blk_out {n p : Nat} (hn : n ≤ 65536) (hp : N n ≤ p) (hm : p ≤ most) : ¬ ((blk p).2 + 1) * 2 ^ (blk p).1 ≤ n := by
  intro hle
  obtain ⟨h1, h2, h3⟩ := Pl.blk_at p hm
  have hle2 : ((blk p).2 + 1) * pw (blk p).1 ≤ n := hle
  have e1 := Pl.N_fr (blk p).1 ((blk p).2 + 1) (by omega)
  have e2 := Pl.at_eq (blk p).1 (blk p).2
  have e3 := Pl.fr_eq (blk p).1 ((blk p).2 + 1)
  have e4 := ones_up1 64 (blk p).2
  have e5 := N_mono hle2
  rw [h3] at e2
  omega
theorem most_in {n : Nat} (hn : n ≤ 65536) : N n ≤ most := by
  have hN := Pl.N_eq n
  unfold most; omega
theorem N_next {n t : Nat} (hn : n < 65536) (ht : tr 64 (n + 1) = t) : N (n + 1) = N n + (t + 1) := by
  have t16 : t ≤ 16 := by rw [← ht]; exact tr_small (by omega) (by omega)
  obtain ⟨h1, h2⟩ := (tr_eq 64 t (n + 1) (by omega)).1 ht
  obtain ⟨q, hq⟩ := tr_div (j := t) ht (Nat.le_refl _)
  have hq2 : (n + 1) / 2 ^ t = q := last_at hq
  rw [hq2] at h2
  obtain ⟨k, rfl⟩ : ∃ k, q = k + 1 := ⟨q - 1, by omega⟩
  have hq3 : (k + 1) * pw t = n + 1 := by rw [hq, Nat.mul_comm]; rfl
  have e1 := Pl.N_at t k (by omega)
  have e2 := Pl.N_fr t (k + 1) (by omega)
  rw [hq3] at e1 e2
  have e3 := Pl.at_eq t k
  have e4 := Pl.fr_eq t (k + 1)
  have e5 : ones 64 (k + 1) = ones 64 k + 1 := ones_even1 63 k (by omega)
  rw [Nat.add_sub_cancel] at e1
  omega
theorem blk_new {n t j : Nat} (hn : n < 65536) (ht : tr 64 (n + 1) = t) (hj : j ≤ t) : blk (N n + j) = (j, (n + 1) / 2 ^ j - 1) := by
  have t16 : t ≤ 16 := by rw [← ht]; exact tr_small (by omega) (by omega)
  obtain ⟨q, hq⟩ := tr_div (j := j) ht hj
  have hq2 : (n + 1) / 2 ^ j = q := last_at hq
  have hq0 : q ≠ 0 := by rintro rfl; simp at hq
  obtain ⟨k, rfl⟩ : ∃ k, q = k + 1 := ⟨q - 1, by omega⟩
  have hq3 : (k + 1) * pw j = n + 1 := by rw [hq, Nat.mul_comm]; rfl
  have e1 := Pl.N_at j k (by omega)
  rw [hq3, Nat.add_sub_cancel] at e1
  rw [e1, hq2, Nat.add_sub_cancel]
  refine (Pl.at_blk j k (by omega) ?_).2
  have hp := Pl.pw_pos j
  have h1 : k + 1 ≤ (k + 1) * pw j := Nat.le_mul_of_pos_right _ hp
  have h2 : 2 ^ 24 ≤ pw (40 - j) := Nat.pow_le_pow_right (by decide) (by omega)
  omega
/-- The row of all nodes. -/
noncomputable def Rw (c : Nat) (M : List ByteArray) : List ByteArray := (List.range (N M.length)).map fun p => nd c M (blk p).1 (blk p).2
theorem Rw_len (c : Nat) (M : List ByteArray) : (Rw c M).length = N M.length := by simp [Rw]
theorem Rw_at (c : Nat) (M : List ByteArray) {p : Nat} (hp : p < N M.length) : (Rw c M).getD p ByteArray.empty = nd c M (blk p).1 (blk p).2 := by
  simp [Rw, List.getD_eq_getElem?_getD, hp]
theorem Rw_nil (c : Nat) : Rw c [] = [] := by simp [Rw, N, ones]
theorem Rw_size {c : Nat} (hc : c ≤ 32) (M : List ByteArray) : ∀ s ∈ Rw c M, s.size = c := by
  intro s hs
  obtain ⟨j, _, rfl⟩ := List.mem_map.1 hs
  exact nd_size hc _ _ _
theorem Rw_next (c : Nat) (M : List ByteArray) (x : ByteArray) (t : Nat) (hn : M.length < 65536) (ht : tr 64 (M.length + 1) = t) : Rw c (M ++ [x]) = Rw c M ++ nw c (M ++ [x]) t := by
  rw [Rw, List.length_append, List.length_singleton, N_next hn ht, List.range_add, List.map_append, List.map_map]
  have h1 : (List.range (N M.length)).map (fun p => nd c (M ++ [x]) (blk p).1 (blk p).2) = Rw c M :=
    List.map_congr_left fun p hp => nd_app c M [x] _ _ (blk_in (by omega) (List.mem_range.1 hp)).2
  have h2 : (List.range (t + 1)).map ((fun p => nd c (M ++ [x]) (blk p).1 (blk p).2) ∘ fun j => N M.length + j) = nw c (M ++ [x]) t := by
    rw [nw]
    refine List.map_congr_left fun j hj => ?_
    have := blk_new hn ht (j := j) (by have := List.mem_range.1 hj; omega)
    show nd c (M ++ [x]) (blk (N M.length + j)).1 (blk (N M.length + j)).2 = _
    rw [this, List.length_append, List.length_singleton]
  rw [h1, ← h2]
/-- The roots of all beginnings. -/
noncomputable def rts (c : Nat) (M : List ByteArray) : List (Nat × ByteArray) := (List.range (M.length + 1)).map fun i => (i, rtD c M i)
theorem rts_len (c : Nat) (M : List ByteArray) : (rts c M).length = M.length + 1 := by simp [rts]
theorem rts_at (c : Nat) (M : List ByteArray) {i : Nat} (hi : i < M.length + 1) : (rts c M)[i]? = some (i, rtD c M i) := by
  simp [rts, hi]
theorem rts_nil (c : Nat) : rts c [] = [(0, rtD c [] 0)] := by simp [rts, List.range_succ]
theorem rts_next (c : Nat) (M : List ByteArray) (x : ByteArray) : rts c (M ++ [x]) = rts c M ++ [(M.length + 1, rtD c (M ++ [x]) (M.length + 1))] := by
  rw [rts, List.length_append, List.length_singleton, List.range_succ, List.map_append]
  have h1 : (List.range (M.length + 1)).map (fun i => (i, rtD c (M ++ [x]) i)) = rts c M := List.map_congr_left fun i hi => by
    have := List.mem_range.1 hi
    rw [rtD, rtD, List.take_append_of_le_length (by omega)]
  rw [h1]
  rfl
/-- Roots as cells. -/
def cR : List (Nat × ByteArray) → List Value
  | [] => []
  | b :: r => .int .u64 (b.1 : Int) :: .string b.2 :: cR r
theorem cR_len (l : List (Nat × ByteArray)) : (cR l).length = l.length * 2 := by
  induction l with
  | nil => rfl
  | cons b r ih => simp [cR, ih]; omega
theorem cR_app (l m : List (Nat × ByteArray)) : cR (l ++ m) = cR l ++ cR m := by
  induction l with
  | nil => rfl
  | cons b r ih => simp [cR, ih]
theorem cR_one (l : List (Nat × ByteArray)) : ∀ u ∈ cR l, u.oneCell' = true := by
  induction l with
  | nil => intro u hu; cases hu
  | cons b r ih =>
    intro u hu
    simp [cR] at hu
    rcases hu with rfl | rfl | hu
    · rfl
    · rfl
    · exact ih u hu
theorem cR_get (l : List (Nat × ByteArray)) (j : Nat) (n : Nat) (d : ByteArray) (hj : l[j]? = some (n, d)) : (cR l)[2 * j]? = some (.int .u64 (n : Int)) ∧ (cR l)[2 * j + 1]? = some (.string d) := by
  induction l generalizing j with
  | nil => simp at hj
  | cons b r ih =>
    cases j with
    | zero => simp at hj; subst hj; exact ⟨rfl, rfl⟩
    | succ j =>
      have := ih j (by simpa using hj)
      rw [show 2 * (j + 1) = 2 * j + 1 + 1 by omega]
      simpa [cR] using this
abbrev OwnR (w : World) (base : Nat) (v : Value) (l : List (Nat × ByteArray)) : Prop := w.ownsRow base 37 2 v l.length (cR l)
theorem Tryd.infoR : (Tryd.prog.info? 37).map (fun i => (i.zero, i.size, i.bytes)) = some (some (.agg #[.int .u64 0, .string ByteArray.empty]), 2, 24) := by kernel_rfl
theorem rdc_root (w : World) (n : Nat) (d : ByteArray) (t : Nat) : Cv.RdC (w.alloc (.cells #[.int .u64 (n : Int), .string d] t)) (.slice (some ⟨w.heap.size, 0, none⟩) 1 1) [(n, d)].length (cR [(n, d)]) := by
  refine ⟨some ⟨w.heap.size, 0, none⟩, 1, rfl, (fun h => by cases h), fun ad ha j c hj => ?_⟩
  cases ha
  match j, hj with
  | 0, hj => simp [cR] at hj; subst hj; simp [Addr.add, World.cell?_alloc_at]
  | 1, hj => simp [cR] at hj; subst hj; simp [Addr.add, World.cell?_alloc_at]
/-- Texts appended to texts; what is changed. -/
theorem wpList_append_G (w : World) {ops : Array Oper} {rest : List Oper} {o : Oper} {a : Act} {Q : Exit → Act → World → Prop}
    (hg : o.guard = none) (s x : Operand) (hop : o.op = Op.call { callee := Callee.builtin Builtin.append, args := #[s, x], argTypes := #[22, 22] })
    (B : Nat) (v : Value) (L : List ByteArray) (hs : a.eval s = v) (hown : OwnS w B v L) (u : Value) (M : List ByteArray) (hx : a.eval x = u) (hr : Cv.RdC w u M.length (M.map Value.string))
    (hlen : L.length + M.length ≤ 1048576) (hB : B ≤ w.heap.size)
    (hK : ∀ v' w', OwnS w' B v' (L ++ M) → w.grownBy w' v.ownBlock → wpList Tryd.prog ops Q rest (a.put o.dst v') w') : wpList Tryd.prog ops Q (o :: rest) a w := by
  obtain ⟨i0, hi, hz0, hz1, hz2⟩ := info_parts Tryd.infoS
  refine Cv.wpList_append_ap w hg s x _ hop B 9 i0 (.string ByteArray.empty) 1 16 Tryd.underlying22 hi hz0 hz1 hz2 rfl (by decide) v L.length (L.map Value.string) hs hown u M.length (M.map Value.string) hx hr (by simp) (by intro u hu; obtain ⟨y, _, rfl⟩ := List.mem_map.1 hu; rfl) (by unfold maxLen; omega) (by omega) hB ?_
  intro v' w' h
  refine hK v' w' ?_ h.grown
  rw [OwnS, List.map_append, List.length_append]
  exact h.own
theorem row_keep {w w' : World} {B T s n : Nat} {x : Value} {cs : List Value} (h : w.ownsRow B T s x n cs) (hk : ∀ g, x.ownBlock = some g → w'.heap[g]? = w.heap[g]?) : w'.ownsRow B T s x n cs := by
  obtain ⟨h1, h2⟩ := h
  refine ⟨h1, ?_⟩
  rcases h2 with h2 | ⟨g, cap, cur, rfl, hg, hh, r⟩
  · exact .inl h2
  · exact .inr ⟨g, cap, cur, rfl, hg, (hk g rfl).trans hh, r⟩
/-- A list is untouched where another one of another kind grows. -/
theorem row_grown {w w' : World} {B T s n B' T' s' n' : Nat} {x y : Value} {cs cs' : List Value} (h : w.ownsRow B T s x n cs) (h2 : w.ownsRow B' T' s' y n' cs') (hT : T ≠ T') (hg : w.grownBy w' y.ownBlock) : w'.ownsRow B T s x n cs := by
  refine row_keep h fun g hx => ?_
  obtain ⟨_, cur, hh⟩ := own_block h hx
  refine hg.block g (Array.getElem?_eq_some_iff.1 hh).1 fun e => ?_
  obtain ⟨_, cur', hh'⟩ := own_block h2 e.symm
  rw [hh] at hh'
  injection hh' with hh'
  injection hh' with _ h3 _
  exact hT h3
theorem Frs.grown {w w' : World} {m B' T' s' n' : Nat} {k : Int} {L : List ByteArray} {y : Value} {cs' : List Value} (h : Frs w m k L) (h2 : w.ownsRow B' T' s' y n' cs') (hT : T' ≠ 78) (hg : w.grownBy w' y.ownBlock) : Frs w' m k L := by
  have hl := h.lt
  refine h.same (hg.block m (by omega) fun e => ?_) (hg.block (m + 1) hl fun e => ?_)
  · obtain ⟨_, cur', hh'⟩ := own_block h2 e.symm
    obtain ⟨es, c, hx, _⟩ := h.mp
    rw [hh'] at hx
    cases hx
  · obtain ⟨_, cur', hh'⟩ := own_block h2 e.symm
    have := h.blk
    rw [hh'] at this
    injection this with this
    injection this with _ h3 _
    exact hT h3
end Go.Proofs.YtdkcliblbaldhaaDoor
/-
  Lists of lists of texts of one's own, apart from one another. Own work.
-/
namespace Go.Proofs.YtdkcliblbaldhaaDoor.Mm
open Go.RowKit
attribute [local go_sem ↓] Go.wp_at_zero Go.wp_at_succ
theorem Tryd.infoV : (Tryd.prog.info? 22).map (fun i => (i.zero, i.size, i.bytes)) = some (some (.slice none 0 0), 1, 24) := by kernel_rfl
/-- A list of lists. -/
abbrev OwnV (w : World) (B : Nat) (v : Value) (vs : List Value) : Prop := w.ownsRow B 22 1 v vs.length vs
/-- Cells that can be read. -/
def RdC (w : World) (u : Value) (m : Nat) (news : List Value) : Prop :=
  ∃ ao cap, u = .slice ao m cap ∧ (ao = none → m = 0 ∧ cap = 0) ∧ ∀ ad, ao = some ad → ∀ j c, news[j]? = some c → w.cell? (ad.add j) = some c
/-- What an append leaves. -/
structure Ap (w w' : World) (B e size : Nat) (v v' : Value) (n : Nat) (xs : List Value) : Prop where
  own : w'.ownsRow B e size v' n xs
  grown : w.grownBy w' v.ownBlock
  fresh : v'.ownBlock = v.ownBlock ∨ ∀ g, v'.ownBlock = some g → w.heap.size ≤ g
theorem wpList_append_ap (w : World) {ops : Array Oper} {rest : List Oper} {o : Oper} {a : Act} {Q : Exit → Act → World → Prop}
    (hg : o.guard = none) (s x : Operand) (t : TypeId) (hop : o.op = Op.call { callee := Callee.builtin Builtin.append, args := #[s, x], argTypes := #[t, t] })
    (B : Nat) (e : TypeId) (i : TypeInfo) (z : Value) (size bytes : Nat) (h1 : Tryd.prog.underlying t = some (.slice e)) (h2 : Tryd.prog.info? e = some i) (h3 : i.zero = some z) (h4 : i.size = size) (h5 : i.bytes = bytes) (h6 : z.cells.size = size) (h7 : 0 < size)
    (v : Value) (n : Nat) (xs : List Value) (hs : a.eval s = v) (hown : w.ownsRow B e size v n xs) (u : Value) (m : Nat) (news : List Value) (hx : a.eval x = u) (hr : RdC w u m news) (hn : news.length = m * size) (h1c : ∀ u ∈ news, u.oneCell' = true)
    (b1 : n + m ≤ maxLen) (b2 : (n + m) * bytes ≤ 140737488355328) (hB : B ≤ w.heap.size)
    (hK : ∀ v' w', Ap w w' B e size v v' (n + m) (xs ++ news) → wpList Tryd.prog ops Q rest (a.put o.dst v') w') : wpList Tryd.prog ops Q (o :: rest) a w := by
  obtain ⟨ao, cap, rfl, hnone, hcells⟩ := hr
  cases ao with
  | none =>
    obtain ⟨rfl, rfl⟩ := hnone rfl
    have hnil : news = [] := List.length_eq_zero_iff.1 (by rw [hn]; omega)
    subst hnil
    exact wpList_append_own_none hg s x _ hop B e i size h1 h2 v n xs hs hown hx (hK _ w ⟨by simpa using hown, World.grownBy.refl w _, .inl rfl⟩)
  | some ad =>
    have hown0 := hown
    obtain ⟨g1, g2⟩ := hown
    rcases g2 with ⟨rfl, rfl⟩ | ⟨g, cp, cur, rfl, hgb, hh, hc⟩
    · have hxs : xs = [] := List.length_eq_zero_iff.1 (by omega)
      subst hxs
      refine wpList_append_own w hg s x _ hop w.heap.size e i z size bytes h1 h2 h3 h4 h5 h6 h7 _ 0 [] hs (World.ownsRow_nil _ _ _ _) ad m cap news hx hn (hcells ad rfl) h1c b1 b2 (Nat.le_refl _) ?_
      intro v' w' r1 r2 _
      exact hK v' w' ⟨r1.mono hB, r2, .inr fun k hk => (r1.lt k hk).1⟩
    · by_cases hfit : n + m ≤ cp
      · refine wpList_append_fits w hg s x _ hop B e i size h1 h2 h4 g n cp xs hs hown0 ad m cap news hx hn (hcells ad rfl) h1c hfit ?_
        intro w' r1 r2
        exact hK _ w' ⟨r1, r2, .inl rfl⟩
      · refine wpList_append_grows w hg s x _ hop e i z size bytes h1 h2 h3 h4 h5 h6 h7 (some ⟨g, 0, none⟩) n cp xs hs (fun h => by cases h) g1 (fun b hb => by cases hb; exact hown0.cells rfl) ad m cap news hx hn (hcells ad rfl) h1c (by omega) b1 b2 ?_
        intro v' w' r1 r2
        exact hK v' w' ⟨r1.mono hB, ⟨r2.os, r2.tape, r2.output, r2.size, fun k hk _ => r2.block k hk (by simp)⟩, .inr fun k hk => (r1.lt k hk).1⟩
theorem ownB_next {w w' : World} {B e size n : Nat} {v : Value} {l : List Value} (h : w.ownsRow B e size v n l) (hb : Below w.heap.size w w') : w'.ownsRow B e size v n l := by
  obtain ⟨h1, h2⟩ := h
  refine ⟨h1, ?_⟩
  rcases h2 with h2 | ⟨g, cap, cur, hv, hg, hh, h3⟩
  · exact .inl h2
  · exact .inr ⟨g, cap, cur, hv, hg, (hb.block g (by have := (Array.getElem?_eq_some_iff.1 hh).1; exact this)).trans hh, h3⟩
theorem ownB_step0 {B : Nat} {w wr w1 : World} {v : Value} {e size n : Nat} {xs : List Value} (hB : Below B w wr) (hs : B ≤ wr.heap.size) (hown : wr.ownsRow B e size v n xs) (hg : wr.grownBy w1 v.ownBlock) : Below B w w1 := hB.grown hg hs (fun j hj => (hown.lt j hj).1)
theorem own_of_block {w w' : World} {B e size n : Nat} {v : Value} {xs : List Value} (h : w.ownsRow B e size v n xs) (hb : ∀ g, v.ownBlock = some g → w'.heap[g]? = w.heap[g]?) : w'.ownsRow B e size v n xs := by
  obtain ⟨h1, h2⟩ := h
  refine ⟨h1, ?_⟩
  rcases h2 with h2 | ⟨g, cap, cur, hv, hg, hh, h3⟩
  · exact .inl h2
  · exact .inr ⟨g, cap, cur, hv, hg, by rw [hb g (by rw [hv]; rfl)]; exact hh, h3⟩
theorem own_slice {w : World} {B e size n : Nat} {v : Value} {xs : List Value} (h : w.ownsRow B e size v n xs) : ∃ ao m c, v = .slice ao m c := by
  rcases h.2 with ⟨hv, _⟩ | ⟨g, cap, cur, hv, _⟩
  · exact ⟨none, 0, 0, hv⟩
  · exact ⟨_, _, _, hv⟩
theorem ty_ne {w : World} {B e s n B' e' s' n' : Nat} {u v : Value} {xs xs' : List Value} (h : w.ownsRow B e s u n xs) (hv : w.ownsRow B' e' s' v n' xs') (hne : e ≠ e') : u.ownBlock = none ∨ u.ownBlock ≠ v.ownBlock := by
  rcases h.2 with ⟨rfl, _⟩ | ⟨g, cap, cur, rfl, _, hg, _⟩
  · exact .inl rfl
  · refine .inr (fun he => ?_)
    rcases hv.2 with ⟨rfl, _⟩ | ⟨g', cap', cur', rfl, _, hg', _⟩
    · cases he
    · have : g = g' := by simpa [Value.ownBlock] using he
      subst this
      rw [hg] at hg'
      injection hg' with h1
      injection h1 with _ h2 _
      exact hne h2
theorem kept_ty {w w' : World} {B e s n B' e' s' n' : Nat} {u v : Value} {xs xs' : List Value} (h : w.ownsRow B e s u n xs) (hv : w.ownsRow B' e' s' v n' xs') (hne : e ≠ e') (hg : w.grownBy w' v.ownBlock) : w'.ownsRow B e s u n xs := h.kept hg (ty_ne h hv hne)
theorem wpList_append_V (w : World) {ops : Array Oper} {rest : List Oper} {o : Oper} {a : Act} {Q : Exit → Act → World → Prop}
    (hg : o.guard = none) (s x : Operand) (hop : o.op = Op.call { callee := Callee.builtin Builtin.append, args := #[s, x], argTypes := #[94, 94] })
    (B : Nat) (v : Value) (L : List Value) (hs : a.eval s = v) (hown : OwnV w B v L) (u : Value) (M : List Value) (hx : a.eval x = u) (hr : RdC w u M.length M) (h1c : ∀ u ∈ M, u.oneCell' = true)
    (hlen : L.length + M.length ≤ 1048576) (hB : B ≤ w.heap.size)
    (hK : ∀ v' w', OwnV w' B v' (L ++ M) → w.grownBy w' v.ownBlock → (v'.ownBlock = v.ownBlock ∨ ∀ g, v'.ownBlock = some g → w.heap.size ≤ g) → wpList Tryd.prog ops Q rest (a.put o.dst v') w') : wpList Tryd.prog ops Q (o :: rest) a w := by
  obtain ⟨i0, hi, hz0, hz1, hz2⟩ := info_parts Tryd.infoV
  refine wpList_append_ap w hg s x _ hop B 22 i0 (.slice none 0 0) 1 24 Tryd.underlying94 hi hz0 hz1 hz2 rfl (by decide) v L.length L hs hown u M.length M hx hr (by simp) h1c (by unfold maxLen; omega) (by omega) hB ?_
  intro v' w' h
  refine hK v' w' ?_ h.grown h.fresh
  rw [OwnV, List.length_append]
  exact h.own
theorem rdc_vals (w : World) (cs : Array Value) (t : Nat) : RdC (w.alloc (.cells cs t)) (.slice (some ⟨w.heap.size, 0, none⟩) cs.size cs.size) cs.toList.length cs.toList := by
  refine ⟨some ⟨w.heap.size, 0, none⟩, cs.size, by rw [Array.length_toList], (fun h => by cases h), fun ad ha j c hj => ?_⟩
  cases ha
  rw [Addr.add_mid, Nat.zero_add, World.cell?_alloc_at cs t w.heap.size j rfl]
  simpa using hj
/-- No list at all. -/
abbrev dv : Value := .slice none 0 0
def Apart (v u : Value) : Prop := ∀ k, v.ownBlock = some k → u.ownBlock = some k → False
theorem Apart.symm {v u : Value} (h : Apart v u) : Apart u v := fun k h1 h2 => h k h2 h1
theorem owns_lt {w : World} {B : Nat} {v : Value} {l : List ByteArray} (h : OwnS w B v l) : ∀ k, v.ownBlock = some k → B ≤ k ∧ k < w.heap.size := World.ownsRow.lt h
theorem owns_step {w w' : World} {B : Nat} {v : Value} {l : List ByteArray} (h : OwnS w B v l) (hb : Below w.heap.size w w') : OwnS w' B v l := ownB_next h hb
/-- Lists of texts, apart from one another. -/
structure Fam (w : World) (B : Nat) (vs : List Value) (Ls : List (List ByteArray)) : Prop where
  len : vs.length = Ls.length
  own : ∀ i, i < vs.length → OwnS w B (vs.getD i dv) (Ls.getD i [])
  dj : ∀ i j, i < vs.length → j < vs.length → i ≠ j → Apart (vs.getD i dv) (vs.getD j dv)
theorem fam_nil (w : World) (B : Nat) : Fam w B [] [] := ⟨rfl, fun i hi => absurd hi (Nat.not_lt_zero i), fun i _ hi => absurd hi (Nat.not_lt_zero i)⟩
theorem fam_next {w w' : World} {B : Nat} {vs : List Value} {Ls : List (List ByteArray)} (h : Fam w B vs Ls) (hb : Below w.heap.size w w') : Fam w' B vs Ls := ⟨h.len, fun i hi => owns_step (h.own i hi) hb, h.dj⟩
theorem fam_ty {w w' : World} {B B' e s n : Nat} {v : Value} {xs : List Value} {vs : List Value} {Ls : List (List ByteArray)} (h : Fam w B vs Ls) (hv : w.ownsRow B' e s v n xs) (hne : 9 ≠ e) (hg : w.grownBy w' v.ownBlock) : Fam w' B vs Ls :=
  ⟨h.len, fun i hi => kept_ty (h.own i hi) hv hne hg, h.dj⟩
theorem getD_snoc {α : Type} (d : α) (l : List α) (x : α) (i : Nat) : (l ++ [x]).getD i d = if i < l.length then l.getD i d else if i = l.length then x else d := by
  by_cases h : i < l.length
  · rw [if_pos h, List.getD_eq_getElem?_getD, List.getElem?_append_left h, ← List.getD_eq_getElem?_getD]
  · rw [if_neg h]
    by_cases h2 : i = l.length
    · rw [if_pos h2, h2, List.getD_eq_getElem?_getD]; simp
    · rw [if_neg h2, List.getD_eq_getElem?_getD, List.getElem?_eq_none (by simp; omega)]; rfl
theorem fam_new {w w' : World} {B : Nat} {vs : List Value} {Ls : List (List ByteArray)} {v : Value} {L : List ByteArray} (h : Fam w B vs Ls) (hB : B ≤ w.heap.size) (hb : Below w.heap.size w w') (ho : OwnS w' w.heap.size v L) : Fam w' B (vs ++ [v]) (Ls ++ [L]) := by
  refine ⟨by simp [h.len], fun i hi => ?_, fun i j hi hj hne => ?_⟩
  · rw [getD_snoc, getD_snoc, ← h.len]
    by_cases h1 : i < vs.length
    · rw [if_pos h1, if_pos h1]; exact owns_step (h.own i h1) hb
    · have h2 : i = vs.length := by simp at hi; omega
      rw [if_neg h1, if_neg h1, if_pos h2, if_pos h2]; exact World.ownsRow.mono ho hB
  · simp at hi hj
    rw [getD_snoc, getD_snoc]
    by_cases h1 : i < vs.length
    · rw [if_pos h1]
      by_cases h2 : j < vs.length
      · rw [if_pos h2]; exact h.dj i j h1 h2 hne
      · rw [if_neg h2, if_pos (by omega)]
        intro k k1 k2
        have a1 := (owns_lt (h.own i h1) k k1).2
        have a2 := (owns_lt ho k k2).1
        omega
    · rw [if_neg h1, if_pos (show i = vs.length by omega), if_pos (show j < vs.length by omega)]
      intro k k1 k2
      have a1 := (owns_lt (h.own j (by omega)) k k2).2
      have a2 := (owns_lt ho k k1).1
      omega
theorem fam_two {w w1 w2 : World} {B : Nat} {vs : List Value} {Ls : List (List ByteArray)} {v1 v2 : Value} {L1 L2 : List ByteArray} (h : Fam w B vs Ls) (hB : B ≤ w.heap.size) (b1 : Below w.heap.size w w1) (o1 : OwnS w1 w.heap.size v1 L1) (b2 : Below w1.heap.size w1 w2) (o2 : OwnS w2 w1.heap.size v2 L2) : Fam w2 B (vs ++ [v1, v2]) (Ls ++ [L1, L2]) := by
  have f1 := fam_new h hB b1 o1
  have f2 := fam_new f1 (Nat.le_trans hB b1.size) b2 o2
  simpa using f2
theorem getD_set {α : Type} (d : α) (l : List α) (i j : Nat) (x : α) (hi : i < l.length) : (l.set i x).getD j d = if j = i then x else l.getD j d := by
  rw [List.getD_eq_getElem?_getD, List.getElem?_set]
  by_cases h : i = j
  · subst h; simp [hi]
  · rw [if_neg h, if_neg (fun e => h e.symm), ← List.getD_eq_getElem?_getD]
/-- One of them is written to. -/
theorem fam_set {w w' : World} {B : Nat} {vs : List Value} {Ls : List (List ByteArray)} {i : Nat} {L : List ByteArray} (h : Fam w B vs Ls) (hi : i < vs.length) (ho : OwnS w' B (vs.getD i dv) L) (hk : ∀ b, (vs.getD i dv).ownBlock ≠ some b → w'.heap[b]? = w.heap[b]?) : Fam w' B vs (Ls.set i L) := by
  refine ⟨by simp [h.len], fun j hj => ?_, h.dj⟩
  rw [getD_set _ _ _ _ _ (by rw [← h.len]; exact hi)]
  by_cases e : j = i
  · rw [if_pos e, e]; exact ho
  · rw [if_neg e]
    exact own_of_block (h.own j hj) (fun g hg => hk g (fun e2 => h.dj j i hj hi e g hg e2))
/-- A text written into a list of one's own. -/
theorem ownS_set {w : World} {B g n cap j : Nat} {l : List ByteArray} (h : OwnS w B (.slice (some ⟨g, 0, none⟩) n cap) l) (x : ByteArray) : OwnS (w.setCell ⟨g, j, none⟩ (.string x)) B (.slice (some ⟨g, 0, none⟩) n cap) (l.set j x) := by
  obtain ⟨h1, h2⟩ := h
  refine ⟨by simp, .inr ?_⟩
  rcases h2 with ⟨h2, h3⟩ | ⟨g', cap', cur, hv, hg, hh, h3, h4, h5, h6⟩
  · cases h2
  · obtain ⟨e1, e2, e3⟩ := Value.slice.inj hv
    cases e1
    have s1 : (w.setCell ⟨g, j, none⟩ (.string x)).heap[g]? = _ := heap_setCell_same w g j cur _ _ hh
    refine ⟨g, cap, _, by rw [e2]; simp, hg, s1, by simpa [e3] using h3, by omega, by simpa [e3] using h5, ?_⟩
    rw [List.map_set, ← h6, List.length_set, Array.toList_setIfInBounds, List.take_set]
theorem ownV_cell {w : World} {B i : Nat} {v : Value} {vs : List Value} (h : OwnV w B v vs) (hi : i < vs.length) : ∃ g cap, v = .slice (some ⟨g, 0, none⟩) vs.length cap ∧ w.cell? ⟨g, i, none⟩ = some (vs.getD i dv) := by
  rcases h.2 with ⟨_, h2⟩ | ⟨g, cap, cur, rfl, hg, hh, hc⟩
  · omega
  · refine ⟨g, cap, rfl, ?_⟩
    have := h.cells (g := g) rfl i (vs.getD i dv) (by rw [List.getD_eq_getElem?_getD, List.getElem?_eq_getElem hi]; rfl)
    rw [Addr.add_mid, Nat.zero_add] at this
    exact this
theorem ownV_cells {w : World} {B g n cap : Nat} {vs : List Value} (h : OwnV w B (.slice (some ⟨g, 0, none⟩) n cap) vs) (i : Nat) (hi : i < vs.length) : w.cell? ⟨g, i, none⟩ = some (vs.getD i dv) := by
  obtain ⟨g', c', e', h'⟩ := ownV_cell h hi
  obtain ⟨e1, _, _⟩ := Value.slice.inj e'
  cases e1; exact h'
theorem ownS_len {w : World} {B n cap : Nat} {ao : Option Addr} {l : List ByteArray} (h : OwnS w B (.slice ao n cap) l) : l.length = n := by
  rcases h.2 with ⟨hv, h0⟩ | ⟨g, cp, cur, hv, _⟩
  · obtain ⟨_, e2, _⟩ := Value.slice.inj hv; omega
  · obtain ⟨_, e2, _⟩ := Value.slice.inj hv; exact e2.symm
theorem ownS_some {w : World} {B n cap : Nat} {ao : Option Addr} {l : List ByteArray} (h : OwnS w B (.slice ao n cap) l) (hl : 0 < l.length) : ∃ g, ao = some ⟨g, 0, none⟩ := by
  obtain ⟨g, cp, hv, _⟩ := own_form h hl
  obtain ⟨e1, _, _⟩ := Value.slice.inj hv
  exact ⟨g, e1⟩
/-- One text appended to a list of one's own: where it went. -/
theorem wpList_append_K (w : World) {ops : Array Oper} {rest : List Oper} {o : Oper} {a : Act} {Q : Exit → Act → World → Prop}
    (hg : o.guard = none) (s x : Operand) (hop : o.op = Op.call { callee := Callee.builtin Builtin.append, args := #[s, x], argTypes := #[22, 22] })
    (B : Nat) (v : Value) (L : List ByteArray) (hs : a.eval s = v) (hown : OwnS w B v L) (ad : Addr) (mc : Nat) (c : ByteArray) (hx : a.eval x = .slice (some ad) 1 mc) (hr : RdC w (.slice (some ad) 1 mc) 1 [.string c])
    (hlen : L.length + 1 ≤ 1048576) (hB : B ≤ w.heap.size)
    (hK : ∀ v' w', OwnS w' B v' (L ++ [c]) → ((∃ g n cap, v = .slice (some ⟨g, 0, none⟩) n cap ∧ v' = .slice (some ⟨g, 0, none⟩) (n + 1) cap ∧ w.grownBy w' (some g)) ∨ (w.grownBy w' none ∧ ∀ g, v'.ownBlock = some g → w.heap.size ≤ g)) → wpList Tryd.prog ops Q rest (a.put o.dst v') w') : wpList Tryd.prog ops Q (o :: rest) a w := by
  obtain ⟨i0, hi, hz0, hz1, hz2⟩ := info_parts Tryd.infoS
  obtain ⟨ao, cap, he, _, hcells⟩ := hr
  obtain ⟨rfl, _, rfl⟩ := Value.slice.inj he
  have hap : ∀ {w' : World} {v' : Value} {n : Nat}, n = L.length + 1 → w'.ownsRow B 9 1 v' n (L.map Value.string ++ [.string c]) → OwnS w' B v' (L ++ [c]) := fun hn h => by
    rw [OwnS, List.map_append, List.length_append, List.length_cons, List.length_nil, Nat.zero_add, ← hn]; exact h
  have h1c : ∀ u ∈ ([.string c] : List Value), u.oneCell' = true := by intro u hu; simp at hu; subst hu; rfl
  have hown0 := hown
  rcases hown.2 with ⟨rfl, h0⟩ | ⟨g, cp, cur, rfl, hgb, hh, hc⟩
  · have hL : L = [] := List.length_eq_zero_iff.1 h0
    subst hL
    refine wpList_append_own w hg s x _ hop w.heap.size 9 i0 (.string ByteArray.empty) 1 16 Tryd.underlying22 hi hz0 hz1 hz2 rfl (by decide) _ 0 [] hs (World.ownsRow_nil _ _ _ _) ad 1 mc [.string c] hx rfl (hcells ad rfl) h1c (by decide) (by decide) (Nat.le_refl _) ?_
    intro v' w' r1 r2 _
    exact hK v' w' (hap rfl (by simpa using r1.mono hB)) (.inr ⟨r2, fun k hk => (r1.lt k hk).1⟩)
  · by_cases hfit : L.length + 1 ≤ cp
    · refine wpList_append_fits w hg s x _ hop B 9 i0 1 Tryd.underlying22 hi hz1 g L.length cp (L.map Value.string) hs hown0 ad 1 mc [.string c] hx rfl (hcells ad rfl) h1c hfit ?_
      intro w' r1 r2
      exact hK _ w' (hap rfl r1) (.inl ⟨g, L.length, cp, rfl, rfl, r2⟩)
    · refine wpList_append_grows w hg s x _ hop 9 i0 (.string ByteArray.empty) 1 16 Tryd.underlying22 hi hz0 hz1 hz2 rfl (by decide) (some ⟨g, 0, none⟩) L.length cp (L.map Value.string) hs (fun h => by cases h) hown0.1 (fun b hb => by cases hb; exact World.ownsRow.cells hown0 rfl) ad 1 mc [.string c] hx rfl (hcells ad rfl) h1c (by omega) (by unfold maxLen; omega) (by omega) ?_
      intro v' w' r1 r2
      exact hK v' w' (hap rfl (r1.mono hB)) (.inr ⟨r2, fun k hk => (r1.lt k hk).1⟩)
/-- A list that another one goes on from stays. -/
theorem ownS_head {w w' : World} {B B1 B2 g n0 cap0 n cap n' : Nat} {l X r : List ByteArray} (hu : OwnS w B (.slice (some ⟨g, 0, none⟩) n0 cap0) l) (hx : OwnS w B1 (.slice (some ⟨g, 0, none⟩) n cap) X) (hx' : OwnS w' B2 (.slice (some ⟨g, 0, none⟩) n' cap) (l ++ r)) : OwnS w' B (.slice (some ⟨g, 0, none⟩) n0 cap0) l := by
  obtain ⟨h1, h2⟩ := hu
  rcases h2 with ⟨h2, _⟩ | ⟨g1, c1, cur1, hv1, hg1, hh1, a1, a2, a3, a4⟩
  · cases h2
  rcases hx.2 with ⟨h3, _⟩ | ⟨g2, c2, cur2, hv2, hg2, hh2, b1, b2, b3, b4⟩
  · cases h3
  rcases hx'.2 with ⟨h4, _⟩ | ⟨g3, c3, cur3, hv3, hg3, hh3, d1, d2, d3, d4⟩
  · cases h4
  obtain ⟨e1, e2, e3⟩ := Value.slice.inj hv1
  obtain ⟨f1, f2, f3⟩ := Value.slice.inj hv2
  obtain ⟨i1, i2, i3⟩ := Value.slice.inj hv3
  cases e1; cases f1; cases i1
  rw [hh1] at hh2
  cases hh2
  refine ⟨h1, .inr ⟨g, c1, cur3, hv1, hg1, hh3, a1, a2, by rw [d3, ← i3, f3, ← b3, a3], ?_⟩⟩
  have h5 : l.map Value.string = ((l ++ r).map Value.string).take (l.length * 1) := by rw [List.map_append, ← h1, List.take_left]
  rw [h5, ← d4, List.take_take]
  congr 1
  simp
/-- The mark of list k. -/
def mkT (k : Nat) : ByteArray := strB [33, (k : Int), 0]
theorem mkT_size (k : Nat) : (mkT k).size = 3 := by rw [mkT, strB_size]; rfl
theorem conv_mark (w : World) (k : Nat) : (convert 51 9 (.slice (some ⟨w.heap.size, 0, none⟩) 3 3)).run Tryd.prog (w.alloc (.cells #[.int .u8 33, .int .u8 (k : Int), .int .u8 0] 5)) = .ok (.string (mkT k)) (w.alloc (.cells #[.int .u8 33, .int .u8 (k : Int), .int .u8 0] 5)) :=
  conv_str _ _ [33, (k : Int), 0] 3 rfl (range_new w (cB [33, (k : Int), 0]) 5)
theorem set_getD_self {α : Type} (d : α) (l : List α) (i : Nat) : l.set i (l.getD i d) = l := by
  apply List.ext_getElem?
  intro j
  rw [List.getElem?_set]
  by_cases h : i = j
  · subst h
    by_cases hl : i < l.length
    · simp [hl]
    · simp [hl]
  · simp [h]
theorem mark_set (R : List ByteArray) (j : Nat) (x : ByteArray) (h : j < R.length) : (List.replicate j x ++ R.drop j).set j x = List.replicate (j + 1) x ++ R.drop (j + 1) := by
  rw [List.set_append_right _ _ (by simp), List.length_replicate, Nat.sub_self, List.drop_eq_getElem_cons h, List.set_cons_zero, List.replicate_succ', List.append_assoc]; rfl
/-- All lists, in a list. -/
structure P3 (w wr : World) (vs : List Value) (Qs : List (List ByteArray)) (vA : Value) : Prop where
  fam : Fam wr w.heap.size vs Qs
  all : OwnV wr w.heap.size vA vs
  below : Below w.heap.size w wr
theorem P3.next {w wr w' : World} {vs : List Value} {Qs : List (List ByteArray)} {vA : Value} (h : P3 w wr vs Qs vA) (hb : Below wr.heap.size wr w') : P3 w w' vs Qs vA := ⟨fam_next h.fam hb, ownB_next h.all hb, bnext h.below hb⟩
theorem store_keep {w : World} {B e s n B' g m cap x : Nat} {u p : Value} {xs : List Value} {L : List ByteArray} (h : w.ownsRow B e s u n xs) (hv : OwnS w B' (.slice (some ⟨g, 0, none⟩) m cap) L) (hne : e ≠ 9) : (w.setCell ⟨g, x, none⟩ p).ownsRow B e s u n xs := by
  refine own_of_block h (fun b hb => ?_)
  have hbg : b ≠ g := fun e2 => by
    rcases ty_ne h hv hne with h1 | h1
    · rw [h1] at hb; cases hb
    · exact h1 (by rw [hb, e2]; rfl)
  rw [Below.heap_setCell _ _ _ _ hbg]
theorem P3.store {w wr : World} {vs : List Value} {Qs : List (List ByteArray)} {vA : Value} (h : P3 w wr vs Qs vA) (i : Nat) (hi : i < vs.length) (g m cap : Nat) (hu : vs.getD i dv = .slice (some ⟨g, 0, none⟩) m cap) (j : Nat) (x : ByteArray) :
    P3 w (wr.setCell ⟨g, j, none⟩ (.string x)) vs (Qs.set i ((Qs.getD i []).set j x)) vA := by
  have hol := h.fam.own i hi
  rw [hu] at hol
  have ho := ownS_set (j := j) hol x
  have hgB := (owns_lt hol g rfl).1
  have hf := fam_set (i := i) (L := (Qs.getD i []).set j x) h.fam hi (by rw [hu]; exact ho) (fun b hb => by
    rw [hu] at hb
    have hbg : b ≠ g := fun e => hb (by rw [e]; rfl)
    rw [Below.heap_setCell _ _ _ _ hbg])
  exact ⟨hf, store_keep h.all hol (by decide), h.below.setCell hgB _⟩
/-- The first i lists are marks. -/
def Mk (N i : Nat) (Qs Ls : List (List ByteArray)) : Prop := Qs.length = N ∧ ∀ k, k < N → Qs.getD k [] = if k < i then List.replicate (Ls.getD k []).length (mkT k) else Ls.getD k []
theorem mk_next {N i : Nat} {Qs Ls : List (List ByteArray)} {m : Nat} (h : Mk N i Qs Ls) (hi : i + 1 ≤ N) (hm : (Ls.getD i []).length = m) : Mk N (i + 1) (Qs.set i (List.replicate m (mkT i))) Ls := by
  refine ⟨by rw [List.length_set]; exact h.1, fun k hk => ?_⟩
  rw [getD_set _ _ _ _ _ (by rw [h.1]; omega)]
  by_cases e : k = i
  · subst e; rw [if_pos rfl, if_pos (by omega), hm]
  · rw [if_neg e, h.2 k hk]
    by_cases e2 : k < i
    · rw [if_pos e2, if_pos (by omega)]
    · rw [if_neg e2, if_neg (by omega)]
/-- The marks of list k, e more of them. -/
def mkE (Ls : List (List ByteArray)) (k e : Nat) : List ByteArray := List.replicate ((Ls.getD k []).length + e) (mkT k)
theorem mkE_len (Ls : List (List ByteArray)) (k e : Nat) : (mkE Ls k e).length = (Ls.getD k []).length + e := List.length_replicate
theorem mkE_get (Ls : List (List ByteArray)) (k e j : Nat) (h : j < (Ls.getD k []).length + e) : (mkE Ls k e).getD j ByteArray.empty = mkT k := by
  rw [mkE, List.getD_eq_getElem?_getD, List.getElem?_replicate, if_pos h]; rfl
theorem mkE_succ (Ls : List (List ByteArray)) (k e : Nat) : mkE Ls k (e + 1) = mkE Ls k e ++ [mkT k] := by rw [mkE, ← Nat.add_assoc, List.replicate_succ']; rfl
theorem mkE_head (Ls : List (List ByteArray)) (k e : Nat) : ∃ r, mkE Ls k e = mkE Ls k 0 ++ r := ⟨List.replicate e _, by rw [mkE, mkE, Nat.add_zero, List.replicate_append_replicate]⟩
structure P4 (w wr : World) (N : Nat) (vs ms : List Value) (Ls : List (List ByteArray)) (vA vM : Value) (i : Nat) : Prop where
  A : ∀ k, k < N → OwnS wr w.heap.size (vs.getD k dv) (mkE Ls k 0)
  Mm : ∀ k, k < i → OwnS wr w.heap.size (ms.getD k dv) (mkE Ls k 12)
  dMV : ∀ k, k < i → ∀ j, j < N → j ≠ k → Apart (ms.getD k dv) (vs.getD j dv)
  all : OwnV wr w.heap.size vA vs
  more : OwnV wr w.heap.size vM ms
  nA : vA.ownBlock = none ∨ vA.ownBlock ≠ vM.ownBlock
  below : Below w.heap.size w wr
  ml : ms.length = i
structure P5 (w wr : World) (N : Nat) (vs ms : List Value) (Ls : List (List ByteArray)) (vA vM : Value) (i t : Nat) (x : Value) : Prop where
  p : P4 w wr N vs ms Ls vA vM i
  X : OwnS wr w.heap.size x (mkE Ls i t)
  dX : ∀ k, k < N → k ≠ i → Apart (vs.getD k dv) x
  dM : ∀ k, k < i → Apart (ms.getD k dv) x
variable {w wr : World} {N : Nat} {vs ms : List Value} {Ls : List (List ByteArray)} {vA vM : Value} {i t : Nat} {x : Value}
theorem P4.next (h : P4 w wr N vs ms Ls vA vM i) {w' : World} (hb : Below wr.heap.size wr w') : P4 w w' N vs ms Ls vA vM i :=
  ⟨fun k hk => owns_step (h.A k hk) hb, fun k hk => owns_step (h.Mm k hk) hb, h.dMV, ownB_next h.all hb, ownB_next h.more hb, h.nA, bnext h.below hb, h.ml⟩
theorem P5.next (h : P5 w wr N vs ms Ls vA vM i t x) {w' : World} (hb : Below wr.heap.size wr w') : P5 w w' N vs ms Ls vA vM i t x := ⟨h.p.next hb, owns_step h.X hb, h.dX, h.dM⟩
theorem P4.start (h : P4 w wr N vs ms Ls vA vM i) (hi : i < N) (dVV : ∀ k j, k < N → j < N → k ≠ j → Apart (vs.getD k dv) (vs.getD j dv)) : P5 w wr N vs ms Ls vA vM i 0 (vs.getD i dv) :=
  ⟨h, h.A i hi, fun k hk hne => dVV k i hk hi hne, fun k hk => h.dMV k hk i hi (by omega)⟩
theorem kept_apart {w' : World} {B g : Nat} {u y : Value} {L : List ByteArray} (h : OwnS wr B u L) (ha : Apart u y) (hy : y.ownBlock = some g) (hg : wr.grownBy w' (some g)) : OwnS w' B u L := World.ownsRow.kept h hg (.inr (fun e => ha g e hy))
theorem P5.app (h : P5 w wr N vs ms Ls vA vM i t x) {w1 : World} {x' : Value} (r1 : OwnS w1 w.heap.size x' (mkE Ls i t ++ [mkT i]))
    (r2 : (∃ g n cap, x = .slice (some ⟨g, 0, none⟩) n cap ∧ x' = .slice (some ⟨g, 0, none⟩) (n + 1) cap ∧ wr.grownBy w1 (some g)) ∨ (wr.grownBy w1 none ∧ ∀ g, x'.ownBlock = some g → wr.heap.size ≤ g)) : P5 w w1 N vs ms Ls vA vM i (t + 1) x' := by
  rw [← mkE_succ] at r1
  rcases r2 with ⟨g, n, cap, rfl, rfl, hg⟩ | ⟨hg, hf⟩
  · have hX := h.X
    refine ⟨⟨fun k hk => ?_, fun k hk => kept_apart (h.p.Mm k hk) (h.dM k hk) rfl hg, h.p.dMV, kept_ty h.p.all hX (by decide) hg, kept_ty h.p.more hX (by decide) hg, h.p.nA, ownB_step0 h.p.below h.p.below.size hX hg, h.p.ml⟩, r1, fun k hk hne => h.dX k hk hne, h.dM⟩
    by_cases e : k = i
    · subst e
      have hA := h.p.A k hk
      by_cases e2 : (vs.getD k dv).ownBlock = some g
      · obtain ⟨ao, n0, c0, hv⟩ := own_slice hA
        rw [hv] at hA e2 ⊢
        obtain ⟨g0, hg0⟩ : ∃ g0, ao = some g0 := by
          cases ao with
          | none => cases e2
          | some g0 => exact ⟨g0, rfl⟩
        subst hg0
        rcases hA.2 with ⟨h4, _⟩ | ⟨g3, c3, cur3, hv3, _⟩
        · cases h4
        obtain ⟨i1, i2, i3⟩ := Value.slice.inj hv3
        cases i1
        have : g3 = g := by simpa [Value.ownBlock] using e2
        subst this
        obtain ⟨r, hr⟩ := mkE_head Ls k (t + 1)
        rw [hr] at r1
        exact ownS_head hA hX r1
      · exact World.ownsRow.kept hA hg (.inr e2)
    · exact kept_apart (h.p.A k hk) (h.dX k hk e) rfl hg
  · have hb : Below wr.heap.size wr w1 := (Below.refl _ _).grown hg (Nat.le_refl _) (fun j hj => by cases hj)
    have far : ∀ {u : Value} {L : List ByteArray}, OwnS wr w.heap.size u L → Apart u x' := fun ho k k1 k2 => by
      have a1 := (owns_lt ho k k1).2
      have a2 := hf k k2
      omega
    exact ⟨h.p.next hb, r1, fun k hk _ => far (h.p.A k hk), fun k hk => far (h.p.Mm k hk)⟩
theorem P5.push (h : P5 w wr N vs ms Ls vA vM i 12 x) {w1 : World} {vM' : Value} (r1 : OwnV w1 w.heap.size vM' (ms ++ [x])) (r2 : wr.grownBy w1 vM.ownBlock) (r3 : vM'.ownBlock = vM.ownBlock ∨ ∀ g, vM'.ownBlock = some g → wr.heap.size ≤ g) : P4 w w1 N vs (ms ++ [x]) Ls vA vM' (i + 1) := by
  have hm := h.p.more
  have hml := h.p.ml
  have key : ∀ {u : Value} {B n : Nat} {xs : List Value}, wr.ownsRow B 22 1 u n xs → (u.ownBlock = none ∨ u.ownBlock ≠ vM.ownBlock) → (u.ownBlock = none ∨ u.ownBlock ≠ vM'.ownBlock) := fun {u B n xs} ho hn => by
    rcases r3 with e | e
    · rw [e]; exact hn
    · cases hu : u.ownBlock with
      | none => exact .inl rfl
      | some g =>
        refine .inr (fun h2 => ?_)
        have a1 := (ho.lt g hu).2
        have a2 := e g h2.symm
        omega
  refine ⟨fun k hk => kept_ty (h.p.A k hk) hm (by decide) r2, fun k hk => ?_, fun k hk j hj hne => ?_, h.p.all.kept r2 h.p.nA, r1, key h.p.all h.p.nA, ownB_step0 h.p.below h.p.below.size hm r2, by simp [hml]⟩
  · rw [getD_snoc, hml]
    by_cases e : k < i
    · rw [if_pos e]; exact kept_ty (h.p.Mm k e) hm (by decide) r2
    · have e2 : k = i := by omega
      rw [if_neg e, if_pos e2, e2]; exact kept_ty h.X hm (by decide) r2
  · rw [getD_snoc, hml]
    by_cases e : k < i
    · rw [if_pos e]; exact h.p.dMV k e j hj hne
    · have e2 : k = i := by omega
      rw [if_neg e, if_pos e2]; exact (h.dX j hj (by omega)).symm

end Go.Proofs.YtdkcliblbaldhaaDoor.Mm
/-
  The reference's forest in memory: levels of texts, each of one's own. Own work.
-/
namespace Go.Proofs.YtdkcliblbaldhaaDoor
open Go.RowKit
open Mm (Fam OwnV dv Apart)
/-- A forest's levels: where it lies (q), where the list of levels lies (gA), the levels' lists (vs). -/
structure Lv (w : World) (B q : Nat) (K : Int) (gA cA : Nat) (vs : List Value) (Ls : List (List ByteArray)) : Prop where
  blk : w.heap[q]? = some (.cells #[.int .i64 K, .slice (some ⟨gA, 0, none⟩) vs.length cA] 96 (0, 0))
  all : OwnV w B (.slice (some ⟨gA, 0, none⟩) vs.length cA) vs
  fam : Fam w B vs Ls
  bq : B ≤ q
/-- The blocks that it holds. -/
def Foot (q gA : Nat) (vs : List Value) (b : Nat) : Prop := b = q ∨ b = gA ∨ ∃ i, i < vs.length ∧ (vs.getD i dv).ownBlock = some b
/-- Nothing but these blocks has changed. -/
structure ChS (S : Nat → Prop) (w w' : World) : Prop where
  os : w'.os = w.os
  tape : w'.tape = w.tape
  output : w'.output = w.output
  size : w.heap.size ≤ w'.heap.size
  block : ∀ b, b < w.heap.size → ¬ S b → w'.heap[b]? = w.heap[b]?
theorem ChS.refl (S : Nat → Prop) (w : World) : ChS S w w := ⟨rfl, rfl, rfl, Nat.le_refl _, fun _ _ _ => rfl⟩
theorem ChS.of {S : Nat → Prop} {w w' : World} (h : Below w.heap.size w w') : ChS S w w' := ⟨h.os, h.tape, h.output, h.size, fun b hb _ => h.block b hb⟩
theorem ChS.trans {S T : Nat → Prop} {w w1 w2 : World} (h : ChS S w w1) (h2 : ChS T w1 w2) (hT : ∀ b, b < w.heap.size → T b → S b) : ChS S w w2 :=
  ⟨h2.os.trans h.os, h2.tape.trans h.tape, h2.output.trans h.output, Nat.le_trans h.size h2.size, fun b hb hs => (h2.block b (Nat.lt_of_lt_of_le hb h.size) fun ht => hs (hT b hb ht)).trans (h.block b hb hs)⟩
theorem ChS.below {S : Nat → Prop} {w w' : World} (h : ChS S w w') {B : Nat} (hB : B ≤ w.heap.size) (hS : ∀ b, S b → B ≤ b) : Below B w w' :=
  ⟨h.os, h.tape, h.output, h.size, fun b hb => h.block b (by omega) fun hs => by have := hS b hs; omega⟩
theorem ChS.grown {S : Nat → Prop} {w w' : World} {o : Option Nat} (h : w.grownBy w' o) (hS : ∀ b, o = some b → S b) : ChS S w w' :=
  ⟨h.os, h.tape, h.output, h.size, fun b hb hs => h.block b hb fun e => hs (hS b e.symm)⟩
theorem ChS.set {S : Nat → Prop} {w w' : World} (h : ChS S w w') (b i : Nat) (v : Value) (hb : S b ∨ w.heap.size ≤ b) : ChS S w (w'.setCell ⟨b, i, none⟩ v) := by
  refine ⟨h.os, h.tape, h.output, by simpa using h.size, fun c hc hs => ?_⟩
  rw [← h.block c hc hs]
  exact Below.heap_setCell _ _ _ _ (by show c ≠ b; rintro rfl; rcases hb with hb | hb; exact hs hb; omega)
section
variable {w w' w1 : World} {B q gA cA : Nat} {K : Int} {vs : List Value} {Ls : List (List ByteArray)}
theorem Lv.next (h : Lv w B q K gA cA vs Ls) (hb : Below w.heap.size w w') : Lv w' B q K gA cA vs Ls :=
  ⟨(hb.block q (Array.getElem?_eq_some_iff.1 h.blk).1).trans h.blk, Mm.ownB_next h.all hb, Mm.fam_next h.fam hb, h.bq⟩
theorem Lv.ga (h : Lv w B q K gA cA vs Ls) : B ≤ gA ∧ ∃ cur, w.heap[gA]? = some (.cells cur 22 (0, 0)) := own_block h.all rfl
/-- Its blocks are its own. -/
theorem Lv.foot (h : Lv w B q K gA cA vs Ls) {b : Nat} (hb : Foot q gA vs b) : B ≤ b ∧ b < w.heap.size := by
  rcases hb with rfl | rfl | ⟨i, hi, e⟩
  · exact ⟨h.bq, (Array.getElem?_eq_some_iff.1 h.blk).1⟩
  · obtain ⟨h1, cur, h2⟩ := h.ga
    exact ⟨h1, (Array.getElem?_eq_some_iff.1 h2).1⟩
  · exact Mm.owns_lt (h.fam.own i hi) b e
/-- Where its blocks stay as they are, it stays. -/
theorem Lv.same (h : Lv w B q K gA cA vs Ls) (hs : ∀ b, Foot q gA vs b → w'.heap[b]? = w.heap[b]?) : Lv w' B q K gA cA vs Ls :=
  ⟨(hs q (.inl rfl)).trans h.blk, row_keep h.all fun g hg => hs g (.inr (.inl (by cases hg; rfl))), ⟨h.fam.len, fun i hi => row_keep (h.fam.own i hi) fun g hg => hs g (.inr (.inr ⟨i, hi, hg⟩)), h.fam.dj⟩, h.bq⟩
theorem Lv.cells (h : Lv w B q K gA cA vs Ls) : w.cell? ⟨q, 0, none⟩ = some (.int .i64 K) ∧ w.cell? ⟨q, 1, none⟩ = some (.slice (some ⟨gA, 0, none⟩) vs.length cA) ∧ w.frozen? ⟨q, 1, none⟩ = false :=
  ⟨by rw [cell_of_row w q 0 _ _ (0, 0) h.blk]; rfl, by rw [cell_of_row w q 1 _ _ (0, 0) h.blk]; rfl, frozen_of_row w q 1 _ _ h.blk⟩
theorem Lv.at (h : Lv w B q K gA cA vs Ls) {i : Nat} (hi : i < vs.length) : w.cell? ⟨gA, i, none⟩ = some (vs.getD i dv) ∧ w.frozen? ⟨gA, i, none⟩ = false := by
  obtain ⟨_, cur, hh⟩ := h.ga
  exact ⟨Mm.ownV_cells h.all i hi, frozen_of_row w gA i cur _ hh⟩
/-- A list in a list is put in its place. -/
theorem ownV_set {g m cap i : Nat} {l : List Value} (h : OwnV w B (.slice (some ⟨g, 0, none⟩) m cap) l) (x : Value) : OwnV (w.setCell ⟨g, i, none⟩ x) B (.slice (some ⟨g, 0, none⟩) m cap) (l.set i x) := by
  obtain ⟨h1, h2⟩ := h
  refine ⟨by simp, .inr ?_⟩
  rcases h2 with ⟨h2, h3⟩ | ⟨g', cap', cur, hv, hg, hh, h3, h4, h5, h6⟩
  · cases h2
  · obtain ⟨e1, e2, e3⟩ := Value.slice.inj hv
    cases e1
    have s1 : (w.setCell ⟨g, i, none⟩ x).heap[g]? = _ := heap_setCell_same w g i cur _ _ hh
    refine ⟨g, cap, _, by rw [e2]; simp, hg, s1, by simpa [e3] using h3, by omega, by simpa [e3] using h5, ?_⟩
    rw [List.length_set, Array.toList_setIfInBounds, List.take_set, h6]
/-- One text more on a level. -/
theorem Lv.app (h : Lv w B q K gA cA vs Ls) {i : Nat} (hi : i < vs.length) {x x' : Value} {d : ByteArray} (hx : vs.getD i dv = x) (r1 : OwnS w1 B x' (Ls.getD i [] ++ [d]))
    (r2 : (∃ g n cap, x = .slice (some ⟨g, 0, none⟩) n cap ∧ x' = .slice (some ⟨g, 0, none⟩) (n + 1) cap ∧ w.grownBy w1 (some g)) ∨ (w.grownBy w1 none ∧ ∀ g, x'.ownBlock = some g → w.heap.size ≤ g)) :
    Lv (w1.setCell ⟨gA, i, none⟩ x') B q K gA cA (vs.set i x') (Ls.set i (Ls.getD i [] ++ [d])) ∧ ChS (Foot q gA vs) w (w1.setCell ⟨gA, i, none⟩ x') ∧ (∀ b, Foot q gA (vs.set i x') b → Foot q gA vs b ∨ w.heap.size ≤ b) ∧
      w1.cell? ⟨gA, i, none⟩ = some x ∧ w1.frozen? ⟨gA, i, none⟩ = false ∧ w1.cell? ⟨q, 1, none⟩ = some (.slice (some ⟨gA, 0, none⟩) vs.length cA) := by
  subst hx
  obtain ⟨hgB, cur, hgA⟩ := h.ga
  have hgl := (Array.getElem?_eq_some_iff.1 hgA).1
  have hql := (Array.getElem?_eq_some_iff.1 h.blk).1
  have hqg : q ≠ gA := by
    rintro rfl
    have e := h.blk
    rw [hgA] at e
    injection e with e
    injection e with _ e2 _
    exact absurd e2 (by decide)
  /- what of w stays in w1 -/
  have keep : ∀ b, b < w.heap.size → (vs.getD i dv).ownBlock ≠ some b → w1.heap[b]? = w.heap[b]? := fun b hb hne => by
    rcases r2 with ⟨g, n, cap, e1, _, hg⟩ | ⟨hg, _⟩
    · exact hg.block b hb fun e => hne (by rw [e1, e]; rfl)
    · exact hg.block b hb fun e => by cases e
  have hng : (vs.getD i dv).ownBlock ≠ some gA := fun e => by
    obtain ⟨_, c2, hh⟩ := own_block (h.fam.own i hi) e
    rw [hgA] at hh
    injection hh with hh
    injection hh with _ e2 _
    exact absurd e2 (by decide)
  have hnq : (vs.getD i dv).ownBlock ≠ some q := fun e => by
    obtain ⟨_, c2, hh⟩ := own_block (h.fam.own i hi) e
    rw [h.blk] at hh
    injection hh with hh
    injection hh with _ e2 _
    exact absurd e2 (by decide)
  have e1A := keep gA hgl hng
  have e1q := keep q hql hnq
  have hall1 : OwnV w1 B (.slice (some ⟨gA, 0, none⟩) vs.length cA) vs := row_keep h.all fun g hg => by cases hg; exact e1A
  have hblk1 := e1q.trans h.blk
  have hx'b : ∀ g, x'.ownBlock = some g → (vs.getD i dv).ownBlock = some g ∨ w.heap.size ≤ g := fun g hg => by
    rcases r2 with ⟨g0, n, cap, e1, e2, _⟩ | ⟨_, hf⟩
    · left; rw [e1]; rw [e2] at hg; exact hg
    · exact .inr (hf g hg)
  have hx'A : x'.ownBlock ≠ some gA := fun e => by
    rcases hx'b gA e with e | e
    · exact hng e
    · omega
  have hx'q : x'.ownBlock ≠ some q := fun e => by
    rcases hx'b q e with e | e
    · exact hnq e
    · omega
  have hother : ∀ b, b ≠ gA → (w1.setCell ⟨gA, i, none⟩ x').heap[b]? = w1.heap[b]? := fun b hb => Below.heap_setCell _ ⟨gA, i, none⟩ _ b hb
  refine ⟨⟨?_, ?_, ⟨?_, fun j hj => ?_, fun j l hj hl hne => ?_⟩, h.bq⟩, ?_, fun b hb => ?_, ?_, ?_, ?_⟩
  · rw [List.length_set, hother q hqg]; exact hblk1
  · rw [List.length_set]; exact ownV_set hall1 x'
  · simp [h.fam.len]
  · rw [List.length_set] at hj
    rw [Mm.getD_set _ _ _ _ _ hi, Mm.getD_set _ _ _ _ _ (by rw [← h.fam.len]; exact hi)]
    by_cases e : j = i
    · rw [if_pos e, if_pos e]
      exact row_keep r1 fun g hg => hother g fun e2 => hx'A (by rw [hg, e2])
    · rw [if_neg e, if_neg e]
      refine row_keep (h.fam.own j hj) fun g hg => ?_
      have hgl2 := (Mm.owns_lt (h.fam.own j hj) g hg).2
      rw [hother g fun e2 => ?_]
      · exact keep g hgl2 fun e3 => h.fam.dj j i hj hi e g hg e3
      · subst e2
        obtain ⟨_, c2, hh⟩ := own_block (h.fam.own j hj) hg
        rw [hgA] at hh
        injection hh with hh
        injection hh with _ e2 _
        exact absurd e2 (by decide)
  · rw [List.length_set] at hj hl
    rw [Mm.getD_set _ _ _ _ _ hi, Mm.getD_set _ _ _ _ _ hi]
    have apx : ∀ z, z < vs.length → z ≠ i → Apart x' (vs.getD z dv) := fun z hz hzi g g1 g2 => by
      rcases hx'b g g1 with e | e
      · exact h.fam.dj i z hi hz (fun e2 => hzi e2.symm) g e g2
      · have := (Mm.owns_lt (h.fam.own z hz) g g2).2; omega
    by_cases e : j = i
    · rw [if_pos e, if_neg (fun e2 => hne (e.trans e2.symm))]
      exact apx l hl fun e2 => hne (e.trans e2.symm)
    · rw [if_neg e]
      by_cases e2 : l = i
      · rw [if_pos e2]; exact (apx j hj e).symm
      · rw [if_neg e2]; exact h.fam.dj j l hj hl hne
  · refine ChS.set ?_ gA i x' (.inl (.inr (.inl rfl)))
    rcases r2 with ⟨g, n, cap, e1, _, hg⟩ | ⟨hg, _⟩
    · exact ChS.grown hg fun b e => by cases e; exact .inr (.inr ⟨i, hi, by rw [e1]; rfl⟩)
    · exact ChS.grown hg fun b e => by cases e
  · rcases hb with rfl | rfl | ⟨j, hj, e⟩
    · exact .inl (.inl rfl)
    · exact .inl (.inr (.inl rfl))
    · rw [List.length_set] at hj
      rw [Mm.getD_set _ _ _ _ _ hi] at e
      by_cases e2 : j = i
      · rw [if_pos e2] at e
        rcases hx'b b e with e | e
        · exact .inl (.inr (.inr ⟨i, hi, e⟩))
        · exact .inr e
      · rw [if_neg e2] at e
        exact .inl (.inr (.inr ⟨j, hj, e⟩))
  · exact Mm.ownV_cells hall1 i hi
  · rw [← e1A] at hgA
    exact frozen_of_row w1 gA i cur _ hgA
  · rw [cell_of_row w1 q 1 _ _ (0, 0) hblk1]; rfl
/-- A level more, without nodes. -/
theorem Lv.level (h : Lv w B q K gA cA vs Ls) {gA' cA' : Nat} (ho : OwnV w1 B (.slice (some ⟨gA', 0, none⟩) (vs.length + 1) cA') (vs ++ [dv])) (hg : w.grownBy w1 (some gA)) (hf : gA' = gA ∨ w.heap.size ≤ gA') :
    Lv (w1.setCell ⟨q, 1, none⟩ (.slice (some ⟨gA', 0, none⟩) (vs.length + 1) cA')) B q K gA' cA' (vs ++ [dv]) (Ls ++ [[]]) ∧ ChS (Foot q gA vs) w (w1.setCell ⟨q, 1, none⟩ (.slice (some ⟨gA', 0, none⟩) (vs.length + 1) cA')) ∧ (∀ b, Foot q gA' (vs ++ [dv]) b → Foot q gA vs b ∨ w.heap.size ≤ b) ∧
      w1.cell? ⟨q, 1, none⟩ = some (.slice (some ⟨gA, 0, none⟩) vs.length cA) ∧ w1.frozen? ⟨q, 1, none⟩ = false := by
  obtain ⟨hgB, cur, hgA⟩ := h.ga
  have hql := (Array.getElem?_eq_some_iff.1 h.blk).1
  have hqg : q ≠ gA := by
    rintro rfl
    have e := h.blk
    rw [hgA] at e
    injection e with e
    injection e with _ e2 _
    exact absurd e2 (by decide)
  have hqg' : gA' ≠ q := by rcases hf with rfl | hf; exact hqg.symm; omega
  have hblk1 := (hg.block q hql fun e => hqg (by injection e)).trans h.blk
  have hother : ∀ b, b ≠ q → (w1.setCell ⟨q, 1, none⟩ (.slice (some ⟨gA', 0, none⟩) (vs.length + 1) cA')).heap[b]? = w1.heap[b]? := fun b hb => Below.heap_setCell _ ⟨q, 1, none⟩ _ b hb
  have hfam1 : ∀ j, j < vs.length → ∀ g, (vs.getD j dv).ownBlock = some g → (w1.setCell ⟨q, 1, none⟩ (.slice (some ⟨gA', 0, none⟩) (vs.length + 1) cA')).heap[g]? = w.heap[g]? := fun j hj g hgj => by
    obtain ⟨_, c2, hh⟩ := own_block (h.fam.own j hj) hgj
    rw [hother g ?_]
    · refine hg.block g (Array.getElem?_eq_some_iff.1 hh).1 fun e => ?_
      injection e with e
      subst e
      rw [hgA] at hh
      injection hh with hh
      injection hh with _ e2 _
      exact absurd e2 (by decide)
    · rintro rfl
      rw [h.blk] at hh
      injection hh with hh
      injection hh with _ e2 _
      exact absurd e2 (by decide)
  refine ⟨⟨?_, ?_, ⟨by simp [h.fam.len], fun j hj => ?_, fun j l hj hl hne => ?_⟩, h.bq⟩, ?_, fun b hb => ?_, ?_, ?_⟩
  · have := heap_setCell_same w1 q 1 _ 96 (.slice (some ⟨gA', 0, none⟩) (vs.length + 1) cA') hblk1
    rw [List.length_append, List.length_singleton]
    exact this
  · rw [List.length_append, List.length_singleton]
    exact row_keep ho fun g e => by cases e; exact hother gA' hqg'
  · rw [Mm.getD_snoc, Mm.getD_snoc, ← h.fam.len]
    by_cases hj2 : j < vs.length
    · rw [if_pos hj2, if_pos hj2]
      exact row_keep (h.fam.own j hj2) (hfam1 j hj2)
    · have : j = vs.length := by simp at hj; omega
      rw [if_neg hj2, if_neg hj2, if_pos this, if_pos this]
      exact owns_nil _ _
  · intro g g1 g2
    rw [Mm.getD_snoc] at g1 g2
    simp at hj hl
    by_cases hj2 : j < vs.length
    · rw [if_pos hj2] at g1
      by_cases hl2 : l < vs.length
      · rw [if_pos hl2] at g2
        exact h.fam.dj j l hj2 hl2 hne g g1 g2
      · rw [if_neg hl2, if_pos (by omega)] at g2
        cases g2
    · rw [if_neg hj2, if_pos (by omega)] at g1
      cases g1
  · exact ChS.set (ChS.grown hg fun b e => by cases e; exact .inr (.inl rfl)) q 1 _ (.inl (.inl rfl))
  · rcases hb with rfl | rfl | ⟨j, hj, e⟩
    · exact .inl (.inl rfl)
    · rcases hf with rfl | hf
      · exact .inl (.inr (.inl rfl))
      · exact .inr hf
    · rw [Mm.getD_snoc] at e
      by_cases hj2 : j < vs.length
      · rw [if_pos hj2] at e
        exact .inl (.inr (.inr ⟨j, hj2, e⟩))
      · rw [if_neg hj2] at e
        split at e <;> cases e
  · rw [cell_of_row w1 q 1 _ _ (0, 0) hblk1]; rfl
  · exact frozen_of_row w1 q 1 _ _ hblk1
end
end Go.Proofs.YtdkcliblbaldhaaDoor
/-
  The reference's forest: New, Size, Digest, Digests. Own work.
-/
namespace Go.Proofs.YtdkcliblbaldhaaDoor
open Go.RowKit
open Mm (Fam OwnV dv Apart)
attribute [local go_sem ↓] Go.wp_at_zero Go.wp_at_succ
/-- The levels of a list's nodes. -/
def lvl (c : Nat) (L : List ByteArray) (H : Nat) : List (List ByteArray) := (List.range H).map fun h => rowN c L h (L.length / 2 ^ h)
theorem lvl_at (c : Nat) (L : List ByteArray) {H i : Nat} (h : i < H) : (lvl c L H).getD i [] = rowN c L i (L.length / 2 ^ i) := by simp [lvl, List.getD_eq_getElem?_getD, h]
/-- The reference's forest of the items L. -/
structure Rf (w : World) (B q : Nat) (K : Int) (L : List ByteArray) (gA cA : Nat) (vs : List Value) : Prop where
  lv : Lv w B q K gA cA vs (lvl (clk K) L vs.length)
  top : L.length < 2 ^ vs.length
  h1 : 1 ≤ vs.length
  h2 : vs.length ≤ 17
  k1 : 1 ≤ K
  k2 : K ≤ 32
  hn : L.length ≤ 65536
section
variable {w w' : World} {B q gA cA : Nat} {K : Int} {L : List ByteArray} {vs : List Value}
theorem Rf.next (h : Rf w B q K L gA cA vs) (hb : Below w.heap.size w w') : Rf w' B q K L gA cA vs := ⟨h.lv.next hb, h.top, h.h1, h.h2, h.k1, h.k2, h.hn⟩
theorem Rf.same (h : Rf w B q K L gA cA vs) (hs : ∀ b, Foot q gA vs b → w'.heap[b]? = w.heap[b]?) : Rf w' B q K L gA cA vs := ⟨h.lv.same hs, h.top, h.h1, h.h2, h.k1, h.k2, h.hn⟩
/-- A level: its list. -/
theorem Rf.level (h : Rf w B q K L gA cA vs) {i : Nat} (hi : i < vs.length) : ∃ ao c, vs.getD i dv = .slice ao (L.length / 2 ^ i) c ∧ OwnS w B (.slice ao (L.length / 2 ^ i) c) (rowN (clk K) L i (L.length / 2 ^ i)) ∧ w.cell? ⟨gA, i, none⟩ = some (.slice ao (L.length / 2 ^ i) c) := by
  have ho := h.lv.fam.own i hi
  rw [lvl_at _ _ hi] at ho
  obtain ⟨ao, m, c, e⟩ := Mm.own_slice ho
  rw [e] at ho
  have hm := Mm.ownS_len ho
  rw [rowN_len] at hm
  subst hm
  have hc := (h.lv.at hi).1
  rw [e] at hc
  exact ⟨ao, c, e, ho, hc⟩
end
theorem refnew_ok (w : World) (k : Int) (h1 : 1 ≤ k) (h2 : k ≤ 32) :
    Calls Tryd.prog 77 #[.int .i64 k] w fun e w' => e = .returned (.tuple #[.pointer (some ⟨w.heap.size + 1, 0, none⟩), .int .i64 0]) ∧ Rf w' w.heap.size (w.heap.size + 1) k [] w.heap.size 1 [dv] ∧ Below w.heap.size w w' := by
  have e1 : decide (k < 1) = false := decide_eq_false (by omega)
  have e2 : decide (32 < k) = false := decide_eq_false (by omega)
  have HK := hide (And.intro h1 h2)
  clear h1 h2
  go_enter Tryd.func77, Tryd.ntmps77
  go_wp2
  go_ret2
  have hb := bal (bal (Below.refl w.heap.size w) (.cells #[.slice none 0 0] 22)) (.cells #[.int .i64 k, .slice (some ⟨w.heap.size, 0, none⟩) 1 1] 96)
  have hq := heap_alloc_new (w.alloc (.cells #[.slice none 0 0] 22)) (.cells #[.int .i64 k, .slice (some ⟨w.heap.size, 0, none⟩) 1 1] 96)
  have hg : ((w.alloc (.cells #[.slice none 0 0] 22)).alloc (.cells #[.int .i64 k, .slice (some ⟨w.heap.size, 0, none⟩) 1 1] 96)).heap[w.heap.size]? = some (.cells #[.slice none 0 0] 22 (0, 0)) := by
    rw [(MapKept.heap_alloc _ _).2 w.heap.size (by simp)]
    exact heap_alloc_new w _
  rw [World.size_alloc] at hq
  refine ⟨rfl, ⟨⟨hq, ⟨rfl, .inr ⟨w.heap.size, 1, _, rfl, Nat.le_refl _, hg, Nat.le_refl _, by unfold maxLen; omega, rfl, rfl⟩⟩, ⟨rfl, fun i hi => ?_, fun i j hi hj hne => ?_⟩, by omega⟩, by decide, by decide, by decide, HK.out.1, HK.out.2, by decide⟩, hb⟩
  · have : i = 0 := by simpa using hi
    subst this
    exact owns_nil _ _
  · simp at hi hj
    omega
theorem refnew_no (w : World) (k : Int) (hk : k < 1 ∨ 32 < k) :
    Calls Tryd.prog 77 #[.int .i64 k] w fun e w' => e = .returned (.tuple #[.pointer none, .int .i64 70]) ∧ Below w.heap.size w w' := by
  by_cases h1 : k < 1
  · have e1 : decide (k < 1) = true := decide_eq_true h1
    clear hk h1
    go_enter Tryd.func77, Tryd.ntmps77
    go_wp2
    go_ret2
    exact ⟨rfl, Below.refl _ _⟩
  · have e1 : decide (k < 1) = false := decide_eq_false h1
    have e2 : decide (32 < k) = true := decide_eq_true (by omega)
    clear hk h1
    go_enter Tryd.func77, Tryd.ntmps77
    go_wp2
    go_ret2
    exact ⟨rfl, Below.refl _ _⟩
theorem refsize_any (w : World) (B q : Nat) (K : Int) (L : List ByteArray) (gA cA : Nat) (vs : List Value) (h : Rf w B q K L gA cA vs) :
    Calls Tryd.prog 56 #[.pointer (some ⟨q, 0, none⟩)] w fun e w' => e = .returned (.int .u64 (L.length : Int)) ∧ Below w.heap.size w w' := by
  obtain ⟨_, c1, _⟩ := h.lv.cells
  obtain ⟨ao, c, _, _, hc⟩ := h.level (i := 0) h.h1
  rw [Nat.pow_zero, Nat.div_one] at hc
  have hpos : (0 : Int) < (vs.length : Int) := by have := h.h1; omega
  have ew : IntKind.u64.wrap (L.length : Int) = (L.length : Int) := u64_id _ (by omega) (by have := h.hn; omega)
  clear h
  go_enter Tryd.func56, Tryd.ntmps56
  go_wp2
  go_ret
  exact ⟨rfl, Below.refl _ _⟩
set_option maxRecDepth 100000 in
set_option maxHeartbeats 1000000 in
theorem refdigest_any (w : World) (B q : Nat) (K : Int) (L : List ByteArray) (gA cA : Nat) (vs : List Value) (h : Rf w B q K L gA cA vs) (hh : Int) (b : Nat) (hf : Fitb hh b) (s : ByteArray) (ok : Bool) (hs : Hid ((ff (clk K) L hh b).getD ByteArray.empty = s ∧ (ff (clk K) L hh b).isSome = ok)) :
    Calls Tryd.prog 79 #[.pointer (some ⟨q, 0, none⟩), .agg #[.int .i64 hh, .int .u64 (b : Int)]] w fun e w' => e = .returned (.tuple #[.string s, .bool ok]) ∧ Below w.heap.size w w' := by
  by_cases h0 : hh < 0
  · have hno : ff (clk K) L hh b = none := by rw [ff, if_neg (fun x => by omega)]
    have hs2 := hs.out
    rw [hno] at hs2
    obtain ⟨rfl, rfl⟩ := hs2
    have hd : decide (hh < 0) = true := decide_eq_true h0
    clear hs hno h0 hf
    have hb := bal (Below.refl w.heap.size w) (.cells #[.int .i64 hh, .int .u64 (b : Int)] 82)
    go_enter Tryd.func79, Tryd.ntmps79
    go_upto_region 1 with (fail)
    go_quiet (fail)
    go_wp2
    go_ret2
    exact ⟨rfl, below_drewN hb _⟩
  · obtain ⟨i, rfl⟩ : ∃ i : Nat, hh = (i : Int) := ⟨hh.toNat, by omega⟩
    have hb := bal (Below.refl w.heap.size w) (.cells #[.int .i64 (i : Int), .int .u64 (b : Int)] 82)
    have hN := h.next hb
    obtain ⟨_, c1, _⟩ := hN.lv.cells
    have hd : decide ((i : Int) < 0) = false := decide_eq_false (by omega)
    have hi0 : (0 : Int) ≤ (i : Int) := Int.natCast_nonneg _
    have x0 : (w.alloc (.cells #[.int .i64 (i : Int), .int .u64 (b : Int)] 82)).cell? ⟨w.heap.size, 0, none⟩ = some (.int .i64 (i : Int)) := by simp
    have x1 : (w.alloc (.cells #[.int .i64 (i : Int), .int .u64 (b : Int)] 82)).cell? ⟨w.heap.size, 1, none⟩ = some (.int .u64 (b : Int)) := by simp
    by_cases hi : i < vs.length
    · obtain ⟨ao, c, _, ho, hc⟩ := hN.level hi
      have hl : ¬ vs.length ≤ i := by omega
      have hl2 : (i : Int) < (vs.length : Int) := by omega
      obtain ⟨m, hm⟩ : ∃ m, L.length / 2 ^ i = m := ⟨_, rfl⟩
      rw [hm] at ho hc
      have hm9 : m ≤ 65536 := by rw [← hm]; exact Nat.le_trans (Nat.div_le_self _ _) h.hn
      have ew : IntKind.u64.wrap (m : Int) = (m : Int) := u64_id _ (by omega) (by omega)
      by_cases hb2 : b < m
      · have hin := within.1 (show b < L.length / 2 ^ i by rw [hm]; exact hb2)
        have hs2 := hs.out
        rw [ff_nat _ _ _ _ hin] at hs2
        obtain ⟨rfl, rfl⟩ := hs2
        obtain ⟨g, rfl⟩ := Mm.ownS_some ho (by rw [rowN_len]; omega)
        have cc := (own_cell ho (j := b) (by rw [rowN_len]; exact hb2)).1
        rw [rowN_at _ _ _ _ hb2] at cc
        have hd2 : ¬ m ≤ b := by omega
        have hd3 : (b : Int) < (m : Int) := by omega
        have hb0 : (0 : Int) ≤ (b : Int) := Int.natCast_nonneg _
        rw [Option.getD_some, Option.isSome_some]
        clear hs h hN ho hf hin hb2 hi h0 hm
        generalize nd (clk K) L i b = d at *
        go_enter Tryd.func79, Tryd.ntmps79
        go_upto_region 1 with (fail)
        generalize w.alloc (.cells #[.int .i64 (i : Int), .int .u64 (b : Int)] 82) = w1 at *
        go_quiet (fail)
        go_upto_region 3 with (fail)
        go_quiet (fail)
        go_wp2
        go_ret2
        exact ⟨rfl, below_drewN (below_drewN hb _) _⟩
      · have hno : ¬ (b + 1) * 2 ^ i ≤ L.length := fun e => hb2 (by rw [← hm]; exact within.2 e)
        have hs2 := hs.out
        rw [ff_no _ _ _ _ hno] at hs2
        obtain ⟨rfl, rfl⟩ := hs2
        have hd2 : m ≤ b := by omega
        rw [Option.getD_none, Option.isSome_none]
        clear hs h hN ho hf hno hb2 hi h0 hm
        go_enter Tryd.func79, Tryd.ntmps79
        go_upto_region 1 with (fail)
        go_quiet (fail)
        go_wp2
        go_ret2
        exact ⟨rfl, below_drewN hb _⟩
    · have hno : ¬ (b + 1) * 2 ^ i ≤ L.length := fun e => by
        have h2 : 2 ^ vs.length ≤ 2 ^ i := Nat.pow_le_pow_right (by decide) (by omega)
        have h3 : 2 ^ i ≤ (b + 1) * 2 ^ i := Nat.le_mul_of_pos_left _ (by omega)
        have := h.top
        omega
      have hs2 := hs.out
      rw [ff_no _ _ _ _ hno] at hs2
      obtain ⟨rfl, rfl⟩ := hs2
      have hl : vs.length ≤ i := by omega
      rw [Option.getD_none, Option.isSome_none]
      clear hs h hN hf hno hi h0
      go_enter Tryd.func79, Tryd.ntmps79
      go_upto_region 1 with (fail)
      go_quiet (fail)
      go_wp2
      go_ret2
      exact ⟨rfl, below_drewN hb _⟩
set_option maxRecDepth 100000 in
set_option maxHeartbeats 1000000 in
theorem refdigests_any (w : World) (B q : Nat) (K : Int) (L : List ByteArray) (gA cA : Nat) (vs : List Value) (hF : Rf w B q K L gA cA vs) (ao : Option Addr) (g off cap : Nat) (Bs : List (Int × Nat)) (hr : RdB w ao g off Bs.length Bs) (hmx : Bs.length ≤ 8796093021952) :
    Calls Tryd.prog 57 #[.pointer (some ⟨q, 0, none⟩), .slice ao Bs.length cap] w fun e w' => Below w.heap.size w w' ∧ ((dgs (clk K) L Bs = none ∧ e = .returned (.tuple #[.slice none 0 0, .bool false])) ∨ (∃ D, dgs (clk K) L Bs = some D ∧ ∃ v, e = .returned (.tuple #[v, .bool true]) ∧ OwnS w' w.heap.size v D)) := by
  have HF : Hid (∀ W, Below w.heap.size w W → Rf W B q K L gA cA vs ∧ RdB W ao g off Bs.length Bs) := fun W hb => ⟨hF.next hb, hr.below hb⟩
  have HX := hide hmx
  have h63 : (Bs.length : Int) ≤ 9223372036854775807 := by omega
  clear hF hr hmx
  go_enter Tryd.func57, Tryd.ntmps57
  go_wp2
  go_loopg [6, 7] Bs.length (fun g v i wr => ∃ (j : Nat) (A : List ByteArray), j ≤ Bs.length ∧ g = Bs.length - j ∧ i = .int .i64 (j : Int) ∧ A.length = j ∧ Hid (dgs (clk K) L (Bs.take j) = some A) ∧ OwnS wr w.heap.size v A ∧ Below w.heap.size w wr)
  case atStart =>
    go_light
    exact ⟨0, [], Nat.zero_le _, rfl, rfl, rfl, rfl, owns_nil _ _, Below.refl _ _⟩
  case round =>
    obtain ⟨j, A, hj, rfl, rfl, hA, HE, ho, hb⟩ := hrel
    by_cases hlt : j < Bs.length
    · have hz : (j : Int) < (Bs.length : Int) := by omega
      have hz0 : (0 : Int) ≤ (j : Int) := Int.natCast_nonneg _
      obtain rfl := (HF.out wr hb).2.addr (by omega)
      obtain ⟨c0, c1⟩ := (HF.out wr hb).2.cell j hlt
      obtain ⟨⟨h, kk⟩, hx⟩ : ∃ x, Bs.getD j (0, 0) = x := ⟨_, rfl⟩
      rw [hx] at c0 c1
      have hmem : (h, kk) ∈ Bs := by rw [← hx, List.getD_eq_getElem?_getD, List.getElem?_eq_getElem hlt]; exact List.getElem_mem _
      have htk : Bs.take (j + 1) = Bs.take j ++ [(h, kk)] := by
        rw [List.take_add_one, ← hx, List.getD_eq_getElem?_getD, List.getElem?_eq_getElem hlt]; rfl
      have hfit := (HF.out wr hb).2.fit _ hmem
      cases hv : ff (clk K) L h kk with
      | none =>
        have HD : Hid (∀ W, Below w.heap.size w W → Calls Tryd.prog 79 #[.pointer (some ⟨q, 0, none⟩), .agg #[.int .i64 h, .int .u64 (kk : Int)]] W fun e w' => e = .returned (.tuple #[.string ⟨#[]⟩, .bool false]) ∧ Below W.heap.size W w') := fun W hb =>
          refdigest_any W B q K L gA cA vs (HF.out W hb).1 h kk hfit ⟨#[]⟩ false (by show _ ∧ _; rw [hv]; exact ⟨rfl, rfl⟩)
        have HN : Hid (dgs (clk K) L Bs = none) := dgs_none (b := (h, kk)) hv hmem
        clear HE HF hx hmem htk hfit hv ho hlt hA
        go_wp2_with (go_at_call 79; with_reducible refine (HD.out _ hb).mono ?_; rintro e w1 ⟨rfl, hb1⟩)
        go_ret2
        exact ⟨bnext hb hb1, .inl ⟨HN.out, rfl⟩⟩
      | some x =>
        have HD : Hid (∀ W, Below w.heap.size w W → Calls Tryd.prog 79 #[.pointer (some ⟨q, 0, none⟩), .agg #[.int .i64 h, .int .u64 (kk : Int)]] W fun e w' => e = .returned (.tuple #[.string x, .bool true]) ∧ Below W.heap.size W w') := fun W hb =>
          refdigest_any W B q K L gA cA vs (HF.out W hb).1 h kk hfit x true (by show _ ∧ _; rw [hv]; exact ⟨rfl, rfl⟩)
        have HN : Hid (dgs (clk K) L (Bs.take (j + 1)) = some (A ++ [x])) := by rw [htk]; exact dgs_app hv HE.out
        have HZ : Hid (x.size ≤ 9223372036854775807) := by show x.size ≤ _; rw [ff_size (clk_le K) hv]; have := clk_le K; omega
        have HO := hide ho
        have HA := hide hA
        clear HE HF hx hmem htk hfit hv ho hA
        go_wp2_with (first
          | (go_at_call 79; with_reducible refine (HD.out _ hb).mono ?_; rintro e w1 ⟨rfl, hb1⟩)
          | (at_builtin; refine wpList_append_S _ rfl _ _ rfl w.heap.size _ A rfl (own_al (own_next HO.out hb1 (Nat.le_refl _)) _) (some ⟨w1.heap.size, 0, none⟩) w1.heap.size 0 1 [x] rfl (rds_one w1 x HZ.out) (fun h => by cases h) ?c1 ?c2 ?_))
        case c1 => have := HX.out; have := HA.out; simp; omega
        case c2 => have := (bnext hb hb1).size; simp; omega
        intro v2 w3 h3 hb3
        have HY : Hid (OwnS w3 w.heap.size v2 (A ++ [x]) ∧ Below w.heap.size w w3) := ⟨h3, (bal (bnext hb hb1) _).trans hb3⟩
        clear h3 hb3 hb1 hb
        go_wp2
        go_roundg (Bs.length - (j + 1))
        case rel =>
          go_light
          exact ⟨j + 1, A ++ [x], by omega, rfl, by go_num, by have := HA.out; simp; omega, HN, HY.out.1, HY.out.2⟩
        case measure => go_light; omega
    · obtain rfl : j = Bs.length := by omega
      have hz : ¬ ((Bs.length : Int) < (Bs.length : Int)) := by omega
      have HN : Hid (dgs (clk K) L Bs = some A) := by have := HE.out; rwa [List.take_length] at this
      clear HE hlt HF
      go_wp2
      go_ret2
      exact ⟨hb, .inr ⟨A, HN.out, _, rfl, ho⟩⟩
end Go.Proofs.YtdkcliblbaldhaaDoor
/-
  The reference's forest: Append, its numbers and its states. Own work.
-/
namespace Go.Proofs.YtdkcliblbaldhaaDoor
open Go.RowKit
open Mm (Fam OwnV dv Apart)
/-- One text appended to a list of one's own: what it comes to, and where it went. -/
theorem run_app_T (w : World) (ty B : Nat) (v : Value) (L : List ByteArray) (hown : OwnS w B v L) (ad : Addr) (mc : Nat) (c : ByteArray) (hr : Mm.RdC w (.slice (some ad) 1 mc) 1 [.string c])
    (hlen : L.length + 1 ≤ 1048576) (hB : B ≤ w.heap.size) :
    ∃ v' w', (Builtin.append_ #[22, 22] ty #[v, .slice (some ad) 1 mc]).run Tryd.prog w = .ok v' w' ∧ OwnS w' B v' (L ++ [c]) ∧ ((∃ g n cap, v = .slice (some ⟨g, 0, none⟩) n cap ∧ v' = .slice (some ⟨g, 0, none⟩) (n + 1) cap ∧ w.grownBy w' (some g)) ∨ (w.grownBy w' none ∧ ∀ g, v'.ownBlock = some g → w.heap.size ≤ g)) := by
  obtain ⟨i0, hi, hz0, hz1, hz2⟩ := info_parts Tryd.infoS
  obtain ⟨ao, cap, he, _, hcells⟩ := hr
  obtain ⟨rfl, _, rfl⟩ := Value.slice.inj he
  have hap : ∀ {w' : World} {v' : Value} {n : Nat}, n = L.length + 1 → w'.ownsRow B 9 1 v' n (L.map Value.string ++ [.string c]) → OwnS w' B v' (L ++ [c]) := fun hn h => by
    rw [OwnS, List.map_append, List.length_append, List.length_cons, List.length_nil, Nat.zero_add, ← hn]; exact h
  have h1c : ∀ u ∈ ([.string c] : List Value), u.oneCell' = true := by intro u hu; simp at hu; subst hu; rfl
  have hown0 := hown
  rcases hown.2 with ⟨rfl, h0⟩ | ⟨g, cp, cur, rfl, hgb, hh, hc⟩
  · have hL : L = [] := List.length_eq_zero_iff.1 h0
    subst hL
    obtain ⟨v', w', hrun, r1, r2, _⟩ := run_append_own (P := Tryd.prog) w w.heap.size 22 ty 9 i0 (.string ByteArray.empty) 1 16 Tryd.underlying22 hi hz0 hz1 hz2 rfl (by decide) _ 0 [] (World.ownsRow_nil _ _ _ _) ad 1 mc [.string c] rfl (hcells ad rfl) h1c (by decide) (by decide) (Nat.le_refl _)
    exact ⟨v', w', hrun, hap rfl (by simpa using World.ownsRow.mono r1 hB), .inr ⟨r2, fun k hk => (World.ownsRow.lt r1 k hk).1⟩⟩
  · by_cases hfit : L.length + 1 ≤ cp
    · obtain ⟨w', hrun, r1, r2⟩ := run_append_fits (P := Tryd.prog) w B 22 ty 9 i0 1 Tryd.underlying22 hi hz1 g L.length cp (L.map Value.string) hown0 ad 1 mc [.string c] rfl (hcells ad rfl) h1c hfit
      exact ⟨_, w', hrun, hap rfl r1, .inl ⟨g, L.length, cp, rfl, rfl, r2⟩⟩
    · obtain ⟨v', w', hrun, r1, r2⟩ := run_append_arg_grows (P := Tryd.prog) w 22 ty 9 i0 (.string ByteArray.empty) 1 16 Tryd.underlying22 hi hz0 hz1 hz2 rfl (by decide) ⟨g, 0, none⟩ L.length cp (L.map Value.string) hown0.1 (World.ownsRow.cells hown0 rfl) ad 1 mc [.string c] rfl (hcells ad rfl) (by omega) (by unfold maxLen; omega) (by omega)
      exact ⟨v', w', hrun, hap rfl (World.ownsRow.mono r1 hB), .inr ⟨r2, fun k hk => (World.ownsRow.lt r1 k hk).1⟩⟩
/-- What is left of a run that has come to its end. -/
def resO (r : Result Value) : Option (Value × World) :=
  match r with
  | .ok v w => some (v, w)
  | .halt _ _ => none
theorem resO_ok (r : Result Value) (hs : (resO r).isSome = true) (d : Value × World) : r = .ok ((resO r).getD d).1 ((resO r).getD d).2 := by
  cases r with
  | ok v w => rfl
  | halt x w => cases hs
/-- What an append comes to. -/
noncomputable def appR (ty : Nat) (v u : Value) (w : World) : Option (Value × World) := resO ((Builtin.append_ #[22, 22] ty #[v, u]).run Tryd.prog w)
theorem appR_of {ty : Nat} {v u v' : Value} {w w' : World} (h : (Builtin.append_ #[22, 22] ty #[v, u]).run Tryd.prog w = .ok v' w') : appR ty v u w = some (v', w') := congrArg resO h
/-- An append that is known to come to its end is not opened. -/
theorem run_appR (ty : Nat) (v u : Value) (w : World) (hs : (appR ty v u w).isSome = true) : (Builtin.append_ #[22, 22] ty #[v, u]).run Tryd.prog w = .ok ((appR ty v u w).getD (dv, w)).1 ((appR ty v u w).getD (dv, w)).2 := resO_ok _ hs (dv, w)
theorem exec_appR (ρ : Operand → Value) (d : Option Tmp) (s x : Operand) (ty : Nat) (ps : String) (af : Array Edge) (gd : Option (Nat × Bool)) (w : World) (hs : (appR ty (ρ s) (ρ x) w).isSome = true) :
    (execOp ρ { dst := d, op := Op.call { callee := Callee.builtin Builtin.append, args := #[s, x], argTypes := #[22, 22] }, type := ty, pos := ps, after := af, guard := gd }).run Tryd.prog w = .ok (.value ((appR ty (ρ s) (ρ x) w).getD (dv, w)).1) ((appR ty (ρ s) (ρ x) w).getD (dv, w)).2 := by
  have hrun := run_appR ty (ρ s) (ρ x) w hs
  generalize (appR ty (ρ s) (ρ x) w).getD (dv, w) = r at *
  simp [execOp, resolve, invoke, builtin, hrun, Result.andThen]
/-- Texts appended to texts; what is changed, and where they lie. -/
theorem wpList_append_F (w : World) {ops : Array Oper} {rest : List Oper} {o : Oper} {a : Act} {Q : Exit → Act → World → Prop}
    (hg : o.guard = none) (s x : Operand) (hop : o.op = Op.call { callee := Callee.builtin Builtin.append, args := #[s, x], argTypes := #[22, 22] })
    (B : Nat) (v : Value) (L : List ByteArray) (hs : a.eval s = v) (hown : OwnS w B v L) (u : Value) (M : List ByteArray) (hx : a.eval x = u) (hr : Cv.RdC w u M.length (M.map Value.string))
    (hlen : L.length + M.length ≤ 1048576) (hB : B ≤ w.heap.size)
    (hK : ∀ v' w', OwnS w' B v' (L ++ M) → w.grownBy w' v.ownBlock → (v'.ownBlock = v.ownBlock ∨ ∀ g, v'.ownBlock = some g → w.heap.size ≤ g) → wpList Tryd.prog ops Q rest (a.put o.dst v') w') : wpList Tryd.prog ops Q (o :: rest) a w := by
  obtain ⟨i0, hi, hz0, hz1, hz2⟩ := info_parts Tryd.infoS
  refine Cv.wpList_append_ap w hg s x _ hop B 9 i0 (.string ByteArray.empty) 1 16 Tryd.underlying22 hi hz0 hz1 hz2 rfl (by decide) v L.length (L.map Value.string) hs hown u M.length (M.map Value.string) hx hr (by simp) (by intro u hu; obtain ⟨y, _, rfl⟩ := List.mem_map.1 hu; rfl) (by unfold maxLen; omega) (by omega) hB ?_
  intro v' w' h
  refine hK v' w' ?_ h.grown h.fresh
  rw [OwnS, List.map_append, List.length_append]
  exact h.own
/-- The levels with the new nodes up to the height h. -/
def lvj (c : Nat) (L : List ByteArray) (x : ByteArray) (h H : Nat) : List (List ByteArray) := (List.range H).map fun j => rowN c (L ++ [x]) j (if j ≤ h then (L.length + 1) / 2 ^ j else L.length / 2 ^ j)
theorem lvj_len (c : Nat) (L : List ByteArray) (x : ByteArray) (h H : Nat) : (lvj c L x h H).length = H := by simp [lvj]
theorem lvj_at (c : Nat) (L : List ByteArray) (x : ByteArray) (h : Nat) {H i : Nat} (hi : i < H) : (lvj c L x h H).getD i [] = rowN c (L ++ [x]) i (if i ≤ h then (L.length + 1) / 2 ^ i else L.length / 2 ^ i) := by simp [lvj, List.getD_eq_getElem?_getD, hi]
theorem rowN_app (c : Nat) (L : List ByteArray) (x : ByteArray) (h : Nat) : rowN c (L ++ [x]) h (L.length / 2 ^ h) = rowN c L h (L.length / 2 ^ h) := by
  refine List.map_congr_left fun j hj => ?_
  exact nd_app c L [x] h j (within.1 (List.mem_range.1 hj))
theorem divN_next {n j q : Nat} (hq : n + 1 = 2 ^ j * (q + 1)) : n / 2 ^ j = q ∧ (n + 1) / 2 ^ j = q + 1 := by
  have hp := Nat.two_pow_pos j
  have e : n = q * 2 ^ j + (2 ^ j - 1) := by
    rw [Nat.mul_add, Nat.mul_one, Nat.mul_comm] at hq
    omega
  refine ⟨?_, last_at hq⟩
  rw [e, Nat.mul_comm q, Nat.mul_add_div hp, Nat.div_eq_of_lt (by omega), Nat.add_zero]
theorem div_stay {n j : Nat} (h : (n + 1) % 2 ^ j ≠ 0) : (n + 1) / 2 ^ j = n / 2 ^ j := by
  have hp := Nat.two_pow_pos j
  have h1 := Nat.div_add_mod (n + 1) (2 ^ j)
  have h2 := Nat.mod_lt (n + 1) hp
  generalize (n + 1) / 2 ^ j = Q at *
  generalize (n + 1) % 2 ^ j = R at *
  have e : n = 2 ^ j * Q + (R - 1) := by omega
  have hR : R - 1 < 2 ^ j := by omega
  rw [e, Nat.mul_add_div hp, Nat.div_eq_of_lt hR, Nat.add_zero]
theorem lvj_start (c : Nat) (L : List ByteArray) (x : ByteArray) {H : Nat} (hH : 0 < H) : (lvl c L H).set 0 ((lvl c L H).getD 0 [] ++ [nd c (L ++ [x]) 0 L.length]) = lvj c L x 0 H := by
  apply List.ext_getElem?
  intro j
  rw [List.getElem?_set]
  by_cases h0 : 0 = j
  · subst h0
    rw [if_pos rfl, if_pos (by simpa [lvl] using hH), lvl_at c L hH, Nat.pow_zero, Nat.div_one]
    have := rowN_app c L x 0
    rw [Nat.pow_zero, Nat.div_one] at this
    rw [← this, rowN_more]
    simp [lvj, hH]
  · rw [if_neg h0]
    by_cases hj : j < H
    · simp only [lvl, lvj, List.getElem?_map, List.getElem?_range hj, Option.map_some]
      rw [if_neg (by omega), rowN_app]
    · rw [List.getElem?_eq_none (by simp [lvl]; omega), List.getElem?_eq_none (by simp [lvj]; omega)]
theorem lvj_step (c : Nat) (L : List ByteArray) (x : ByteArray) {h H q : Nat} (hH : h + 1 < H) (hq : L.length + 1 = 2 ^ (h + 1) * (q + 1)) : (lvj c L x h H).set (h + 1) ((lvj c L x h H).getD (h + 1) [] ++ [nd c (L ++ [x]) (h + 1) q]) = lvj c L x (h + 1) H := by
  obtain ⟨e1, e2⟩ := divN_next hq
  apply List.ext_getElem?
  intro j
  rw [List.getElem?_set]
  by_cases h0 : h + 1 = j
  · subst h0
    rw [if_pos rfl, if_pos (by rw [lvj_len]; exact hH), lvj_at c L x h hH, if_neg (by omega), e1, rowN_more]
    simp [lvj, hH, e2]
  · rw [if_neg h0]
    by_cases hj : j < H
    · simp only [lvj, List.getElem?_map, List.getElem?_range hj, Option.map_some]
      by_cases hjh : j ≤ h
      · rw [if_pos hjh, if_pos (by omega)]
      · rw [if_neg hjh, if_neg (by omega)]
    · rw [List.getElem?_eq_none (by simp [lvj]; omega), List.getElem?_eq_none (by simp [lvj]; omega)]
theorem lvj_more (c : Nat) (L : List ByteArray) (x : ByteArray) {h H : Nat} (hH : h < H) (ht : L.length < 2 ^ H) : lvj c L x h H ++ [[]] = lvj c L x h (H + 1) := by
  rw [lvj, lvj, List.range_succ, List.map_append]
  have : rowN c (L ++ [x]) H (if H ≤ h then (L.length + 1) / 2 ^ H else L.length / 2 ^ H) = [] := by
    rw [if_neg (by omega), Nat.div_eq_of_lt ht]
    rfl
  rw [List.map_singleton, this]
theorem lvj_end (c : Nat) (L : List ByteArray) (x : ByteArray) {t H : Nat} (ht : tr 64 (L.length + 1) = t) (hH : H ≤ 64) : lvj c L x t H = lvl c (L ++ [x]) H := by
  rw [lvj, lvl, List.length_append, List.length_singleton]
  refine List.map_congr_left fun j hj => ?_
  by_cases hjt : j ≤ t
  · rw [if_pos hjt]
  · rw [if_neg hjt, div_stay ((tr_lt 64 j (L.length + 1) (by have := List.mem_range.1 hj; omega)).1 (by omega))]
theorem own_chs {S : Nat → Prop} {w w' : World} {B' T s n : Nat} {y : Value} {cs : List Value} (h : w.ownsRow B' T s y n cs) (hn : ∀ g, y.ownBlock = some g → ¬ S g) (hc : ChS S w w') : w'.ownsRow B' T s y n cs :=
  row_keep h fun g e => hc.block g (by obtain ⟨_, c, hh⟩ := own_block h e; exact (Array.getElem?_eq_some_iff.1 hh).1) (hn g e)
/-- As an item is laid at the reference: its nodes up to the height h; what is answered up to the height k. -/
structure RA (w wr : World) (B q : Nat) (K : Int) (L : List ByteArray) (x : ByteArray) (h k gA0 : Nat) (vs0 : List Value) (gA cA : Nat) (vs : List Value) (v : Value) : Prop where
  lv : Lv wr B q K gA cA vs (lvj (clk K) L x h vs.length)
  hh : h < vs.length
  top : L.length < 2 ^ vs.length
  out : OwnS wr w.heap.size v (nw (clk K) (L ++ [x]) k)
  nf : ∀ g, v.ownBlock = some g → ¬ Foot q gA vs g
  ch : ChS (Foot q gA0 vs0) w wr
  ft : ∀ b, Foot q gA vs b → Foot q gA0 vs0 b ∨ w.heap.size ≤ b
section
variable {w wr wa : World} {B q gA0 gA cA h k : Nat} {K : Int} {L : List ByteArray} {x : ByteArray} {vs0 vs : List Value} {v : Value}
theorem RA.next (H : RA w wr B q K L x h k gA0 vs0 gA cA vs v) (hb : Below wr.heap.size wr wa) : RA w wa B q K L x h k gA0 vs0 gA cA vs v :=
  ⟨H.lv.next hb, H.hh, H.top, own_next H.out hb (Nat.le_refl _), H.nf, H.ch.trans (ChS.of (S := fun _ => False) hb) (fun _ _ e => e.elim), H.ft⟩
/-- The list that is answered grows. -/
theorem RA.grow {v' : Value} {k' : Nat} (H : RA w wr B q K L x h k gA0 vs0 gA cA vs v) (ho : OwnS wa w.heap.size v' (nw (clk K) (L ++ [x]) k')) (hg : wr.grownBy wa v.ownBlock) (hf : v'.ownBlock = v.ownBlock ∨ ∀ g, v'.ownBlock = some g → wr.heap.size ≤ g) :
    RA w wa B q K L x h k' gA0 vs0 gA cA vs v' := by
  refine ⟨H.lv.same fun b hb => hg.block b (H.lv.foot hb).2 fun e => H.nf b e.symm hb, H.hh, H.top, ho, fun g e hb => ?_, H.ch.trans (ChS.grown (S := fun b => v.ownBlock = some b) hg fun b e => e) fun b hb e => ?_, H.ft⟩
  · rcases hf with hf | hf
    · exact H.nf g (by rw [← hf]; exact e) hb
    · have := hf g e
      have := (H.lv.foot hb).2
      omega
  · have := (own_block H.out e).1
    omega
theorem RA.outlt (H : RA w wr B q K L x h k gA0 vs0 gA cA vs v) {g : Nat} (e : v.ownBlock = some g) : w.heap.size ≤ g ∧ g < wr.heap.size := by
  obtain ⟨h1, c, h2⟩ := own_block H.out e
  exact ⟨h1, (Array.getElem?_eq_some_iff.1 h2).1⟩
/-- A node at the next level. -/
theorem RA.put (H : RA w wr B q K L x h k gA0 vs0 gA cA vs v) (hi : h + 1 < vs.length) {p : Nat} (hq : L.length + 1 = 2 ^ (h + 1) * (p + 1)) {y y' : Value} {d : ByteArray} (hd : nd (clk K) (L ++ [x]) (h + 1) p = d) (hy : vs.getD (h + 1) dv = y)
    (r1 : OwnS wa B y' ((lvj (clk K) L x h vs.length).getD (h + 1) [] ++ [d]))
    (r2 : (∃ g n cap, y = .slice (some ⟨g, 0, none⟩) n cap ∧ y' = .slice (some ⟨g, 0, none⟩) (n + 1) cap ∧ wr.grownBy wa (some g)) ∨ (wr.grownBy wa none ∧ ∀ g, y'.ownBlock = some g → wr.heap.size ≤ g)) :
    RA w (wa.setCell ⟨gA, h + 1, none⟩ y') B q K L x (h + 1) k gA0 vs0 gA cA (vs.set (h + 1) y') v ∧ wa.cell? ⟨gA, h + 1, none⟩ = some y ∧ wa.frozen? ⟨gA, h + 1, none⟩ = false ∧ wa.cell? ⟨q, 1, none⟩ = some (.slice (some ⟨gA, 0, none⟩) vs.length cA) := by
  obtain ⟨hL6, hch6, hft6, cx6, fx6, cq6⟩ := H.lv.app hi hy r1 r2
  rw [← hd, lvj_step _ _ _ hi hq] at hL6
  refine ⟨⟨by rw [List.length_set]; exact hL6, by rw [List.length_set]; exact hi, by rw [List.length_set]; exact H.top, own_chs H.out H.nf hch6, fun g e hb => ?_, H.ch.trans hch6 fun b hb e => ?_, fun b hb => ?_⟩, cx6, fx6, cq6⟩
  · rcases hft6 g hb with hb | hb
    · exact H.nf g e hb
    · have := (H.outlt e).2
      omega
  · rcases H.ft b e with e | e
    · exact e
    · omega
  · rcases hft6 b hb with hb | hb
    · exact H.ft b hb
    · exact .inr (Nat.le_trans H.ch.size hb)
/-- A level more. -/
theorem RA.lev {gA' cA' : Nat} (H : RA w wr B q K L x h k gA0 vs0 gA cA vs v) (ho : OwnV wa B (.slice (some ⟨gA', 0, none⟩) (vs.length + 1) cA') (vs ++ [dv])) (hg : wr.grownBy wa (some gA)) (hf : gA' = gA ∨ wr.heap.size ≤ gA') :
    RA w (wa.setCell ⟨q, 1, none⟩ (.slice (some ⟨gA', 0, none⟩) (vs.length + 1) cA')) B q K L x h k gA0 vs0 gA' cA' (vs ++ [dv]) v ∧ wa.cell? ⟨q, 1, none⟩ = some (.slice (some ⟨gA, 0, none⟩) vs.length cA) ∧ wa.frozen? ⟨q, 1, none⟩ = false := by
  obtain ⟨hL6, hch6, hft6, cq6, fq6⟩ := H.lv.level ho hg hf
  rw [lvj_more _ _ _ H.hh H.top] at hL6
  refine ⟨⟨by rw [List.length_append, List.length_singleton]; exact hL6, by rw [List.length_append, List.length_singleton]; have := H.hh; omega, ?_, own_chs H.out H.nf hch6, fun g e hb => ?_, H.ch.trans hch6 fun b hb e => ?_, fun b hb => ?_⟩, cq6, fq6⟩
  · rw [List.length_append, List.length_singleton, Nat.pow_succ]
    have := H.top
    omega
  · rcases hft6 g hb with hb | hb
    · exact H.nf g e hb
    · have := (H.outlt e).2
      omega
  · rcases H.ft b e with e | e
    · exact e
    · omega
  · rcases hft6 b hb with hb | hb
    · exact H.ft b hb
    · exact .inr (Nat.le_trans H.ch.size hb)
end
end Go.Proofs.YtdkcliblbaldhaaDoor
