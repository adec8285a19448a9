/-
  JWalkB, JWalkC, JEnd, JWalkD, JWalkE in one text. Own work.
-/
import Derived.Test.YtdkcliblbaldhaaDoorJWalkA
import Derived.Test.YtdkcliblbaldhaaDoorPlan2
import Derived.Deep.RegionHeld3
import Derived.Laws.StructEq
import Derived.Test.YtdkcliblbaldhaaDoorPlan3
/-
  Walks of package kin: beside; what join holds. Own work.
-/
namespace Go.Proofs.YtdkcliblbaldhaaDoor
open Go.RowKit
open Cv (RdC zl cU cov)
open Pl (pw)
attribute [local go_sem ↓] Go.wp_at_zero Go.wp_at_succ
/-- A block in its two cells. -/
def Tw (w : World) (g : Nat) (h : Int) (k : Nat) : Prop := w.heap[g]? = some (.cells #[.int .i64 h, .int .u64 (k : Int)] 82 (0, 0))
section
variable {w W : World} {g k : Nat} {h : Int}
theorem Tw.cells (t : Tw w g h k) : w.cell? ⟨g, 0, none⟩ = some (.int .i64 h) ∧ w.cell? ⟨g, 1, none⟩ = some (.int .u64 (k : Int)) :=
  ⟨by rw [cell_of_row w g 0 _ _ (0, 0) t]; rfl, by rw [cell_of_row w g 1 _ _ (0, 0) t]; rfl⟩
theorem Tw.fz (t : Tw w g h k) (j : Nat) : w.frozen? ⟨g, j, none⟩ = false := frozen_of_row w g j _ _ t
theorem Tw.lt (t : Tw w g h k) : g < w.heap.size := (Array.getElem?_eq_some_iff.1 t).1
theorem Tw.same (t : Tw w g h k) (hb : W.heap[g]? = w.heap[g]?) : Tw W g h k := hb.trans t
theorem Tw.next (t : Tw w g h k) (hb : Below w.heap.size w W) : Tw W g h k := t.same (hb.block g t.lt)
theorem tw_new (w : World) (h : Int) (k : Nat) : Tw (w.alloc (.cells #[.int .i64 h, .int .u64 (k : Int)] 82)) w.heap.size h k := heap_alloc_new w _
/-- A block is put in its place. -/
def putB (w : World) (g : Nat) (h : Int) (k : Nat) : World := (w.setCell ⟨g, 0, none⟩ (.int .i64 h)).setCell ⟨g, 1, none⟩ (.int .u64 (k : Int))
theorem Tw.put (t : Tw w g h k) (h' : Int) (k' : Nat) : Tw (putB w g h' k') g h' k' := by
  have h0 := heap_setCell_same w g 0 _ _ (.int .i64 h') t
  exact heap_setCell_same _ g 1 _ _ (.int .u64 (k' : Int)) h0
theorem putB_ch (w : World) (g : Nat) (h : Int) (k : Nat) : ChT (fun x => x = g) w (putB w g h k) := ((ChT.refl (fun x => x = g) w).set g 0 _ rfl).set g 1 _ rfl
end
theorem beside_any (w : World) (h k : Nat) (hk : k < 2 ^ 64) (r : Nat) (hr : sb k = r) :
    Calls Tryd.prog 65 #[.agg #[.int .i64 (h : Int), .int .u64 (k : Int)]] w fun e w' => e = .returned (.agg #[.int .i64 (h : Int), .int .u64 (r : Int)]) ∧ Below w.heap.size w w' := by
  have ex : bits .xor .u64 (k : Int) 1 = (r : Int) := by rw [← hr, ← sb_xor]; exact bits_xor_u64_nat k 1 (by omega) (by decide)
  have t1 := tw_new w (h : Int) k
  have hb := bal (Below.refl w.heap.size w) (.cells #[.int .i64 (h : Int), .int .u64 (k : Int)] 82)
  have hz : (w.alloc (.cells #[.int .i64 (h : Int), .int .u64 (k : Int)] 82)).heap.size = w.heap.size + 1 := World.size_alloc ..
  obtain ⟨W, hW⟩ : ∃ W, w.alloc (.cells #[.int .i64 (h : Int), .int .u64 (k : Int)] 82) = W := ⟨_, rfl⟩
  rw [hW] at t1 hb hz
  have t2 := tw_new W 0 0
  have hb2 := bal (Below.refl W.heap.size W) (.cells #[.int .i64 0, .int .u64 ((0 : Nat) : Int)] 82)
  have t1' := t1.next hb2
  rw [show ((0 : Nat) : Int) = 0 from rfl] at hb2 t1'
  have t2' : Tw (W.alloc (.cells #[.int .i64 0, .int .u64 0] 82)) W.heap.size 0 0 := t2
  obtain ⟨W2, hW2⟩ : ∃ W2, W.alloc (.cells #[.int .i64 0, .int .u64 0] 82) = W2 := ⟨_, rfl⟩
  rw [hW2] at t2' hb2 t1'
  rw [hz] at t2'
  obtain ⟨c0, c1⟩ := t1'.cells
  obtain ⟨d0, d1⟩ := t2'.cells
  have f0 := t2'.fz 0
  have f1 := t2'.fz 1
  have hp := t2'.put (h : Int) r
  have hch := putB_ch W2 (w.heap.size + 1) (h : Int) r
  unfold putB at hp hch
  obtain ⟨s0, s1⟩ := hp.cells
  clear hk hr t2 t1
  go_enter Tryd.func65, Tryd.ntmps65
  go_wp2
  refine bodyPost_ret (v := .agg #[.int .i64 (h : Int), .int .u64 (r : Int)]) (by simp [results, Tryd.results65, go_sem, s0, s1]) rfl ⟨rfl, ?_⟩
  exact (bnext hb hb2).trans (hch.below (by rintro b rfl; omega))
/-- What join holds: blocks side by side in the cell at s0 + 1, their digests in the cell behind it. -/
structure JS (w : World) (s0 : Nat) (v u : Value) (T : List (Nat × Nat)) (P : List ByteArray) : Prop where
  ct : w.heap[s0 + 1]? = some (.cells #[v] 42 (0, 0))
  cp : w.heap[s0 + 2]? = some (.cells #[u] 22 (0, 0))
  ot : Cv.OwnB w (s0 + 3) v (zl T)
  op : OwnS w (s0 + 3) u P
section
variable {w W : World} {s0 q : Nat} {v u : Value} {T : List (Nat × Nat)} {P : List ByteArray}
theorem JS.lt (h : JS w s0 v u T P) : s0 + 2 < w.heap.size := (Array.getElem?_eq_some_iff.1 h.cp).1
theorem JS.same (h : JS w s0 v u T P) (hb : ∀ b, b < w.heap.size → s0 + 1 ≤ b → b ≠ q → W.heap[b]? = w.heap[b]?) (hv : ∀ g, v.ownBlock = some g → g ≠ q) (hu : ∀ g, u.ownBlock = some g → g ≠ q) (hq : s0 + 2 < q) : JS W s0 v u T P := by
  have hl := h.lt
  refine ⟨(hb _ (by omega) (by omega) (by omega)).trans h.ct, (hb _ hl (by omega) (by omega)).trans h.cp, keep_row h.ot fun g hg hg2 => hb g (World.ownsRow.lt h.ot g hg).2 (by omega) (hv g hg), keep_row h.op fun g hg hg2 => hb g (World.ownsRow.lt h.op g hg).2 (by omega) (hu g hg)⟩
theorem JS.next (h : JS w s0 v u T P) (hb : Below w.heap.size w W) : JS W s0 v u T P := by
  have hl := h.lt
  exact ⟨(hb.block _ (by omega)).trans h.ct, (hb.block _ hl).trans h.cp, row_nextJ h.ot hb, row_nextJ h.op hb⟩
theorem JS.apart (h : JS w s0 v u T P) {g : Nat} (hg : v.ownBlock = some g) : u.ownBlock ≠ some g := fun hu => by
  obtain ⟨_, c, hc⟩ := own_block h.ot hg
  obtain ⟨_, c', hc'⟩ := own_block h.op hu
  rw [hc] at hc'
  injection hc' with hc'
  injection hc' with _ h2 _
  exact absurd h2 (by decide)
end
/-- A list cut at its end stays one's own. -/
theorem own_cut {w : World} {B T s : Nat} {g cap n m : Nat} {xs ys : List Value} (h : w.ownsRow B T s (.slice (some ⟨g, 0, none⟩) n cap) n (xs ++ ys)) (hm : xs.length = m * s) (hl : m ≤ n) : w.ownsRow B T s (.slice (some ⟨g, 0, none⟩) m cap) m xs := by
  obtain ⟨h1, h2⟩ := h
  refine ⟨hm, ?_⟩
  rcases h2 with ⟨h2, _⟩ | ⟨g', cap', cur, hv, hg, hh, hc, hm2, hs, hx⟩
  · cases h2
  · cases hv
    refine .inr ⟨g, cap, cur, rfl, hg, hh, by omega, hm2, hs, ?_⟩
    have e : cur.toList.take (m * s) = (cur.toList.take (n * s)).take (m * s) := by
      rw [List.take_take]
      congr 1
      have := Nat.mul_le_mul_right s hl
      omega
    rw [e, hx, ← hm, List.take_left]
theorem own_len {w : World} {B T s n m c : Nat} {ao : Option Addr} {xs : List Value} (h : w.ownsRow B T s (.slice ao m c) n xs) : m = n := by
  rcases h.2 with ⟨h2, h3⟩ | ⟨_, _, _, h2, _⟩
  · cases h2; exact h3.symm
  · cases h2; rfl
theorem own_some {w : World} {B T s n m c : Nat} {ao : Option Addr} {xs : List Value} (h : w.ownsRow B T s (.slice ao m c) n xs) (hn : 0 < n) : ∃ g, ao = some ⟨g, 0, none⟩ ∧ B ≤ g ∧ g < w.heap.size := by
  rcases h.2 with ⟨_, h3⟩ | ⟨g, _, _, h2, hg, hh, _⟩
  · omega
  · cases h2; exact ⟨g, rfl, hg, (Array.getElem?_eq_some_iff.1 hh).1⟩
/-- Something appended in a region that draws its order. -/
theorem step_apR (w : World) {ops : Array Oper} {o : Oper} {a : Act} {K : Act → World → Prop} {Q : Exit → Act → World → Prop} {E : Prop} (hgd : o.guard = none)
    (s x : Operand) (t : TypeId) (hop : o.op = Op.call { callee := Callee.builtin Builtin.append, args := #[s, x], argTypes := #[t, t] })
    (B : Nat) (e : TypeId) (i : TypeInfo) (z : Value) (size bytes : Nat) (h1 : Tryd.prog.underlying t = some (.slice e)) (h2 : Tryd.prog.info? e = some i) (h3 : i.zero = some z) (h4 : i.size = size) (h5 : i.bytes = bytes) (h6 : z.cells.size = size) (h7 : 0 < size)
    (v : Value) (n : Nat) (xs : List Value) (hs : a.eval s = v) (hown : w.ownsRow B e size v n xs) (ad : Addr) (m cap : Nat) (news : List Value) (hx : a.eval x = .slice (some ad) m cap) (hn : news.length = m * size) (hc : ∀ j u, news[j]? = some u → w.cell? (ad.add j) = some u) (h1c : ∀ u ∈ news, u.oneCell' = true)
    (b1 : n + m ≤ maxLen) (b2 : (n + m) * bytes ≤ 140737488355328) (hB : B ≤ w.heap.size)
    (hK : ∀ v' w', w'.ownsRow B e size v' (n + m) (xs ++ news) → w.grownBy w' v.ownBlock → K (a.put o.dst v') w') : if Region.wanted o (yielded ops a.tmps) = true then Oper.wp Tryd.prog o a w K Q else E := by
  have hw : Region.wanted o (yielded ops a.tmps) = true := by simp [Region.wanted, hgd]
  rw [if_pos hw]
  obtain ⟨v', w', hrun, r1, r2, _⟩ := run_append_own (P := Tryd.prog) w B t o.type e i z size bytes h1 h2 h3 h4 h5 h6 h7 v n xs hown ad m cap news hn hc h1c b1 b2 hB
  unfold Oper.wp
  simp [execOp, hop, resolve, invoke, builtin, hs, hx, hrun, Result.andThen]
  exact hK v' w' r1 r2
theorem step_apB (w : World) {ops : Array Oper} {o : Oper} {a : Act} {K : Act → World → Prop} {Q : Exit → Act → World → Prop} {E : Prop} (hgd : o.guard = none)
    (s x : Operand) (hop : o.op = Op.call { callee := Callee.builtin Builtin.append, args := #[s, x], argTypes := #[42, 42] })
    (B : Nat) (v : Value) (T : List (Nat × Nat)) (hs : a.eval s = v) (hown : Cv.OwnB w B v (zl T)) (g h k : Nat) (hx : a.eval x = .slice (some ⟨g, 0, none⟩) 1 1) (hc : Tw w g (h : Int) k) (hl : T.length ≤ 1000) (hB : B ≤ w.heap.size)
    (hK : ∀ v' w', Cv.OwnB w' B v' (zl (T ++ [(h, k)])) → w.grownBy w' v.ownBlock → K (a.put o.dst v') w') : if Region.wanted o (yielded ops a.tmps) = true then Oper.wp Tryd.prog o a w K Q else E := by
  obtain ⟨i0, hi, hz0, hz1, hz2⟩ := info_parts Cv.Tryd.infoB
  obtain ⟨c0, c1⟩ := hc.cells
  refine step_apR w hgd s x 42 hop B 82 i0 (.agg #[.int .i64 0, .int .u64 0]) 2 16 Tryd.underlying42 hi hz0 hz1 hz2 rfl (by decide) v _ _ hs hown ⟨g, 0, none⟩ 1 1 [.int .i64 (h : Int), .int .u64 (k : Int)] hx rfl (fun j u hj => ?_) (by intro u hu; simp at hu; rcases hu with rfl | rfl <;> rfl) (by rw [Cv.zl_len]; unfold maxLen; omega) (by rw [Cv.zl_len]; omega) hB (fun v' w' r1 r2 => hK v' w' ?_ r2)
  · match j, hj with
    | 0, hj => simp at hj; subst hj; simpa [Addr.add] using c0
    | 1, hj => simp at hj; subst hj; simpa [Addr.add] using c1
  · rw [Cv.zl_app, Cv.OwnB, Cv.cB_app, List.length_append]
    exact r1
theorem step_apS (w : World) {ops : Array Oper} {o : Oper} {a : Act} {K : Act → World → Prop} {Q : Exit → Act → World → Prop} {E : Prop} (hgd : o.guard = none)
    (s x : Operand) (hop : o.op = Op.call { callee := Callee.builtin Builtin.append, args := #[s, x], argTypes := #[22, 22] })
    (B : Nat) (v : Value) (P : List ByteArray) (hs : a.eval s = v) (hown : OwnS w B v P) (g : Nat) (d : ByteArray) (hx : a.eval x = .slice (some ⟨g, 0, none⟩) 1 1) (hc : w.cell? ⟨g, 0, none⟩ = some (.string d)) (hl : P.length ≤ 1000) (hB : B ≤ w.heap.size)
    (hK : ∀ v' w', OwnS w' B v' (P ++ [d]) → w.grownBy w' v.ownBlock → K (a.put o.dst v') w') : if Region.wanted o (yielded ops a.tmps) = true then Oper.wp Tryd.prog o a w K Q else E := by
  obtain ⟨i0, hi, hz0, hz1, hz2⟩ := info_parts Tryd.infoS
  refine step_apR w hgd s x 22 hop B 9 i0 (.string ByteArray.empty) 1 16 Tryd.underlying22 hi hz0 hz1 hz2 rfl (by decide) v _ _ hs hown ⟨g, 0, none⟩ 1 1 [.string d] hx rfl (fun j u hj => ?_) (by intro u hu; simp at hu; rcases hu with rfl; rfl) (by unfold maxLen; omega) (by omega) hB (fun v' w' r1 r2 => hK v' w' ?_ r2)
  · match j, hj with
    | 0, hj => simp at hj; subst hj; simpa [Addr.add] using hc
  · rw [OwnS, List.map_append, List.length_append]
    exact r1
end Go.Proofs.YtdkcliblbaldhaaDoor
/-
  Walks of package kin: join (the function literal). Own work.
-/
namespace Go.Proofs.YtdkcliblbaldhaaDoor
open Go.RowKit
open Cv (RdC zl cU cov)
open Pl (pw)
attribute [local go_sem ↓] Go.wp_at_zero Go.wp_at_succ
/-- Blocks and their digests. -/
abbrev dgF (F : Nat → Nat → ByteArray) (T : List (Nat × Nat)) : List ByteArray := T.map fun b => F b.1 b.2
/-- Join on its way: the block at q, all before it side by side. -/
structure JL (w wr : World) (s0 q : Nat) (F : Nat → Nat → ByteArray) (h k h' k' : Nat) (v u : Value) : Prop where
  js : JS wr s0 v u (cov 0 (k' * pw h')) (dgF F (cov 0 (k' * pw h')))
  tw : Tw wr q (h' : Int) k'
  hv : ∀ g, v.ownBlock = some g → g < q
  en : (k' + 1) * pw h' = (k + 1) * pw h
  hh : h ≤ h'
  be : Below (s0 + 1) w wr
  hq : s0 + 2 < q
section
variable {w wr W : World} {s0 q : Nat} {F : Nat → Nat → ByteArray} {h k h' k' : Nat} {v u : Value}
theorem JL.hu (j : JL w wr s0 q F h k h' k' v u) : ∀ g, u.ownBlock = some g → g ≠ q := own_ty j.js.op j.tw (by decide)
theorem JL.next (j : JL w wr s0 q F h k h' k' v u) (hb : Below wr.heap.size wr W) : JL w W s0 q F h k h' k' v u :=
  ⟨j.js.next hb, j.tw.next hb, j.hv, j.en, j.hh, j.be.trans (hb.mono (by have := j.js.lt; omega)), j.hq⟩
end
theorem getD_last {α : Type} (l : List α) (x d : α) : (l ++ [x]).getD l.length d = x := by rw [List.getD_eq_getElem?_getD, List.getElem?_append_right (Nat.le_refl _), Nat.sub_self]; rfl
/-- What stands at the end of both lists. -/
theorem js_last {w : World} {s0 : Nat} {v u : Value} {C : List (Nat × Nat)} {h k : Nat} {P : List ByteArray} {d : ByteArray} (j : JS w s0 v u (C ++ [(h, k)]) (P ++ [d])) : ∃ g cap gu cu, v = .slice (some ⟨g, 0, none⟩) (C.length + 1) cap ∧ u = .slice (some ⟨gu, 0, none⟩) (P.length + 1) cu ∧ C.length + 1 ≤ cap ∧ P.length + 1 ≤ cu ∧ w.cell? ⟨g, C.length * 2, none⟩ = some (.int .i64 (h : Int)) ∧ w.cell? ⟨g, C.length * 2 + 1, none⟩ = some (.int .u64 (k : Int)) ∧ w.cell? ⟨gu, P.length, none⟩ = some (.string d) := by
  have o1 := j.ot
  have o2 := j.op
  obtain ⟨ao, n, c, rfl⟩ := Cv.own_slice o1
  obtain ⟨au, nu, cu, rfl⟩ := Cv.own_slice o2
  have l1 := own_len o1
  have l2 := own_len o2
  obtain ⟨g, rfl, _, _⟩ := own_some o1 (by rw [Cv.zl_len, List.length_append]; simp)
  obtain ⟨gu, rfl, _, _⟩ := own_some o2 (by rw [List.length_append]; simp)
  rw [Cv.zl_len, List.length_append, List.length_singleton] at l1
  rw [List.length_append, List.length_singleton] at l2
  subst l1 l2
  have e1 := o1.cells (g := g) rfl
  have e2 := o2.cells (g := gu) rfl
  obtain ⟨f1, f2⟩ := Cv.cB_get (zl (C ++ [(h, k)])) C.length (h : Int) k (by rw [Cv.zl_app, List.getElem?_append_right (by rw [Cv.zl_len]; exact Nat.le_refl _), Cv.zl_len, Nat.sub_self]; rfl)
  have f1 := e1 _ _ f1
  have f2 := e1 _ _ f2
  have f3 := e2 P.length (.string d) (by rw [List.map_append, List.getElem?_append_right (by rw [List.length_map]; exact Nat.le_refl _), List.length_map, Nat.sub_self]; rfl)
  rw [Addr.add_mid, Nat.zero_add, Nat.mul_comm] at f1 f2
  rw [Addr.add_mid, Nat.zero_add] at f3
  have c1 : C.length + 1 ≤ c := by
    rcases o1.2 with ⟨h1, _⟩ | ⟨_, _, _, h1, _, _, h2, _⟩
    · cases h1
    · obtain ⟨_, _, e3⟩ := Value.slice.inj h1; rw [Cv.zl_len, List.length_append, List.length_singleton, ← e3] at h2; exact h2
  have c2 : P.length + 1 ≤ cu := by
    rcases o2.2 with ⟨h1, _⟩ | ⟨_, _, _, h1, _, _, h2, _⟩
    · cases h1
    · obtain ⟨_, _, e3⟩ := Value.slice.inj h1; rw [List.length_append, List.length_singleton, ← e3] at h2; exact h2
  exact ⟨g, c, gu, cu, rfl, rfl, c1, c2, f1, f2, f3⟩
/-- A join: both lists are cut, the block is put in its place. -/
theorem JL.up {w wr : World} {s0 q : Nat} {F : Nat → Nat → ByteArray} {h k h' a g cap gu cu : Nat} (C : List (Nat × Nat)) (hC : cov 0 (2 * a * pw h') = C) (hl : (k + 1) * pw h ≤ 2 ^ 40) (j : JL w wr s0 q F h k h' (2 * a + 1) (.slice (some ⟨g, 0, none⟩) (C.length + 1) cap) (.slice (some ⟨gu, 0, none⟩) (C.length + 1) cu)) (W : World) (hW : (((putB wr q ((h' + 1 : Nat) : Int) a).setCell ⟨s0 + 1, 0, none⟩ (.slice (some ⟨g, 0, none⟩) C.length cap)).setCell ⟨s0 + 2, 0, none⟩ (.slice (some ⟨gu, 0, none⟩) C.length cu)) = W) :
    JL w W s0 q F h k (h' + 1) a (.slice (some ⟨g, 0, none⟩) C.length cap) (.slice (some ⟨gu, 0, none⟩) C.length cu) := by
  have hen := j.en
  have ht : cov 0 ((2 * a + 1) * pw h') = C ++ [(h', 2 * a)] := by
    rw [← hC]
    refine cov_odd h' a (Nat.le_trans ?_ hl)
    rw [← hen]
    exact Nat.mul_le_mul_right _ (by omega)
  have ht2 : cov 0 (a * pw (h' + 1)) = C := by rw [Cv.mul_half, hC]
  have hjs := j.js
  rw [ht] at hjs
  have hne1 := (World.ownsRow.lt hjs.ot g rfl).1
  have hne2 := (World.ownsRow.lt hjs.op gu rfl).1
  have hgq : g < q := j.hv g rfl
  have huq : gu ≠ q := j.hu gu rfl
  have hq := j.hq
  have ch1 := putB_ch wr q ((h' + 1 : Nat) : Int) a
  obtain ⟨W1, hW1⟩ : ∃ W1, putB wr q ((h' + 1 : Nat) : Int) a = W1 := ⟨_, rfl⟩
  have tw1 := j.tw.put ((h' + 1 : Nat) : Int) a
  rw [hW1] at ch1 hW tw1
  have b1 : ∀ b, b ≠ q → W1.heap[b]? = wr.heap[b]? := fun b hb => ch1.block b hb
  have c1 := (b1 (s0 + 1) (by omega)).trans hjs.ct
  have c2 := (b1 (s0 + 2) (by omega)).trans hjs.cp
  have x1 := heap_setCell_same W1 (s0 + 1) 0 _ _ (.slice (some ⟨g, 0, none⟩) C.length cap) c1
  obtain ⟨W2, hW2⟩ : ∃ W2, W1.setCell ⟨s0 + 1, 0, none⟩ (.slice (some ⟨g, 0, none⟩) C.length cap) = W2 := ⟨_, rfl⟩
  have k2 : ChT (fun b => b = s0 + 1) W1 W2 := by rw [← hW2]; exact (ChT.refl _ _).set (s0 + 1) 0 _ rfl
  rw [hW2] at x1 hW
  have c2' := (k2.block (s0 + 2) (by omega)).trans c2
  have x2 := heap_setCell_same W2 (s0 + 2) 0 _ _ (.slice (some ⟨gu, 0, none⟩) C.length cu) c2'
  have k3 : ChT (fun b => b = s0 + 2) W2 W := by rw [← hW]; exact (ChT.refl _ _).set (s0 + 2) 0 _ rfl
  rw [hW] at x2
  have bb : ∀ b, b ≠ q → b ≠ s0 + 1 → b ≠ s0 + 2 → W.heap[b]? = wr.heap[b]? := fun b h1 h2 h3 => ((k3.block b h3).trans (k2.block b h2)).trans (b1 b h1)
  have ot : Cv.OwnB W (s0 + 3) (.slice (some ⟨g, 0, none⟩) C.length cap) (zl C) := by
    have o := hjs.ot
    rw [Cv.zl_app, Cv.OwnB, Cv.cB_app, List.length_append] at o
    have o' := own_cut (n := (zl C).length + 1) (m := (zl C).length) (by rw [Cv.zl_len] at o ⊢; exact o) (Cv.cB_len (zl C)) (by omega)
    rw [Cv.zl_len] at o'
    have o2 : Cv.OwnB wr (s0 + 3) (.slice (some ⟨g, 0, none⟩) C.length cap) (zl C) := by
      show wr.ownsRow (s0 + 3) 82 2 _ (zl C).length (Cv.cB (zl C))
      rw [Cv.zl_len]; exact o'
    refine keep_row o2 fun b hb _ => ?_
    cases hb
    exact bb g (by omega) (by omega) (by omega)
  have op : OwnS W (s0 + 3) (.slice (some ⟨gu, 0, none⟩) C.length cu) (dgF F C) := by
    have o := hjs.op
    rw [dgF, List.map_append, OwnS, List.map_append, List.length_append] at o
    have o' := own_cut (n := (dgF F C).length + 1) (m := (dgF F C).length) (by rw [List.length_map] at o ⊢; exact o) (by rw [List.length_map, Nat.mul_one]) (by omega)
    rw [List.length_map] at o'
    have o2 : OwnS wr (s0 + 3) (.slice (some ⟨gu, 0, none⟩) C.length cu) (dgF F C) := by
      show wr.ownsRow (s0 + 3) 9 1 _ (dgF F C).length ((dgF F C).map Value.string)
      rw [List.length_map]; exact o'
    refine keep_row o2 fun b hb _ => ?_
    cases hb
    exact bb gu huq (by omega) (by omega)
  refine ⟨?_, ?_, j.hv, ?_, by have := j.hh; omega, ?_, hq⟩
  · rw [ht2]
    exact ⟨(k3.block (s0 + 1) (by omega)).trans x1, x2, ot, op⟩
  · exact (tw1.same (k2.block q (by omega))).same (k3.block q (by omega))
  · rw [← hen, Cv.mul_half, show 2 * (a + 1) = 2 * a + 1 + 1 by omega]
  · have hz1 : Below (s0 + 1) wr W1 := ch1.below (by rintro b rfl; omega)
    have hz2 : Below (s0 + 1) W1 W2 := k2.below (by rintro b rfl; omega)
    have hz3 : Below (s0 + 1) W2 W := k3.below (by rintro b rfl; omega)
    exact ((j.be.trans hz1).trans hz2).trans hz3
end Go.Proofs.YtdkcliblbaldhaaDoor
/-
  Walks of package kin: what join leaves at its end. Own work.
-/
namespace Go.Proofs.YtdkcliblbaldhaaDoor
open Go.RowKit
open Cv (RdC zl cU cov)
open Pl (pw)
attribute [local go_sem ↓] Go.wp_at_zero Go.wp_at_succ
/-- What join starts its last assignment with: the block at q, both lists. -/
structure J0 (W : World) (s0 q : Nat) (v u : Value) (C : List (Nat × Nat)) (P : List ByteArray) (h k : Nat) : Prop where
  js : JS W s0 v u C P
  tw : Tw W q (h : Int) k
  hv : ∀ g, v.ownBlock = some g → g ≠ q
  hq : s0 + 2 < q
  hC : C.length ≤ 1000
  hP : P.length ≤ 1000
/-- What is known of frame and world, operation by operation. -/
structure RJ (W : World) (s0 q : Nat) (v u : Value) (C : List (Nat × Nat)) (P : List ByteArray) (h k : Nat) (x : ByteArray) (b0 b1 b2 b3 b4 b5 b6 b7 b8 b9 : Bool) (y0 y1 y2 y3 y4 y5 y6 y7 : Value) (w : World) : Prop where
  a0 : b0 = true → y0 = v
  a1 : b1 = true → y1 = .agg #[.int .i64 (h : Int), .int .u64 (k : Int)]
  a2 : b2 = true → ∃ g, y2 = .slice (some ⟨g, 0, none⟩) 1 1 ∧ Tw w g (h : Int) k ∧ W.heap.size ≤ g
  a4 : b4 = true → y4 = u
  a5 : b5 = true → y5 = .string x
  a6 : b6 = true → ∃ g, y6 = .slice (some ⟨g, 0, none⟩) 1 1 ∧ w.heap[g]? = some (.cells #[.string x] 9 (0, 0)) ∧ W.heap.size ≤ g
  tw : Tw w q (h : Int) k
  n3 : b3 = false → Cv.OwnB w (s0 + 3) v (zl C)
  m3 : b3 = true → Cv.OwnB w (s0 + 3) y3 (zl (C ++ [(h, k)]))
  n7 : b7 = false → OwnS w (s0 + 3) u P
  m7 : b7 = true → OwnS w (s0 + 3) y7 (P ++ [x])
  c8 : w.heap[s0 + 1]? = some (.cells #[bif b8 then y3 else v] 42 (0, 0))
  c9 : w.heap[s0 + 2]? = some (.cells #[bif b9 then y7 else u] 22 (0, 0))
  be : Below (s0 + 1) W w
section
variable {W w w' : World} {s0 q : Nat} {v u : Value} {C : List (Nat × Nat)} {P : List ByteArray} {h k : Nat} {x : ByteArray} {b0 b1 b2 b3 b4 b5 b6 b7 b8 b9 : Bool} {y0 y1 y2 y3 y4 y5 y6 y7 : Value}
theorem RJ.lt (r : RJ W s0 q v u C P h k x b0 b1 b2 b3 b4 b5 b6 b7 b8 b9 y0 y1 y2 y3 y4 y5 y6 y7 w) : s0 + 2 < w.heap.size := (Array.getElem?_eq_some_iff.1 r.c9).1
/-- Where some blocks alone have changed. -/
theorem RJ.keep (r : RJ W s0 q v u C P h k x b0 b1 b2 b3 b4 b5 b6 b7 b8 b9 y0 y1 y2 y3 y4 y5 y6 y7 w) (hb : Below w.heap.size w w') : RJ W s0 q v u C P h k x b0 b1 b2 b3 b4 b5 b6 b7 b8 b9 y0 y1 y2 y3 y4 y5 y6 y7 w' := by
  have hl := r.lt
  refine ⟨r.a0, r.a1, fun e => ?_, r.a4, r.a5, fun e => ?_, r.tw.next hb, fun e => row_nextJ (r.n3 e) hb, fun e => row_nextJ (r.m3 e) hb, fun e => row_nextJ (r.n7 e) hb, fun e => row_nextJ (r.m7 e) hb, (hb.block _ (by omega)).trans r.c8, (hb.block _ hl).trans r.c9, r.be.trans (hb.mono (by omega))⟩
  · obtain ⟨g, e1, e2, e3⟩ := r.a2 e
    exact ⟨g, e1, e2.next hb, e3⟩
  · obtain ⟨g, e1, e2, e3⟩ := r.a6 e
    exact ⟨g, e1, (hb.block g (Array.getElem?_eq_some_iff.1 e2).1).trans e2, e3⟩
/-- A list of one's own and another of another kind. -/
theorem kinds {Z : World} {B B' T T' s s' n n' : Nat} {a b : Value} {xs ys : List Value} (o : Z.ownsRow B T s a n xs) (o' : Z.ownsRow B' T' s' b n' ys) (hT : T ≠ T') {g : Nat} (h1 : a.ownBlock = some g) (h2 : b.ownBlock = some g) : False := by
  obtain ⟨_, c, hc⟩ := own_block o h1
  obtain ⟨_, c', hc'⟩ := own_block o' h2
  rw [hc] at hc'
  injection hc' with hc'
  injection hc' with _ h2 _
  exact hT h2
/-- The blocks are appended to. -/
theorem RJ.app3 (j : J0 W s0 q v u C P h k) (r : RJ W s0 q v u C P h k x b0 b1 b2 false b4 b5 b6 false false false y0 y1 y2 y3 y4 y5 y6 y7 w) (v' : Value) (g : w.grownBy w' v.ownBlock) (o : Cv.OwnB w' (s0 + 3) v' (zl (C ++ [(h, k)]))) : RJ W s0 q v u C P h k x b0 b1 b2 true b4 b5 b6 false false false y0 y1 y2 v' y4 y5 y6 y7 w' := by
  have hl := r.lt
  have o0 := r.n3 rfl
  have u0 := r.n7 rfl
  have lo : ∀ k, v.ownBlock = some k → s0 + 3 ≤ k ∧ k < W.heap.size := fun k hk => World.ownsRow.lt j.js.ot k hk
  have hb : ∀ b, b < w.heap.size → some b ≠ v.ownBlock → w'.heap[b]? = w.heap[b]? := fun b h1 h2 => g.block b h1 h2
  refine ⟨r.a0, r.a1, fun e => ?_, r.a4, r.a5, fun e => ?_, r.tw.same (hb q r.tw.lt fun e => j.hv q e.symm rfl), (fun e => by cases e), fun _ => o, fun _ => keep_row u0 fun b h1 _ => hb b (World.ownsRow.lt u0 b h1).2 fun e => kinds o0 u0 (by decide) e.symm h1, (fun e => by cases e), (hb _ (by omega) fun e => by have := lo _ e.symm; omega).trans r.c8, (hb _ hl fun e => by have := lo _ e.symm; omega).trans r.c9, r.be.trans ((Below.refl _ _).grown g (by omega) fun k hk => by have := lo k hk; omega)⟩
  · obtain ⟨g', e1, e2, e3⟩ := r.a2 e
    exact ⟨g', e1, e2.same (hb g' e2.lt fun e => by have := lo _ e.symm; omega), e3⟩
  · obtain ⟨g', e1, e2, e3⟩ := r.a6 e
    exact ⟨g', e1, (hb g' (Array.getElem?_eq_some_iff.1 e2).1 fun e => by have := lo _ e.symm; omega).trans e2, e3⟩
/-- The digests are appended to. -/
theorem RJ.app7 (j : J0 W s0 q v u C P h k) (r : RJ W s0 q v u C P h k x b0 b1 b2 true b4 b5 b6 false false false y0 y1 y2 y3 y4 y5 y6 y7 w) (u' : Value) (g : w.grownBy w' u.ownBlock) (o : OwnS w' (s0 + 3) u' (P ++ [x])) : RJ W s0 q v u C P h k x b0 b1 b2 true b4 b5 b6 true false false y0 y1 y2 y3 y4 y5 y6 u' w' := by
  have hl := r.lt
  have o0 := r.m3 rfl
  have u0 := r.n7 rfl
  have lo : ∀ k, u.ownBlock = some k → s0 + 3 ≤ k ∧ k < W.heap.size := fun k hk => World.ownsRow.lt j.js.op k hk
  have hb : ∀ b, b < w.heap.size → some b ≠ u.ownBlock → w'.heap[b]? = w.heap[b]? := fun b h1 h2 => g.block b h1 h2
  refine ⟨r.a0, r.a1, fun e => ?_, r.a4, r.a5, fun e => ?_, r.tw.same (hb q r.tw.lt fun e => own_ty u0 r.tw (by decide) q e.symm rfl), (fun e => by cases e), fun _ => keep_row o0 fun b h1 _ => hb b (World.ownsRow.lt o0 b h1).2 fun e => kinds o0 u0 (by decide) h1 e.symm, (fun e => by cases e), fun _ => o, (hb _ (by omega) fun e => by have := lo _ e.symm; omega).trans r.c8, (hb _ hl fun e => by have := lo _ e.symm; omega).trans r.c9, r.be.trans ((Below.refl _ _).grown g (by omega) fun k hk => by have := lo k hk; omega)⟩
  · obtain ⟨g', e1, e2, e3⟩ := r.a2 e
    exact ⟨g', e1, e2.same (hb g' e2.lt fun e => by have := lo _ e.symm; omega), e3⟩
  · obtain ⟨g', e1, e2, e3⟩ := r.a6 e
    exact ⟨g', e1, (hb g' (Array.getElem?_eq_some_iff.1 e2).1 fun e => by have := lo _ e.symm; omega).trans e2, e3⟩
/-- The blocks are put in their place. -/
theorem RJ.put8 (j : J0 W s0 q v u C P h k) (r : RJ W s0 q v u C P h k x b0 b1 b2 true b4 b5 b6 true false false y0 y1 y2 y3 y4 y5 y6 y7 w) : RJ W s0 q v u C P h k x b0 b1 b2 true b4 b5 b6 true true false y0 y1 y2 y3 y4 y5 y6 y7 (w.setCell ⟨s0 + 1, 0, none⟩ y3) := by
  have hq := j.hq
  have hW := j.js.lt
  have hch := (ChT.refl (fun b => b = s0 + 1) w).set (s0 + 1) 0 y3 rfl
  refine ⟨r.a0, r.a1, fun e => ?_, r.a4, r.a5, fun e => ?_, r.tw.same (hch.block q (by omega)), (fun e => by cases e), fun _ => keep_row (r.m3 rfl) fun b _ hb => hch.block b (by omega), (fun e => by cases e), fun _ => keep_row (r.m7 rfl) fun b _ hb => hch.block b (by omega), heap_setCell_same w (s0 + 1) 0 _ _ y3 r.c8, (hch.block (s0 + 2) (by omega)).trans r.c9, r.be.trans (hch.below (by rintro b rfl; omega))⟩
  · obtain ⟨g', e1, e2, e3⟩ := r.a2 e
    exact ⟨g', e1, e2.same (hch.block g' (by omega)), e3⟩
  · obtain ⟨g', e1, e2, e3⟩ := r.a6 e
    exact ⟨g', e1, (hch.block g' (by omega)).trans e2, e3⟩
theorem RJ.put9 (j : J0 W s0 q v u C P h k) (r : RJ W s0 q v u C P h k x b0 b1 b2 true b4 b5 b6 true true false y0 y1 y2 y3 y4 y5 y6 y7 w) : RJ W s0 q v u C P h k x b0 b1 b2 true b4 b5 b6 true true true y0 y1 y2 y3 y4 y5 y6 y7 (w.setCell ⟨s0 + 2, 0, none⟩ y7) := by
  have hq := j.hq
  have hW := j.js.lt
  have hch := (ChT.refl (fun b => b = s0 + 2) w).set (s0 + 2) 0 y7 rfl
  refine ⟨r.a0, r.a1, fun e => ?_, r.a4, r.a5, fun e => ?_, r.tw.same (hch.block q (by omega)), (fun e => by cases e), fun _ => keep_row (r.m3 rfl) fun b _ hb => hch.block b (by omega), (fun e => by cases e), fun _ => keep_row (r.m7 rfl) fun b _ hb => hch.block b (by omega), (hch.block (s0 + 1) (by omega)).trans r.c8, heap_setCell_same w (s0 + 2) 0 _ _ y7 r.c9, r.be.trans (hch.below (by rintro b rfl; omega))⟩
  · obtain ⟨g', e1, e2, e3⟩ := r.a2 e
    exact ⟨g', e1, e2.same (hch.block g' (by omega)), e3⟩
  · obtain ⟨g', e1, e2, e3⟩ := r.a6 e
    exact ⟨g', e1, (hch.block g' (by omega)).trans e2, e3⟩
end
theorem tw_at (Z : World) (g : Nat) (h : Int) (k : Nat) (hg : g = Z.heap.size) : Tw (Z.alloc (.cells #[.int .i64 h, .int .u64 (k : Int)] 82)) g h k := by subst hg; exact tw_new Z h k
/-- The frame: what goes in, what has come up. -/
structure RF (W : World) (s0 q : Nat) (v u : Value) (C : List (Nat × Nat)) (P : List ByteArray) (h k : Nat) (x : ByteArray) (L : Nat → Bool) (a : Act) (w : World) : Prop where
  sz : a.tmps.size = 53
  df : a.defers = []
  i1 : a.tmps.getD 1 undef = .string x
  i2 : a.tmps.getD 2 undef = .pointer (some ⟨s0 + 1, 0, none⟩)
  i4 : a.tmps.getD 4 undef = .pointer (some ⟨s0 + 2, 0, none⟩)
  i5 : a.tmps.getD 5 undef = .pointer (some ⟨q, 0, none⟩)
  rj : RJ W s0 q v u C P h k x (L 0) (L 1) (L 2) (L 3) (L 4) (L 5) (L 6) (L 7) (L 8) (L 9) (a.tmps.getD 45 undef) (a.tmps.getD 46 undef) (a.tmps.getD 47 undef) (a.tmps.getD 48 undef) (a.tmps.getD 49 undef) (a.tmps.getD 50 undef) (a.tmps.getD 51 undef) (a.tmps.getD 52 undef) w
section
variable {W w w' : World} {s0 q : Nat} {v u : Value} {C : List (Nat × Nat)} {P : List ByteArray} {h k : Nat} {x : ByteArray} {L L' : Nat → Bool} {a : Act}
theorem put_at (a : Act) (d t : Nat) (y : Value) (hd : d < a.tmps.size) : (a.put (some d) y).tmps.getD t undef = if t = d then y else a.tmps.getD t undef := by
  by_cases e : t = d
  · subst e; rw [if_pos rfl, getD_put a t y hd]
  · rw [if_neg e, getD_put_ne a d t y (Ne.symm e)]
theorem RF.put (f : RF W s0 q v u C P h k x L a w) (d : Nat) (h1 : 44 < d) (h2 : d < 53) (y : Value) (r : RJ W s0 q v u C P h k x (L' 0) (L' 1) (L' 2) (L' 3) (L' 4) (L' 5) (L' 6) (L' 7) (L' 8) (L' 9) (if 45 = d then y else a.tmps.getD 45 undef) (if 46 = d then y else a.tmps.getD 46 undef) (if 47 = d then y else a.tmps.getD 47 undef) (if 48 = d then y else a.tmps.getD 48 undef) (if 49 = d then y else a.tmps.getD 49 undef) (if 50 = d then y else a.tmps.getD 50 undef) (if 51 = d then y else a.tmps.getD 51 undef) (if 52 = d then y else a.tmps.getD 52 undef) w') : RF W s0 q v u C P h k x L' (a.put (some d) y) w' := by
  have hs : d < a.tmps.size := by rw [f.sz]; exact h2
  refine ⟨by simp [Act.put, f.sz], f.df, ?_, ?_, ?_, ?_, ?_⟩
  · rw [put_at a d 1 y hs, if_neg (by omega)]; exact f.i1
  · rw [put_at a d 2 y hs, if_neg (by omega)]; exact f.i2
  · rw [put_at a d 4 y hs, if_neg (by omega)]; exact f.i4
  · rw [put_at a d 5 y hs, if_neg (by omega)]; exact f.i5
  · rw [put_at a d 45 y hs, put_at a d 46 y hs, put_at a d 47 y hs, put_at a d 48 y hs, put_at a d 49 y hs, put_at a d 50 y hs, put_at a d 51 y hs, put_at a d 52 y hs]
    exact r
end
section
variable {W : World} {s0 q : Nat} {v u : Value} {C : List (Nat × Nat)} {P : List ByteArray} {h k : Nat} {x : ByteArray} {Q : Exit → Act → World → Prop} {ops : List Oper} {ty : TypeId} {ps : String} {af : Array Edge}
theorem not_yet {L : Nat → Bool} {i j : Nat} (hcl : ∀ i k, L i = true → dep ops i k = true → L k = true) (hj : L j = false) (hd : dep ops i j = true) : L i = false := by
  cases h : L i with
  | false => rfl
  | true => rw [hcl i j h hd] at hj; cases hj
theorem e0 (hd : dep ops 8 0 = true) : StepJ Tryd.prog Q ops (RF W s0 q v u C P h k x) 0 { dst := some 45, op := Op.load 42 (Operand.tmp 2), type := ty, pos := ps, after := af, guard := none } := by
  intro L a w K hI hj hcl hdep hK
  have r := hI.rj
  have h8 := not_yet hcl hj hd
  have c := cell_of_one r.c8
  rw [h8, cond_false] at c
  have t2 := hI.i2
  show Oper.wp _ _ a w K _
  go_simp
  exact hK _ _ (hI.put 45 (by decide) (by decide) v ⟨fun _ => rfl, r.a1, r.a2, r.a4, r.a5, r.a6, r.tw, r.n3, r.m3, r.n7, r.m7, r.c8, r.c9, r.be⟩)
theorem e1 : StepJ Tryd.prog Q ops (RF W s0 q v u C P h k x) 1 { dst := some 46, op := Op.load 82 (Operand.tmp 5), type := ty, pos := ps, after := af, guard := none } := by
  intro L a w K hI hj hcl hdep hK
  have r := hI.rj
  obtain ⟨c0, c1⟩ := r.tw.cells
  have t5 := hI.i5
  show Oper.wp _ _ a w K _
  go_simp
  exact hK _ _ (hI.put 46 (by decide) (by decide) _ ⟨r.a0, fun _ => rfl, r.a2, r.a4, r.a5, r.a6, r.tw, r.n3, r.m3, r.n7, r.m7, r.c8, r.c9, r.be⟩)
theorem e2 (hd : (af.toList.any fun e => e.on == 1 && Region.binds .any e) = true) : StepJ Tryd.prog Q ops (RF W s0 q v u C P h k x) 2 { dst := some 47, op := Op.buildSlice 42 1 #[(0, Operand.tmp 46)], type := ty, pos := ps, after := af, guard := none } := by
  intro L a w K hI hj hcl hdep hK
  have r := hI.rj
  have t46 := r.a1 (hdep 1 hd)
  have u46 : a.tmps[46]?.getD undef = .agg #[.int .i64 (h : Int), .int .u64 (k : Int)] := by rw [← Array.getD_eq_getD_getElem?]; exact t46
  have hb := bal (Below.refl w.heap.size w) (.cells #[.int .i64 (h : Int), .int .u64 (k : Int)] 82)
  have r' := r.keep hb
  show Oper.wp _ _ a w K _
  go_simp
  exact hK _ _ (hI.put 47 (by decide) (by decide) _ ⟨r'.a0, r'.a1, fun _ => ⟨_, rfl, tw_new w _ _, r.be.size⟩, r'.a4, r'.a5, r'.a6, r'.tw, r'.n3, r'.m3, r'.n7, r'.m7, r'.c8, r'.c9, r'.be⟩)
theorem e3 (j : J0 W s0 q v u C P h k) (h0 : (af.toList.any fun e => e.on == 0 && Region.binds .any e) = true) (h2 : (af.toList.any fun e => e.on == 2 && Region.binds .any e) = true) (d7 : dep ops 7 3 = true) (d8 : dep ops 8 3 = true) (d9 : dep ops 9 3 = true) : StepJ Tryd.prog Q ops (RF W s0 q v u C P h k x) 3 { dst := some 48, op := Op.call { callee := Callee.builtin Builtin.append, args := #[Operand.tmp 45, Operand.tmp 47], argTypes := #[42, 42] }, type := ty, pos := ps, after := af, guard := none } := by
  intro L a w K hI hj hcl hdep hK
  have r := hI.rj
  have t45 := r.a0 (hdep 0 h0)
  obtain ⟨g, t47, htw, _⟩ := r.a2 (hdep 2 h2)
  rw [hj, not_yet hcl hj d7, not_yet hcl hj d8, not_yet hcl hj d9] at r
  have hl := r.lt
  have st := step_apB w (ops := #[]) (o := { dst := some 48, op := Op.call { callee := Callee.builtin Builtin.append, args := #[Operand.tmp 45, Operand.tmp 47], argTypes := #[42, 42] }, type := ty, pos := ps, after := af, guard := none }) (a := a) (K := K) (Q := Q) (E := False) rfl (Operand.tmp 45) (Operand.tmp 47) rfl (s0 + 3) v C t45 (r.n3 rfl) g h k t47 htw j.hC hl (fun v' w' o g' => hK _ _ (hI.put 48 (by decide) (by decide) v' (by
    have r' := r.app3 j v' g' o
    show RJ W s0 q v u C P h k x (L 0) (L 1) (L 2) true (L 4) (L 5) (L 6) (L 7) (L 8) (L 9) _ _ _ v' _ _ _ _ w'
    rw [not_yet hcl hj d7, not_yet hcl hj d8, not_yet hcl hj d9]
    exact r')))
  have hw : Region.wanted { dst := some 48, op := Op.call { callee := Callee.builtin Builtin.append, args := #[Operand.tmp 45, Operand.tmp 47], argTypes := #[42, 42] }, type := ty, pos := ps, after := af, guard := none } (yielded #[] a.tmps) = true := by simp [Region.wanted]
  rw [if_pos hw] at st
  exact st
theorem e4 (hd : dep ops 9 4 = true) : StepJ Tryd.prog Q ops (RF W s0 q v u C P h k x) 4 { dst := some 49, op := Op.load 22 (Operand.tmp 4), type := ty, pos := ps, after := af, guard := none } := by
  intro L a w K hI hj hcl hdep hK
  have r := hI.rj
  have h8 := not_yet hcl hj hd
  have c := cell_of_one r.c9
  rw [h8, cond_false] at c
  have t2 := hI.i4
  show Oper.wp _ _ a w K _
  go_simp
  exact hK _ _ (hI.put 49 (by decide) (by decide) u ⟨r.a0, r.a1, r.a2, fun _ => rfl, r.a5, r.a6, r.tw, r.n3, r.m3, r.n7, r.m7, r.c8, r.c9, r.be⟩)
theorem e5 : StepJ Tryd.prog Q ops (RF W s0 q v u C P h k x) 5 { dst := some 50, op := Op.move (Operand.tmp 1), type := ty, pos := ps, after := af, guard := none } := by
  intro L a w K hI hj hcl hdep hK
  have r := hI.rj
  have t2 := hI.i1
  show Oper.wp _ _ a w K _
  go_simp
  exact hK _ _ (hI.put 50 (by decide) (by decide) _ ⟨r.a0, r.a1, r.a2, r.a4, fun _ => rfl, r.a6, r.tw, r.n3, r.m3, r.n7, r.m7, r.c8, r.c9, r.be⟩)
theorem e6 (hd : (af.toList.any fun e => e.on == 5 && Region.binds .any e) = true) : StepJ Tryd.prog Q ops (RF W s0 q v u C P h k x) 6 { dst := some 51, op := Op.buildSlice 22 1 #[(0, Operand.tmp 50)], type := ty, pos := ps, after := af, guard := none } := by
  intro L a w K hI hj hcl hdep hK
  have r := hI.rj
  have t46 := r.a5 (hdep 5 hd)
  have u46 : a.tmps[50]?.getD undef = .string x := by rw [← Array.getD_eq_getD_getElem?]; exact t46
  have hb := bal (Below.refl w.heap.size w) (.cells #[.string x] 9)
  have r' := r.keep hb
  show Oper.wp _ _ a w K _
  go_simp
  exact hK _ _ (hI.put 51 (by decide) (by decide) _ ⟨r'.a0, r'.a1, r'.a2, r'.a4, r'.a5, fun _ => ⟨_, rfl, heap_alloc_new w _, r.be.size⟩, r'.tw, r'.n3, r'.m3, r'.n7, r'.m7, r'.c8, r'.c9, r'.be⟩)
theorem e7 (j : J0 W s0 q v u C P h k) (h3 : (af.toList.any fun e => e.on == 3 && Region.binds .any e) = true) (h4 : (af.toList.any fun e => e.on == 4 && Region.binds .any e) = true) (h6 : (af.toList.any fun e => e.on == 6 && Region.binds .any e) = true) (d8 : dep ops 8 7 = true) (d9 : dep ops 9 7 = true) : StepJ Tryd.prog Q ops (RF W s0 q v u C P h k x) 7 { dst := some 52, op := Op.call { callee := Callee.builtin Builtin.append, args := #[Operand.tmp 49, Operand.tmp 51], argTypes := #[22, 22] }, type := ty, pos := ps, after := af, guard := none } := by
  intro L a w K hI hj hcl hdep hK
  have r := hI.rj
  have t45 := r.a4 (hdep 4 h4)
  obtain ⟨g, t47, htw, _⟩ := r.a6 (hdep 6 h6)
  rw [hj, hdep 3 h3, not_yet hcl hj d8, not_yet hcl hj d9] at r
  have hl := r.lt
  have st := step_apS w (ops := #[]) (o := { dst := some 52, op := Op.call { callee := Callee.builtin Builtin.append, args := #[Operand.tmp 49, Operand.tmp 51], argTypes := #[22, 22] }, type := ty, pos := ps, after := af, guard := none }) (a := a) (K := K) (Q := Q) (E := False) rfl (Operand.tmp 49) (Operand.tmp 51) rfl (s0 + 3) u P t45 (r.n7 rfl) g x t47 (cell_of_one htw) j.hP hl (fun v' w' o g' => hK _ _ (hI.put 52 (by decide) (by decide) v' (by
    have r' := r.app7 j v' g' o
    show RJ W s0 q v u C P h k x (L 0) (L 1) (L 2) (L 3) (L 4) (L 5) (L 6) true (L 8) (L 9) _ _ _ _ _ _ _ v' w'
    rw [hdep 3 h3, not_yet hcl hj d8, not_yet hcl hj d9]
    exact r')))
  have hw : Region.wanted { dst := some 52, op := Op.call { callee := Callee.builtin Builtin.append, args := #[Operand.tmp 49, Operand.tmp 51], argTypes := #[22, 22] }, type := ty, pos := ps, after := af, guard := none } (yielded #[] a.tmps) = true := by simp [Region.wanted]
  rw [if_pos hw] at st
  exact st
theorem e8 (j : J0 W s0 q v u C P h k) (h3 : (af.toList.any fun e => e.on == 3 && Region.binds .any e) = true) (h7 : (af.toList.any fun e => e.on == 7 && Region.binds .any e) = true) (d9 : dep ops 9 8 = true) : StepJ Tryd.prog Q ops (RF W s0 q v u C P h k x) 8 { dst := none, op := Op.store 42 (Operand.tmp 2) (Operand.tmp 48), type := ty, pos := ps, after := af, guard := none } := by
  intro L a w K hI hj hcl hdep hK
  have r := hI.rj
  rw [hj, hdep 3 h3, hdep 7 h7, not_yet hcl hj d9] at r
  have c := cell_of_one r.c8
  rw [cond_false] at c
  have fz := free_of_one r.c8
  have t2 := hI.i2
  obtain ⟨va, vn, vc, t48⟩ := Cv.own_slice (r.m3 rfl)
  have r' := r.put8 j
  rw [t48] at r'
  show Oper.wp _ _ a w K _
  go_simp
  refine hK undef _ ⟨hI.sz, hI.df, hI.i1, hI.i2, hI.i4, hI.i5, ?_⟩
  show RJ W s0 q v u C P h k x (L 0) (L 1) (L 2) (L 3) (L 4) (L 5) (L 6) (L 7) true (L 9) _ _ _ _ _ _ _ _ _
  rw [hdep 3 h3, hdep 7 h7, not_yet hcl hj d9]
  rw [← t48] at r'
  rw [← t48]
  exact r'
theorem e9 (j : J0 W s0 q v u C P h k) (h3 : (af.toList.any fun e => e.on == 3 && Region.binds .any e) = true) (h7 : (af.toList.any fun e => e.on == 7 && Region.binds .any e) = true) (h8 : (af.toList.any fun e => e.on == 8 && Region.binds .any e) = true) : StepJ Tryd.prog Q ops (RF W s0 q v u C P h k x) 9 { dst := none, op := Op.store 22 (Operand.tmp 4) (Operand.tmp 52), type := ty, pos := ps, after := af, guard := none } := by
  intro L a w K hI hj hcl hdep hK
  have r := hI.rj
  rw [hj, hdep 3 h3, hdep 7 h7, hdep 8 h8] at r
  have c := cell_of_one r.c9
  rw [cond_false] at c
  have fz := free_of_one r.c9
  have t2 := hI.i4
  obtain ⟨va, vn, vc, t52⟩ := Cv.own_slice (r.m7 rfl)
  have r' := r.put9 j
  rw [t52] at r'
  show Oper.wp _ _ a w K _
  go_simp
  refine hK undef _ ⟨hI.sz, hI.df, hI.i1, hI.i2, hI.i4, hI.i5, ?_⟩
  show RJ W s0 q v u C P h k x (L 0) (L 1) (L 2) (L 3) (L 4) (L 5) (L 6) (L 7) (L 8) true _ _ _ _ _ _ _ _ _
  rw [hdep 3 h3, hdep 7 h7, hdep 8 h8]
  rw [← t52] at r'
  rw [← t52]
  exact r'
end
theorem rf_start {W w : World} {s0 q : Nat} {v u : Value} {C : List (Nat × Nat)} {P : List ByteArray} {h k : Nat} {x : ByteArray} {a : Act} (j : J0 W s0 q v u C P h k) (sz : a.tmps.size = 53) (df : a.defers = []) (i1 : a.tmps.getD 1 undef = .string x) (i2 : a.tmps.getD 2 undef = .pointer (some ⟨s0 + 1, 0, none⟩)) (i4 : a.tmps.getD 4 undef = .pointer (some ⟨s0 + 2, 0, none⟩)) (i5 : a.tmps.getD 5 undef = .pointer (some ⟨q, 0, none⟩)) (hb : Below W.heap.size W w) : RF W s0 q v u C P h k x (fun _ => false) a w := by
  have hl := j.js.lt
  have js := j.js.next hb
  exact ⟨sz, df, i1, i2, i4, i5, (fun e => by cases e), (fun e => by cases e), (fun e => by cases e), (fun e => by cases e), (fun e => by cases e), (fun e => by cases e), j.tw.next hb, fun _ => js.ot, (fun e => by cases e), fun _ => js.op, (fun e => by cases e), js.ct, js.cp, hb.mono (by omega)⟩
theorem rf_end {W w : World} {s0 q : Nat} {v u : Value} {C : List (Nat × Nat)} {P : List ByteArray} {h k : Nat} {x : ByteArray} {L : Nat → Bool} {a : Act} (f : RF W s0 q v u C P h k x L a w) (hL : ∀ k, k < 10 → L k = true) : ∃ v' u', JS w s0 v' u' (C ++ [(h, k)]) (P ++ [x]) ∧ Below (s0 + 1) W w := by
  have r := f.rj
  rw [hL 3 (by decide), hL 7 (by decide), hL 8 (by decide), hL 9 (by decide)] at r
  exact ⟨_, _, ⟨r.c8, r.c9, r.m3 rfl, r.m7 rfl⟩, r.be⟩
end Go.Proofs.YtdkcliblbaldhaaDoor
/-
  Walks of package kin: join (the function literal). Own work.
-/
namespace Go.Proofs.YtdkcliblbaldhaaDoor
open Go.RowKit
open Cv (RdC zl cU cov)
open Pl (pw)
attribute [local go_sem ↓] Go.wp_at_zero Go.wp_at_succ
theorem jl_bounds {w wr : World} {s0 q : Nat} {F : Nat → Nat → ByteArray} {h k h' k' : Nat} {v u : Value} (hl : (k + 1) * pw h ≤ 2 ^ 40) (j : JL w wr s0 q F h k h' k' v u) : h' ≤ 40 ∧ k' < 2 ^ 40 ∧ (cov 0 (k' * pw h')).length ≤ 40 ∧ k' * pw h' ≤ 2 ^ 40 := by
  have hen := j.en
  have h40 : (k' + 1) * pw h' ≤ 2 ^ 40 := by rw [hen]; exact hl
  have hp := Pl.pw_pos h'
  have h1 : k' + 1 ≤ (k' + 1) * pw h' := Nat.le_mul_of_pos_right _ hp
  have h2 : k' * pw h' ≤ (k' + 1) * pw h' := Nat.mul_le_mul_right _ (by omega)
  exact ⟨h40_of (by omega) h40, by omega, Cv.cov_forty _ (by omega), by omega⟩
set_option maxRecDepth 100000 in
set_option maxHeartbeats 4000000 in
theorem join_any (w : World) (s0 : Nat) (K : Int) (F : Nat → Nat → ByteArray) (h k : Nat) (v u : Value) (hJ : JS w s0 v u (cov 0 (k * pw h)) (dgF F (cov 0 (k * pw h)))) (hl : (k + 1) * pw h ≤ 2 ^ 40)
    (hT : ∀ W, Below (s0 + 1) w W → Tb W) (hK : w.cell? ⟨s0, 1, none⟩ = some (.int .i64 K))
    (hF : ∀ h' q, h ≤ h' → (q + 1) * pw (h' + 1) = (k + 1) * pw h → F (h' + 1) q = dg (clk K) (nodeT (F h' (2 * q)) (F h' (2 * q + 1)))) (hsz : ∀ a b, (F a b).size ≤ 32) (d : ByteArray) (hd : F h k = d) :
    Calls Tryd.prog 64 #[.agg #[.int .i64 (h : Int), .int .u64 (k : Int)], .string d, .pointer (some ⟨s0 + 1, 0, none⟩), .pointer (some ⟨s0, 0, none⟩), .pointer (some ⟨s0 + 2, 0, none⟩)] w fun e w' => e = .returned (.tuple #[]) ∧ (∃ v' u', JS w' s0 v' u' (cov 0 ((k + 1) * pw h)) (dgF F (cov 0 ((k + 1) * pw h)))) ∧ Below (s0 + 1) w w' := by
  have hJl := hJ.lt
  have hb := bal (Below.refl w.heap.size w) (.cells #[.int .i64 (h : Int), .int .u64 (k : Int)] 82)
  have hL : JL w (w.alloc (.cells #[.int .i64 (h : Int), .int .u64 (k : Int)] 82)) s0 w.heap.size F h k h k v u :=
    ⟨hJ.next hb, tw_new w _ _, fun g hg => (World.ownsRow.lt hJ.ot g hg).2, rfl, Nat.le_refl _, hb.mono (by omega), hJl⟩
  obtain ⟨ao, n, cap, rfl⟩ := Cv.own_slice hJ.ot
  have hn := own_len hJ.ot
  rw [Cv.zl_len] at hn
  subst hn
  have HX : Hid ((k + 1) * pw h ≤ 2 ^ 40 ∧ (∀ a b, (F a b).size ≤ 32) ∧ (∀ W, Below (s0 + 1) w W → Tb W ∧ W.cell? ⟨s0, 1, none⟩ = some (.int .i64 K)) ∧ (∀ h' q, h ≤ h' → (q + 1) * pw (h' + 1) = (k + 1) * pw h → F (h' + 1) q = dg (clk K) (nodeT (F h' (2 * q)) (F h' (2 * q + 1))))) :=
    ⟨hl, hsz, fun W hW => ⟨hT W hW, (hW.cell (p := ⟨s0, 1, none⟩) (Nat.lt_succ_self s0)).trans hK⟩, hF⟩
  have HL := hide hL
  have c0 := cell_of_one hL.js.ct
  have hlen := (jl_bounds hl hL).2.2.1
  have hlz : ((cov 0 (k * pw h)).length : Int) ≤ 40 := by omega
  subst hd
  clear hJ hJl hb hL hl hT hK hF hsz hlen
  go_enter Tryd.func64, Tryd.ntmps64
  go_wp2
  go_loopg [1, 7] (41 - h) (fun g dd i wr => ∃ (h' k' : Nat) (v u : Value), Hid (JL w wr s0 w.heap.size F h k h' k' v u) ∧ g = 41 - h' ∧ dd = .string (F h' k') ∧ i = .int .i64 (((cov 0 (k' * pw h')).length : Int) - 1))
  case atStart =>
    go_light
    exact ⟨h, k, _, _, HL, by omega, rfl, rfl⟩
  case round =>
    obtain ⟨h', k', v, u, HJ, rfl, rfl, rfl⟩ := hrel
    clear HL c0 hlz
    obtain ⟨b1, b2, b3, b4⟩ := jl_bounds HX.out.1 HJ.out
    by_cases hpar : k' % 2 = 1
    · obtain ⟨a, rfl⟩ : ∃ a, k' = 2 * a + 1 := ⟨k' / 2, by omega⟩
      obtain ⟨C, hC⟩ : ∃ C, cov 0 (2 * a * pw h') = C := ⟨_, rfl⟩
      have hcv : cov 0 ((2 * a + 1) * pw h') = C ++ [(h', 2 * a)] := by rw [← hC]; exact cov_odd h' a b4
      have hjs := HJ.out.js
      rw [hcv] at hjs
      have hlP : (dgF F C).length = C.length := List.length_map ..
      have hjs' : JS wr s0 v u (C ++ [(h', 2 * a)]) (dgF F C ++ [F h' (2 * a)]) := by rw [dgF, List.map_append] at hjs; exact hjs
      obtain ⟨g, cap, gu, cu, rfl, rfl, hc1, hc2, e1, e2, e3⟩ := js_last hjs'
      rw [hlP] at hc2 e3 HJ
      have hix : ((cov 0 ((2 * a + 1) * pw h')).length : Int) - 1 = (C.length : Int) := by rw [hcv, List.length_append, List.length_singleton]; omega
      rw [hix]
      have hC40 : C.length ≤ 40 := by rw [hcv, List.length_append, List.length_singleton] at b3; omega
      obtain ⟨x0, hx0⟩ : ∃ x0, F h' (2 * a) = x0 := ⟨_, rfl⟩
      obtain ⟨x1, hx1⟩ : ∃ x1, F h' (2 * a + 1) = x1 := ⟨_, rfl⟩
      obtain ⟨x2, hx2⟩ : ∃ x2, F (h' + 1) a = x2 := ⟨_, rfl⟩
      have hnd : dg (clk K) (nodeT x0 x1) = x2 := by
        rw [← hx2, HX.out.2.2.2 h' a HJ.out.hh (by rw [← HJ.out.en, Cv.mul_half, show 2 * (a + 1) = 2 * a + 1 + 1 by omega]), hx0, hx1]
      rw [hx0] at e3
      rw [hx1]
      obtain ⟨t, ht⟩ : ∃ t, C.length = t := ⟨_, rfl⟩
      have HUp : Hid (∀ W W', JL w W s0 w.heap.size F h k h' (2 * a + 1) (.slice (some ⟨g, 0, none⟩) (t + 1) cap) (.slice (some ⟨gu, 0, none⟩) (t + 1) cu) → (((putB W w.heap.size ((h' + 1 : Nat) : Int) a).setCell ⟨s0 + 1, 0, none⟩ (.slice (some ⟨g, 0, none⟩) t cap)).setCell ⟨s0 + 2, 0, none⟩ (.slice (some ⟨gu, 0, none⟩) t cu)) = W' → JL w W' s0 w.heap.size F h k (h' + 1) a (.slice (some ⟨g, 0, none⟩) t cap) (.slice (some ⟨gu, 0, none⟩) t cu)) := fun W W' h1 h2 => by
        subst ht
        exact JL.up C hC HX.out.1 h1 W' h2
      have hlen2 : ((cov 0 (a * pw (h' + 1))).length : Int) = (t : Int) := by rw [Cv.mul_half, hC, ht]
      rw [ht] at HJ e1 e2 e3 hc1 hc2 hC40 ⊢
      have HE : Hid (∀ W, Below wr.heap.size wr W → JL w W s0 w.heap.size F h k h' (2 * a + 1) (.slice (some ⟨g, 0, none⟩) (t + 1) cap) (.slice (some ⟨gu, 0, none⟩) (t + 1) cu) ∧ W.cell? ⟨g, t * 2, none⟩ = some (.int .i64 (h' : Int)) ∧ W.cell? ⟨g, t * 2 + 1, none⟩ = some (.int .u64 ((2 * a : Nat) : Int)) ∧ W.cell? ⟨gu, t, none⟩ = some (.string x0)) := fun W hW =>
        ⟨HJ.out.next hW, (hW.cell (World.block_lt_of_cell? wr _ e1)).trans e1, (hW.cell (World.block_lt_of_cell? wr _ e2)).trans e2, (hW.cell (World.block_lt_of_cell? wr _ e3)).trans e3⟩
      have HBs : Hid (∀ W, Calls Tryd.prog 65 #[.agg #[.int .i64 (h' : Int), .int .u64 ((2 * a + 1 : Nat) : Int)]] W fun e w' => e = .returned (.agg #[.int .i64 (h' : Int), .int .u64 ((2 * a : Nat) : Int)]) ∧ Below W.heap.size W w') := fun W => beside_any W h' (2 * a + 1) (by omega) (2 * a) (by unfold sb; rw [if_pos (by omega)]; omega)
      have HNo : Hid (∀ W, Below wr.heap.size wr W → Calls Tryd.prog 29 #[.int .i64 K, .string x0, .string x1] W fun e w' => e = .returned (.string x2) ∧ Below W.heap.size W w') := fun W hW => node_any W (HX.out.2.2.1 W ((HE.out W hW).1.be)).1 K x0 x1 (by have := HX.out.2.1 h' (2 * a); rw [hx0] at this; omega) (by have := HX.out.2.1 h' (2 * a + 1); rw [hx1] at this; omega) x2 hnd
      have hz0 : (0 : Int) ≤ (t : Int) := Int.natCast_nonneg _
      have ht1 : (t : Int) < ((t + 1 : Nat) : Int) := by omega
      have HG : Hid (h' ≤ 40 ∧ 2 * a + 1 < 2 ^ 40 ∧ t ≤ 40 ∧ t + 1 ≤ cap ∧ t + 1 ≤ cu ∧ ((cov 0 (a * pw (h' + 1))).length : Int) = (t : Int) ∧ F (h' + 1) a = x2) := ⟨b1, b2, hC40, hc1, hc2, hlen2, hx2⟩
      obtain ⟨kk, hkk⟩ : ∃ kk : Nat, 2 * a + 1 = kk := ⟨_, rfl⟩
      obtain ⟨k2, hk2⟩ : ∃ k2 : Nat, 2 * a = k2 := ⟨_, rfl⟩
      obtain ⟨tt, htt⟩ : ∃ tt : Nat, t + 1 = tt := ⟨_, rfl⟩
      rw [hkk, hk2, htt] at HE
      rw [hkk, hk2] at HBs
      rw [hkk, htt] at HUp
      rw [htt] at ht1
      clear hpar hC hcv hjs hjs' hix hlP hx0 hx1 hx2 hnd HJ e1 e2 e3 hc1 hc2 hC40 b1 b2 b3 b4 ht hlen2
      go_upto_region 2 with (fail)
      refine wp_region_planI (by kernel_rfl) [11, 12, 13, 14, 15, 16, 17, 18, 19, 20, 21] [] [.int .i64 (t : Int), .bool true, .bool true, .slice (some ⟨g, 0, none⟩) tt cap, .int .i64 (t : Int), .pointer (some ⟨g, t * 2, none⟩), .agg #[.int .i64 (h' : Int), .int .u64 (k2 : Int)], .agg #[.int .i64 (h' : Int), .int .u64 (kk : Int)], .agg #[.int .i64 (h' : Int), .int .u64 (k2 : Int)], .bool true, .bool true] (by kernel_rfl) rfl (fun j hj => by cases hj) (fun _ W => Below wr.heap.size wr W) (fun W _ hb => hb) ?step ?fin
      case step =>
        refine ⟨?_, ?_, ?_, ?_, ?_, ?_, ?_, ?_, ?_, ?_, ?_, trivial⟩
        · intro L Ac Wc K hI hj hcl hsm dep hK
          have t7 : Ac.tmps.getD 7 undef = .int .i64 (t : Int) := hsm 7 rfl
          show Oper.wp _ _ Ac Wc K _
          go_simp
          exact hK _ _ (.inr rfl) hI
        · intro L Ac Wc K hI hj hcl hsm dep hK
          have t11 : Ac.tmps.getD 11 undef = .int .i64 (t : Int) := dep 0 rfl
          show Oper.wp _ _ Ac Wc K _
          go_simp
          exact hK _ _ (.inr rfl) hI
        · intro L Ac Wc K hI hj hcl hsm dep hK
          have t12 : Ac.tmps.getD 12 undef = .bool true := dep 1 rfl
          show Oper.wp _ _ Ac Wc K _
          go_simp
          exact hK _ _ (.inr rfl) hI
        · intro L Ac Wc K hI hj hcl hsm dep hK
          have t2 : Ac.tmps.getD 2 undef = .pointer (some ⟨s0 + 1, 0, none⟩) := hsm 2 rfl
          refine ⟨true, (show Ac.tmps.getD 13 undef = .bool true from dep 2 rfl), ?_⟩
          rw [if_pos rfl]
          obtain ⟨j, e1, e2, e3⟩ := HE.out Wc hI
          have c1 := cell_of_one j.js.ct
          go_simp
          exact hK _ _ (.inr rfl) hI
        · intro L Ac Wc K hI hj hcl hsm dep hK
          have t7 : Ac.tmps.getD 7 undef = .int .i64 (t : Int) := hsm 7 rfl
          refine ⟨true, (show Ac.tmps.getD 13 undef = .bool true from dep 2 rfl), ?_⟩
          rw [if_pos rfl]
          go_simp
          exact hK _ _ (.inr rfl) hI
        · intro L Ac Wc K hI hj hcl hsm dep hK
          have t14 : Ac.tmps.getD 14 undef = .slice (some ⟨g, 0, none⟩) tt cap := dep 3 rfl
          have t15 : Ac.tmps.getD 15 undef = .int .i64 (t : Int) := dep 4 rfl
          refine ⟨true, (show Ac.tmps.getD 13 undef = .bool true from dep 2 rfl), ?_⟩
          rw [if_pos rfl]
          go_simp
          exact hK _ _ (.inr rfl) hI
        · intro L Ac Wc K hI hj hcl hsm dep hK
          have t16 : Ac.tmps.getD 16 undef = .pointer (some ⟨g, t * 2, none⟩) := dep 5 rfl
          refine ⟨true, (show Ac.tmps.getD 13 undef = .bool true from dep 2 rfl), ?_⟩
          rw [if_pos rfl]
          obtain ⟨j, e1, e2, e3⟩ := HE.out Wc hI
          go_simp
          exact hK _ _ (.inr rfl) hI
        · intro L Ac Wc K hI hj hcl hsm dep hK
          have t5 : Ac.tmps.getD 5 undef = .pointer (some ⟨w.heap.size, 0, none⟩) := hsm 5 rfl
          refine ⟨true, (show Ac.tmps.getD 13 undef = .bool true from dep 2 rfl), ?_⟩
          rw [if_pos rfl]
          obtain ⟨j, e1, e2, e3⟩ := HE.out Wc hI
          obtain ⟨c1, c2⟩ := j.tw.cells
          go_simp
          exact hK _ _ (.inr rfl) hI
        · intro L Ac Wc K hI hj hcl hsm dep hK
          have t18 : Ac.tmps.getD 18 undef = .agg #[.int .i64 (h' : Int), .int .u64 (kk : Int)] := dep 7 rfl
          refine ⟨true, (show Ac.tmps.getD 13 undef = .bool true from dep 2 rfl), ?_⟩
          rw [if_pos rfl]
          go_simp
          refine (HBs.out Wc).mono ?_
          rintro e w' ⟨rfl, hb'⟩
          exact hK _ _ (.inr rfl) (bnext hI hb')
        · intro L Ac Wc K hI hj hcl hsm dep hK
          have t17 : Ac.tmps.getD 17 undef = .agg #[.int .i64 (h' : Int), .int .u64 (k2 : Int)] := dep 6 rfl
          have t19 : Ac.tmps.getD 19 undef = .agg #[.int .i64 (h' : Int), .int .u64 (k2 : Int)] := dep 8 rfl
          refine ⟨true, (show Ac.tmps.getD 13 undef = .bool true from dep 2 rfl), ?_⟩
          rw [if_pos rfl]
          go_simp
          exact hK _ _ (.inr rfl) hI
        · intro L Ac Wc K hI hj hcl hsm dep hK
          have t13 : Ac.tmps.getD 13 undef = .bool true := dep 2 rfl
          have t20 : Ac.tmps.getD 20 undef = .bool true := dep 9 rfl
          show Oper.wp _ _ Ac Wc K _
          go_simp
          exact hK _ _ (.inr rfl) hI
      case fin =>
        intro L W hall hW
        clear hall
        simp only [puts]
        go_simp
        have HS : Hid (∀ Z, Below wr.heap.size wr Z → Z.cell? ⟨s0, 1, none⟩ = some (.int .i64 K) ∧ Z.cell? ⟨s0 + 2, 0, none⟩ = some (.slice (some ⟨gu, 0, none⟩) tt cu) ∧ Z.cell? ⟨gu, t, none⟩ = some (.string x0)) := fun Z hZ => ⟨(HX.out.2.2.1 Z (HE.out Z hZ).1.be).2, cell_of_one (HE.out Z hZ).1.js.cp, (HE.out Z hZ).2.2.2⟩
        obtain ⟨s1, s2, s3⟩ := HS.out W hW
        go_upto_region 3 with (fail)
        go_region_held3 (fun Z => Z.cell? ⟨s0, 1, none⟩ = some (.int .i64 K) ∧ Z.cell? ⟨s0 + 2, 0, none⟩ = some (.slice (some ⟨gu, 0, none⟩) tt cu) ∧ Z.cell? ⟨gu, t, none⟩ = some (.string x0))
          (exact HS.out _ (by first | exact hW | exact hW.drew | exact bnext hW.drew hb3 | exact bnext hW hb3)) (first
          | (go_at_call 29; with_reducible refine (HNo.out _ (by first | exact hW.drew | exact hW)).mono ?_; rintro e w3 ⟨rfl, hb3⟩))
        all_goals
          have hb03 : Below wr.heap.size wr w3 := by first | exact bnext hW.drew hb3 | exact bnext hW hb3
          have hj3 := (HE.out w3 hb03).1
          obtain ⟨q0, q1⟩ := hj3.tw.cells
          have f0 := hj3.tw.fz 0
          have f1 := hj3.tw.fz 1
          obtain ⟨h1, hh1⟩ : ∃ h1 : Nat, h' + 1 = h1 := ⟨_, rfl⟩
          have e5 : IntKind.i64.wrap ((h' : Int) + 1) = (h1 : Int) := by have := HG.out.1; rw [IntKind.wrap_i64]; omega
          have e6 : Int.tdiv (kk : Int) 2 = (a : Int) := by rw [Int.tdiv_eq_ediv_of_nonneg (by omega)]; omega
          have e7 : IntKind.u64.wrap (a : Int) = (a : Int) := by have := HG.out.2.1; rw [IntKind.wrap_u64]; omega
          have HJ3 := hide hj3
          clear s1 s2 s3 HNo HBs hj3
          go_upto_region 5 with (fail)
          have hch := putB_ch w3 w.heap.size (h1 : Int) a
          obtain ⟨W4, hW4⟩ : ∃ W4, putB w3 w.heap.size (h1 : Int) a = W4 := ⟨_, rfl⟩
          rw [hW4] at hch
          unfold putB at hW4
          rw [hW4]
          have hq2 := HJ3.out.hq
          have b1 := (hch.block (s0 + 1) (by show ¬ s0 + 1 = _; omega)).trans HJ3.out.js.ct
          have b2 := (hch.block (s0 + 2) (by show ¬ s0 + 2 = _; omega)).trans HJ3.out.js.cp
          have c1 := cell_of_one b1
          have c2 := cell_of_one b2
          have g1 := free_of_one b1
          have g2 := free_of_one b2
          have hct : (t : Int) ≤ (cap : Int) := by have := HG.out.2.2.2.1; omega
          have hcu : (t : Int) ≤ (cu : Int) := by have := HG.out.2.2.2.2.1; omega
          clear q0 q1 f0 f1 e5 e6 e7 b1 b2
          have HW4 := hide hW4
          clear hW4
          go_region
          have HF : Hid (∀ W5, (W4.setCell ⟨s0 + 1, 0, none⟩ (.slice (some ⟨g, 0, none⟩) t cap)).setCell ⟨s0 + 2, 0, none⟩ (.slice (some ⟨gu, 0, none⟩) t cu) = W5 → JL w W5.drew s0 w.heap.size F h k (h' + 1) a (.slice (some ⟨g, 0, none⟩) t cap) (.slice (some ⟨gu, 0, none⟩) t cu)) := fun W5 h5 => (HUp.out w3 W5 HJ3.out (by rw [← h5, ← HW4.out, hh1]; rfl)).next (Below.refl _ _).drew
          have e8 : IntKind.i64.wrap ((t : Int) - 1) = (t : Int) - 1 := by have := HG.out.2.2.1; rw [IntKind.wrap_i64]; omega
          clear c1 c2 g1 g2 hch HUp hct hcu
          go_wp2
          go_roundg (41 - (h' + 1))
          case rel =>
            go_light
            exact ⟨h' + 1, a, _, _, HF.out _ rfl, rfl, by rw [HG.out.2.2.2.2.2.2], by rw [HG.out.2.2.2.2.2.1]⟩
          case measure => go_light; have := HG.out.1; omega
    · obtain ⟨a, rfl⟩ : ∃ a, k' = 2 * a := ⟨k' / 2, by omega⟩
      obtain ⟨C, hC⟩ : ∃ C, cov 0 (2 * a * pw h') = C := ⟨_, rfl⟩
      have hnx : cov 0 ((k + 1) * pw h) = C ++ [(h', 2 * a)] := by rw [← HJ.out.en, ← hC]; exact cov_odd h' a (by rw [HJ.out.en]; exact HX.out.1)
      have hhi : ∀ b ∈ C, h' < b.1 := by rw [← hC]; exact cov_even h' a b4
      have hjs := HJ.out.js
      rw [hC] at hjs b3
      rw [hC]
      obtain ⟨x1, hx1⟩ : ∃ x1, F h' (2 * a) = x1 := ⟨_, rfl⟩
      rw [hx1]
      have HN : Hid (∀ W v' u', JS W s0 v' u' (C ++ [(h', 2 * a)]) (dgF F C ++ [x1]) → JS W s0 v' u' (cov 0 ((k + 1) * pw h)) (dgF F (cov 0 ((k + 1) * pw h)))) := fun W v' u' h0 => by
        rw [hnx, dgF, List.map_append]
        show JS W s0 v' u' (C ++ [(h', 2 * a)]) (dgF F C ++ [F h' (2 * a)])
        rw [hx1]
        exact h0
      obtain ⟨P, hP⟩ : ∃ P, dgF F C = P := ⟨_, rfl⟩
      have hPl : P.length = C.length := by rw [← hP]; exact List.length_map ..
      rw [hP] at HN hjs
      obtain ⟨kk, hkk⟩ : ∃ kk : Nat, 2 * a = kk := ⟨_, rfl⟩
      have htw := HJ.out.tw
      have hvq := HJ.out.hv
      have huq := HJ.out.hu
      have hbe := HJ.out.be
      have hqq := HJ.out.hq
      rw [hkk] at HN htw hC b4 b2
      have HE : Hid (∀ W, Below wr.heap.size wr W → JS W s0 v u C P ∧ Tw W w.heap.size (h' : Int) kk ∧ Below (s0 + 1) w W) := fun W hW => ⟨hjs.next hW, htw.next hW, hbe.trans (hW.mono (by have := hjs.lt; omega))⟩
      have HG : Hid (C.length ≤ 40 ∧ P.length = C.length ∧ (∀ g, v.ownBlock = some g → g < w.heap.size) ∧ (∀ g, u.ownBlock = some g → g ≠ w.heap.size) ∧ s0 + 2 < w.heap.size) := ⟨b3, hPl, hvq, huq, hqq⟩
      have HBs : Hid (∀ W, Calls Tryd.prog 65 #[.agg #[.int .i64 (h' : Int), .int .u64 (kk : Int)]] W fun e w' => e = .returned (.agg #[.int .i64 (h' : Int), .int .u64 ((sb kk : Nat) : Int)]) ∧ Below W.heap.size W w') := fun W => beside_any W h' kk (by omega) _ rfl
      obtain ⟨av, nv, cv, rfl⟩ := Cv.own_slice hjs.ot
      obtain ⟨au, nu, cu, rfl⟩ := Cv.own_slice hjs.op
      have l1 := own_len hjs.ot
      have l2 := own_len hjs.op
      rw [Cv.zl_len] at l1
      subst l1 l2
      rcases List.eq_nil_or_concat C with hnil | ⟨C0, ⟨x, y⟩, hC0⟩
      · have hneg : ¬ (0 : Int) ≤ -1 := by decide
        have hm : ((C.length : Nat) : Int) - 1 = -1 := by rw [hnil]; rfl
        rw [hm]
        clear hjs htw hvq huq hbe hqq hkk hPl hP hnx hhi hC HJ b1 b2 b3 b4 HBs hx1 hpar
        go_upto_region 2 with (fail)
        refine wp_region_planI (by kernel_rfl) [11, 12, 13, 14, 15, 16, 17, 18, 19, 20, 21] [] [.int .i64 (-1), .bool false, .bool false, undef, undef, undef, undef, undef, undef, undef, .bool false] (by kernel_rfl) rfl (fun j hj => by cases hj) (fun _ W => Below wr.heap.size wr W) (fun W _ hb => hb) ?step ?fin
        case step =>
          refine ⟨?_, ?_, ?_, ?_, ?_, ?_, ?_, ?_, ?_, ?_, ?_, trivial⟩
          · intro L Ac Wc K hI hj hcl hsm dep hK
            have t7 : Ac.tmps.getD 7 undef = .int .i64 (-1) := hsm 7 rfl
            show Oper.wp _ _ Ac Wc K _
            go_simp
            exact hK _ _ (.inr rfl) hI
          · intro L Ac Wc K hI hj hcl hsm dep hK
            have t11 : Ac.tmps.getD 11 undef = .int .i64 (-1) := dep 0 rfl
            show Oper.wp _ _ Ac Wc K _
            go_simp
            exact hK _ _ (.inr rfl) hI
          · intro L Ac Wc K hI hj hcl hsm dep hK
            have t12 : Ac.tmps.getD 12 undef = .bool false := dep 1 rfl
            show Oper.wp _ _ Ac Wc K _
            go_simp
            exact hK _ _ (.inr rfl) hI
          · intro L Ac Wc K hI hj hcl hsm dep hK
            refine ⟨false, (show Ac.tmps.getD 13 undef = .bool false from dep 2 rfl), ?_⟩
            rw [if_neg (by decide)]
            exact hK _ _ (.inr rfl) hI
          · intro L Ac Wc K hI hj hcl hsm dep hK
            refine ⟨false, (show Ac.tmps.getD 13 undef = .bool false from dep 2 rfl), ?_⟩
            rw [if_neg (by decide)]
            exact hK _ _ (.inr rfl) hI
          · intro L Ac Wc K hI hj hcl hsm dep hK
            refine ⟨false, (show Ac.tmps.getD 13 undef = .bool false from dep 2 rfl), ?_⟩
            rw [if_neg (by decide)]
            exact hK _ _ (.inr rfl) hI
          · intro L Ac Wc K hI hj hcl hsm dep hK
            refine ⟨false, (show Ac.tmps.getD 13 undef = .bool false from dep 2 rfl), ?_⟩
            rw [if_neg (by decide)]
            exact hK _ _ (.inr rfl) hI
          · intro L Ac Wc K hI hj hcl hsm dep hK
            refine ⟨false, (show Ac.tmps.getD 13 undef = .bool false from dep 2 rfl), ?_⟩
            rw [if_neg (by decide)]
            exact hK _ _ (.inr rfl) hI
          · intro L Ac Wc K hI hj hcl hsm dep hK
            refine ⟨false, (show Ac.tmps.getD 13 undef = .bool false from dep 2 rfl), ?_⟩
            rw [if_neg (by decide)]
            exact hK _ _ (.inr rfl) hI
          · intro L Ac Wc K hI hj hcl hsm dep hK
            refine ⟨false, (show Ac.tmps.getD 13 undef = .bool false from dep 2 rfl), ?_⟩
            rw [if_neg (by decide)]
            exact hK _ _ (.inr rfl) hI
          · intro L Ac Wc K hI hj hcl hsm dep hK
            have t13 : Ac.tmps.getD 13 undef = .bool false := dep 2 rfl
            have t20 : Ac.tmps.getD 20 undef = undef := dep 9 rfl
            show Oper.wp _ _ Ac Wc K _
            go_simp
            exact hK _ _ (.inr rfl) hI
        case fin =>
          intro L W hall hW
          clear hall
          simp only [puts]
          go_simp
          clear hnil hm hneg
          have hj0 : J0 W s0 w.heap.size (.slice av C.length cv) (.slice au P.length cu) C P h' kk := ⟨(HE.out W hW).1, (HE.out W hW).2.1, fun g hg => by have := HG.out.2.2.1 g hg; omega, HG.out.2.2.2.2, by have := HG.out.1; omega, by have := HG.out.1; have := HG.out.2.1; omega⟩
          have HBe := hide (HE.out W hW).2.2
          clear HE hW
          go_upto_region 7 with (fail)
          refine wp_region_planJ (by kernel_rfl) (by kernel_rfl) (RF W s0 w.heap.size (.slice av C.length cv) (.slice au P.length cu) C P h' kk x1) (fun Z _ hZ => rf_start hj0 rfl rfl rfl rfl rfl rfl hZ) ⟨e0 rfl, e1, e2 rfl, e3 hj0 rfl rfl rfl rfl rfl, e4 rfl, e5, e6 rfl, e7 hj0 rfl rfl rfl rfl rfl, e8 hj0 rfl rfl rfl, e9 hj0 rfl rfl rfl, trivial⟩ ?_
          intro L a7 w7 hall hI
          obtain ⟨v', u', hjs, hb7⟩ := rf_end hI hall
          have HF : Hid ((∃ v' u', JS w7 s0 v' u' (cov 0 ((k + 1) * pw h)) (dgF F (cov 0 ((k + 1) * pw h)))) ∧ Below (s0 + 1) w w7) := ⟨⟨v', u', HN.out _ _ _ hjs⟩, HBe.out.trans hb7⟩
          exact bodyPost_end (results_none rfl a7.tmps Tryd.prog w7) hI.df ⟨rfl, HF.out⟩
      · rw [List.concat_eq_append] at hC0
        have hxh : h' < x := hhi (x, y) (by rw [hC0]; simp)
        have hjs2 : JS wr s0 (.slice av C.length cv) (.slice au P.length cu) (C0 ++ [(x, y)]) (dgF F C0 ++ [F x y]) := by
          have e : dgF F C0 ++ [F x y] = P := by rw [← hP, hC0]; show _ = List.map _ (C0 ++ [(x, y)]); rw [List.map_append]; rfl
          rw [e, ← hC0]
          exact hjs
        obtain ⟨g, cap2, gu, cu2, hv2, _, _, _, e1, e2, _⟩ := js_last hjs2
        obtain ⟨rfl, hln, rfl⟩ := Value.slice.inj hv2
        obtain ⟨t, ht⟩ : ∃ t, C0.length = t := ⟨_, rfl⟩
        rw [ht] at e1 e2 hln
        have hm : ((C.length : Nat) : Int) - 1 = (t : Int) := by omega
        rw [hm]
        have hz0 : (0 : Int) ≤ (t : Int) := Int.natCast_nonneg _
        have ht1 : (t : Int) < ((C.length : Nat) : Int) := by omega
        have hne : ((x : Int) == (h' : Int)) = false := beq_false_of_ne (by omega)
        have HE2 : Hid (∀ W, Below wr.heap.size wr W → W.cell? ⟨g, t * 2, none⟩ = some (.int .i64 (x : Int)) ∧ W.cell? ⟨g, t * 2 + 1, none⟩ = some (.int .u64 (y : Int))) := fun W hW =>
          ⟨(hW.cell (World.block_lt_of_cell? wr _ e1)).trans e1, (hW.cell (World.block_lt_of_cell? wr _ e2)).trans e2⟩
        clear hjs htw hvq huq hbe hqq hkk hPl hP hnx hhi hC HJ b1 b2 b3 b4 hx1 hpar hjs2 hv2 hC0 e1 e2 ht hm hxh hln
        go_upto_region 2 with (fail)
        refine wp_region_planI (by kernel_rfl) [11, 12, 13, 14, 15, 16, 17, 18, 19, 20, 21] [] [.int .i64 (t : Int), .bool true, .bool true, .slice (some ⟨g, 0, none⟩) C.length cv, .int .i64 (t : Int), .pointer (some ⟨g, t * 2, none⟩), .agg #[.int .i64 (x : Int), .int .u64 (y : Int)], .agg #[.int .i64 (h' : Int), .int .u64 (kk : Int)], .agg #[.int .i64 (h' : Int), .int .u64 ((sb kk : Nat) : Int)], .bool false, .bool false] (by kernel_rfl) rfl (fun j hj => by cases hj) (fun _ W => Below wr.heap.size wr W) (fun W _ hb => hb) ?step ?fin
        case step =>
          refine ⟨?_, ?_, ?_, ?_, ?_, ?_, ?_, ?_, ?_, ?_, ?_, trivial⟩
          · intro L Ac Wc K hI hj hcl hsm dep hK
            have t7 : Ac.tmps.getD 7 undef = .int .i64 (t : Int) := hsm 7 rfl
            show Oper.wp _ _ Ac Wc K _
            go_simp
            exact hK _ _ (.inr rfl) hI
          · intro L Ac Wc K hI hj hcl hsm dep hK
            have t11 : Ac.tmps.getD 11 undef = .int .i64 (t : Int) := dep 0 rfl
            show Oper.wp _ _ Ac Wc K _
            go_simp
            exact hK _ _ (.inr rfl) hI
          · intro L Ac Wc K hI hj hcl hsm dep hK
            have t12 : Ac.tmps.getD 12 undef = .bool true := dep 1 rfl
            show Oper.wp _ _ Ac Wc K _
            go_simp
            exact hK _ _ (.inr rfl) hI
          · intro L Ac Wc K hI hj hcl hsm dep hK
            have t2 : Ac.tmps.getD 2 undef = .pointer (some ⟨s0 + 1, 0, none⟩) := hsm 2 rfl
            refine ⟨true, (show Ac.tmps.getD 13 undef = .bool true from dep 2 rfl), ?_⟩
            rw [if_pos rfl]
            obtain ⟨j, jt, jb⟩ := HE.out Wc hI
            have c1 := cell_of_one j.ct
            go_simp
            exact hK _ _ (.inr rfl) hI
          · intro L Ac Wc K hI hj hcl hsm dep hK
            have t7 : Ac.tmps.getD 7 undef = .int .i64 (t : Int) := hsm 7 rfl
            refine ⟨true, (show Ac.tmps.getD 13 undef = .bool true from dep 2 rfl), ?_⟩
            rw [if_pos rfl]
            go_simp
            exact hK _ _ (.inr rfl) hI
          · intro L Ac Wc K hI hj hcl hsm dep hK
            have t14 : Ac.tmps.getD 14 undef = .slice (some ⟨g, 0, none⟩) C.length cv := dep 3 rfl
            have t15 : Ac.tmps.getD 15 undef = .int .i64 (t : Int) := dep 4 rfl
            refine ⟨true, (show Ac.tmps.getD 13 undef = .bool true from dep 2 rfl), ?_⟩
            rw [if_pos rfl]
            go_simp
            exact hK _ _ (.inr rfl) hI
          · intro L Ac Wc K hI hj hcl hsm dep hK
            have t16 : Ac.tmps.getD 16 undef = .pointer (some ⟨g, t * 2, none⟩) := dep 5 rfl
            refine ⟨true, (show Ac.tmps.getD 13 undef = .bool true from dep 2 rfl), ?_⟩
            rw [if_pos rfl]
            obtain ⟨e1, e2⟩ := HE2.out Wc hI
            go_simp
            exact hK _ _ (.inr rfl) hI
          · intro L Ac Wc K hI hj hcl hsm dep hK
            have t5 : Ac.tmps.getD 5 undef = .pointer (some ⟨w.heap.size, 0, none⟩) := hsm 5 rfl
            refine ⟨true, (show Ac.tmps.getD 13 undef = .bool true from dep 2 rfl), ?_⟩
            rw [if_pos rfl]
            obtain ⟨j, jt, jb⟩ := HE.out Wc hI
            obtain ⟨c1, c2⟩ := jt.cells
            go_simp
            exact hK _ _ (.inr rfl) hI
          · intro L Ac Wc K hI hj hcl hsm dep hK
            have t18 : Ac.tmps.getD 18 undef = .agg #[.int .i64 (h' : Int), .int .u64 (kk : Int)] := dep 7 rfl
            refine ⟨true, (show Ac.tmps.getD 13 undef = .bool true from dep 2 rfl), ?_⟩
            rw [if_pos rfl]
            go_simp
            refine (HBs.out Wc).mono ?_
            rintro e w' ⟨rfl, hb'⟩
            exact hK _ _ (.inr rfl) (bnext hI hb')
          · intro L Ac Wc K hI hj hcl hsm dep hK
            have t17 : Ac.tmps.getD 17 undef = .agg #[.int .i64 (x : Int), .int .u64 (y : Int)] := dep 6 rfl
            have t19 : Ac.tmps.getD 19 undef = .agg #[.int .i64 (h' : Int), .int .u64 ((sb kk : Nat) : Int)] := dep 8 rfl
            refine ⟨true, (show Ac.tmps.getD 13 undef = .bool true from dep 2 rfl), ?_⟩
            rw [if_pos rfl]
            go_simp
            exact hK _ _ (.inr rfl) hI
          · intro L Ac Wc K hI hj hcl hsm dep hK
            have t13 : Ac.tmps.getD 13 undef = .bool true := dep 2 rfl
            have t20 : Ac.tmps.getD 20 undef = .bool false := dep 9 rfl
            show Oper.wp _ _ Ac Wc K _
            go_simp
            exact hK _ _ (.inr rfl) hI
        case fin =>
          intro L W hall hW
          clear hall
          simp only [puts]
          go_simp
          clear hz0 ht1 hne HE2 HBs
          have hj0 : J0 W s0 w.heap.size (.slice (some ⟨g, 0, none⟩) C.length cv) (.slice au P.length cu) C P h' kk := ⟨(HE.out W hW).1, (HE.out W hW).2.1, fun g hg => by have := HG.out.2.2.1 g hg; omega, HG.out.2.2.2.2, by have := HG.out.1; omega, by have := HG.out.1; have := HG.out.2.1; omega⟩
          have HBe := hide (HE.out W hW).2.2
          clear HE hW
          go_upto_region 7 with (fail)
          refine wp_region_planJ (by kernel_rfl) (by kernel_rfl) (RF W s0 w.heap.size (.slice (some ⟨g, 0, none⟩) C.length cv) (.slice au P.length cu) C P h' kk x1) (fun Z _ hZ => rf_start hj0 rfl rfl rfl rfl rfl rfl hZ) ⟨e0 rfl, e1, e2 rfl, e3 hj0 rfl rfl rfl rfl rfl, e4 rfl, e5, e6 rfl, e7 hj0 rfl rfl rfl rfl rfl, e8 hj0 rfl rfl rfl, e9 hj0 rfl rfl rfl, trivial⟩ ?_
          intro L a7 w7 hall hI
          obtain ⟨v', u', hjs, hb7⟩ := rf_end hI hall
          have HF : Hid ((∃ v' u', JS w7 s0 v' u' (cov 0 ((k + 1) * pw h)) (dgF F (cov 0 ((k + 1) * pw h)))) ∧ Below (s0 + 1) w w7) := ⟨⟨v', u', HN.out _ _ _ hjs⟩, HBe.out.trans hb7⟩
          exact bodyPost_end (results_none rfl a7.tmps Tryd.prog w7) hI.df ⟨rfl, HF.out⟩
end Go.Proofs.YtdkcliblbaldhaaDoor
/-
  Walks of package kin: joined. Own work.
-/
namespace Go.Proofs.YtdkcliblbaldhaaDoor
open Go.RowKit
open Cv (RdC zl cU cov Row)
open Pl (pw)
attribute [local go_sem ↓] Go.wp_at_zero Go.wp_at_succ
theorem zl_getD (L : List (Nat × Nat)) (j : Nat) : (zl L).getD j (0, 0) = (((L.getD j (0, 0)).1 : Int), (L.getD j (0, 0)).2) := by
  unfold zl
  rw [List.getD_eq_getElem?_getD, List.getD_eq_getElem?_getD, List.getElem?_map]
  cases L[j]? <;> rfl
theorem drop_cons {α : Type} (d : α) {L : List α} {j : Nat} (hj : j < L.length) : L.drop j = L.getD j d :: L.drop (j + 1) := by
  rw [List.drop_eq_getElem_cons hj, List.getD_eq_getElem?_getD, List.getElem?_eq_getElem hj]; rfl
theorem js_start (w : World) (o : Obj) : JS (((w.alloc o).alloc (.cells #[.slice none 0 0] 42)).alloc (.cells #[.slice none 0 0] 22)) w.heap.size (.slice none 0 0) (.slice none 0 0) [] [] := by
  refine ⟨?_, ?_, World.ownsRow_nil _ _ _ _, owns_nil _ _⟩
  · have h1 := heap_alloc_new (w.alloc o) (.cells #[.slice none 0 0] 42)
    rw [World.size_alloc] at h1
    exact (Cv.heap_al _ (by simp)).trans h1
  · have h1 := heap_alloc_new ((w.alloc o).alloc (.cells #[.slice none 0 0] 42)) (.cells #[.slice none 0 0] 22)
    rw [World.size_alloc, World.size_alloc] at h1
    exact h1
set_option maxRecDepth 100000 in
set_option maxHeartbeats 2000000 in
theorem joined_any (w : World) (ht : Tb w) (kd K : Int) (old size : Nat) (sa : Option Addr) (ns sc : Nat) (da : Option Addr) (db dO dc : Nat) (D : List ByteArray) (hr : RdS w da db dO D.length D) (ao : Option Addr) (g cap n : Nat) (L : List (Nat × Nat)) (hB : RdB w ao g 0 L.length (zl L)) (hrow : Row n 0 L) (hn : n ≤ 2 ^ 40) (hl : D.length = L.length) (hm : L.length ≤ 1000) (F : Nat → Nat → ByteArray) (hJ : Jn (clk K) L D F) :
    Calls Tryd.prog 39 #[.slice ao L.length cap, vP kd K old size (.slice sa ns sc) (.slice da D.length dc)] w fun e w' => ∃ v, e = .returned v ∧ OwnS w' w.heap.size v (dgF F (cov 0 n)) ∧ Below w.heap.size w w' := by
  obtain ⟨o1, ho1⟩ : ∃ o1, oP kd K old size (.slice sa ns sc) (.slice da D.length dc) = o1 := ⟨_, rfl⟩
  have hj0 := js_start w o1
  have hb0 : Below w.heap.size w (((w.alloc o1).alloc (.cells #[.slice none 0 0] 42)).alloc (.cells #[.slice none 0 0] 22)) := bal (bal (bal (Below.refl _ _) _) _) _
  have h6 : Six (((w.alloc o1).alloc (.cells #[.slice none 0 0] 42)).alloc (.cells #[.slice none 0 0] 22)) w.heap.size (.int .i64 kd) (.int .i64 K) (.int .u64 (old : Int)) (.int .u64 (size : Int)) (.slice sa ns sc) (.slice da D.length dc) := by
    rw [← ho1]
    exact (six_new w _ _ _ _ _ _).next (bal (bal (Below.refl _ _) _) _)
  obtain ⟨W0, hW0⟩ : ∃ W0, (((w.alloc o1).alloc (.cells #[.slice none 0 0] 42)).alloc (.cells #[.slice none 0 0] 22)) = W0 := ⟨_, rfl⟩
  rw [hW0] at hj0 hb0 h6
  have HX : Hid (∀ Z, Below (w.heap.size + 1) W0 Z → Below w.heap.size w Z ∧ Tb Z ∧ RdS Z da db dO D.length D ∧ RdB Z ao g 0 L.length (zl L) ∧ Six Z w.heap.size (.int .i64 kd) (.int .i64 K) (.int .u64 (old : Int)) (.int .u64 (size : Int)) (.slice sa ns sc) (.slice da D.length dc)) := fun Z hZ => by
    have h1 : Below w.heap.size w Z := hb0.trans (hZ.mono (by omega))
    exact ⟨h1, ht.next h1, hr.next h1 (Nat.le_refl _), hB.below h1, h6.same (hZ.block _ (by omega))⟩
  have HR : Hid (Row n 0 L ∧ n ≤ 2 ^ 40 ∧ D.length = L.length ∧ L.length ≤ 1000 ∧ Jn (clk K) L D F) := ⟨hrow, hn, hl, hm, hJ⟩
  have HJ0 := hide hj0
  have hm1 : (L.length : Int) ≤ 1000 := by omega
  have hW0' := hW0
  rw [← ho1] at hW0
  unfold oP at hW0
  clear ht hr hB hrow hn hl hm hJ hj0 hb0 h6 ho1 hW0'
  unfold vP
  go_enter Tryd.func39, Tryd.ntmps39
  go_wp2
  go_loopg [13] L.length (fun gg i wr => ∃ (j e : Nat) (v u : Value), j ≤ L.length ∧ gg = L.length - j ∧ i = .int .i64 (j : Int) ∧ Hid (Row n e (L.drop j) ∧ JS wr w.heap.size v u (cov 0 e) (dgF F (cov 0 e)) ∧ Below (w.heap.size + 1) W0 wr))
  case atStart =>
    go_light
    try rw [hW0]
    refine ⟨0, 0, .slice none 0 0, .slice none 0 0, Nat.zero_le _, rfl, rfl, HR.out.1, ?_, Below.refl _ _⟩
    rw [cov_none]
    exact HJ0.out
  case round =>
    obtain ⟨j, e, v, u, hj, rfl, rfl, HI⟩ := hrel
    clear HJ0
    obtain ⟨hbw, htb, hrd, hrb, hsix⟩ := HX.out wr HI.out.2.2
    by_cases hlt : j < L.length
    · have hz : (j : Int) < (L.length : Int) := by omega
      have hz0 : (0 : Int) ≤ (j : Int) := Int.natCast_nonneg _
      have hdr := drop_cons (0, 0) hlt
      have hin := mem_getD hlt
      obtain ⟨⟨h, k⟩, hhk⟩ : ∃ b, L.getD j (0, 0) = b := ⟨_, rfl⟩
      rw [hhk] at hdr hin
      have hro := HI.out.1
      rw [hdr] at hro
      obtain ⟨r1, r2, r3, r4⟩ := hro
      dsimp only at r1 r2 r3 r4
      have r5 := row_le r4
      obtain rfl := hrb.addr (by omega)
      obtain ⟨c0, c1⟩ := hrb.cell j hlt
      rw [zl_getD, hhk] at c0 c1
      dsimp only at c0 c1
      rw [Nat.zero_add] at c0 c1
      have hltD : j < D.length := by have := HR.out.2.2.1; omega
      obtain rfl := hrd.ptr (by omega)
      have d0 := hrd.at hltD
      obtain ⟨d, hd⟩ : ∃ d, D.getD j ByteArray.empty = d := ⟨_, rfl⟩
      rw [hd] at d0
      have hFd : F h k = d := by
        have := HR.out.2.2.2.2.at' j hlt
        rw [hhk] at this
        rw [← hd]
        exact this
      have hJs := HI.out.2.1
      rw [r1] at hJs
      have hDz : (j : Int) < (D.length : Int) := by omega
      have p5 := hsix.cells.2.2.2.2.2
      have t1 := tw_new wr 0 0
      have hb1 := bal (Below.refl wr.heap.size wr) (.cells #[.int .i64 0, .int .u64 ((0 : Nat) : Int)] 82)
      rw [show ((0 : Nat) : Int) = 0 from rfl] at hb1
      have t1' : Tw (wr.alloc (.cells #[.int .i64 0, .int .u64 0] 82)) wr.heap.size 0 0 := t1
      obtain ⟨W1, hW1⟩ : ∃ W1, wr.alloc (.cells #[.int .i64 0, .int .u64 0] 82) = W1 := ⟨_, rfl⟩
      rw [hW1] at t1' hb1
      obtain ⟨q0, q1⟩ := t1'.cells
      have f0 := t1'.fz 0
      have f1 := t1'.fz 1
      have t2 := t1'.put (h : Int) k
      have hch := putB_ch W1 wr.heap.size (h : Int) k
      obtain ⟨W2, hW2⟩ : ∃ W2, putB W1 wr.heap.size (h : Int) k = W2 := ⟨_, rfl⟩
      rw [hW2] at t2 hch
      have hb2 : Below wr.heap.size wr W2 := hb1.trans (hch.below (by rintro b rfl; exact Nat.le_refl _))
      have hls : w.heap.size + 2 < wr.heap.size := hJs.lt
      have HS : Hid (∀ Z, Below W2.heap.size W2 Z → Z.cell? ⟨wr.heap.size, 0, none⟩ = some (.int .i64 (h : Int)) ∧ Z.cell? ⟨wr.heap.size, 1, none⟩ = some (.int .u64 (k : Int)) ∧ Z.cell? ⟨w.heap.size, 5, none⟩ = some (.slice (some ⟨db, dO, none⟩) D.length dc) ∧ Z.cell? ⟨db, dO + j, none⟩ = some (.string d)) := fun Z hZ => by
        have h1 := bnext hb2 hZ
        have h2 := HX.out Z (HI.out.2.2.trans (h1.mono (by omega)))
        refine ⟨(t2.next hZ).cells.1, (t2.next hZ).cells.2, h2.2.2.2.2.cells.2.2.2.2.2, ?_⟩
        rw [← hd]
        exact h2.2.2.1.at hltD
      have HC : Hid (∀ Z, Below W2.heap.size W2 Z → Calls Tryd.prog 64 #[.agg #[.int .i64 (h : Int), .int .u64 (k : Int)], .string d, .pointer (some ⟨w.heap.size + 1, 0, none⟩), .pointer (some ⟨w.heap.size, 0, none⟩), .pointer (some ⟨w.heap.size + 1 + 1, 0, none⟩)] Z fun e w' => e = .returned (.tuple #[]) ∧ (∃ v' u', JS w' w.heap.size v' u' (cov 0 ((k + 1) * pw h)) (dgF F (cov 0 ((k + 1) * pw h)))) ∧ Below (w.heap.size + 1) Z w') := fun Z hZ => by
        have h1 := bnext hb2 hZ
        have h2 : Below (w.heap.size + 1) W0 Z := HI.out.2.2.trans (h1.mono (by omega))
        exact join_any Z w.heap.size K F h k v u (hJs.next h1) (Nat.le_trans r5 HR.out.2.1) (fun Y hY => (HX.out Y (h2.trans hY)).2.1) (HX.out Z h2).2.2.2.2.cells.2.1 (fun h' q a1 a2 => HR.out.2.2.2.2.join HR.out.1 hin a1 a2) HR.out.2.2.2.2.sz d hFd
      have HF : Hid (Row n ((k + 1) * pw h) (L.drop (j + 1)) ∧ (∀ Z Y, Below W2.heap.size W2 Z → Below (w.heap.size + 1) Z Y → Below (w.heap.size + 1) W0 Y)) := ⟨r4, fun Z Y h1 h2 => (HI.out.2.2.trans ((bnext hb2 h1).mono (by omega))).trans h2⟩
      have hbr := Below.refl W2.heap.size W2
      unfold putB at hW2
      clear hbw htb hrd hrb hsix hdr hin hhk r1 r2 r3 r4 r5 hFd hJs hd t1 t1' t2 hch hb1 hb2 HI
      go_upto_region 7 with (fail)
      refine wp_region_planI (by kernel_rfl) [18, 19, 20, 21, 22, 23, 24, 25] [] [Value.func (Fn.func 64) #[] #[.pointer (some ⟨w.heap.size + 1, 0, none⟩), .pointer (some ⟨w.heap.size, 0, none⟩), .pointer (some ⟨w.heap.size + 1 + 1, 0, none⟩)], .agg #[.int .i64 (h : Int), .int .u64 (k : Int)], .pointer (some ⟨w.heap.size, 5, none⟩), .slice (some ⟨db, dO, none⟩) D.length dc, .int .i64 (j : Int), .pointer (some ⟨db, dO + j, none⟩), .string d, .tuple #[]] (by kernel_rfl) rfl (fun j hj => by cases hj) (fun L Z => (L 7 = false → Below W2.heap.size W2 Z) ∧ (L 7 = true → (∃ v' u', JS Z w.heap.size v' u' (cov 0 ((k + 1) * pw h)) (dgF F (cov 0 ((k + 1) * pw h)))) ∧ Below (w.heap.size + 1) W0 Z)) (fun Z _ hb => ⟨fun _ => hb, fun h => by cases h⟩) ?step ?fin
      case step =>
        refine ⟨?_, ?_, ?_, ?_, ?_, ?_, ?_, ?_, trivial⟩
        · intro L Ac Wc K hI hj hcl hsm dep hK
          have t7 : Ac.tmps.getD 7 undef = Value.func (Fn.func 64) #[] #[.pointer (some ⟨w.heap.size + 1, 0, none⟩), .pointer (some ⟨w.heap.size, 0, none⟩), .pointer (some ⟨w.heap.size + 1 + 1, 0, none⟩)] := hsm 7 rfl
          show Oper.wp _ _ Ac Wc K _
          go_simp
          exact hK _ _ (.inr rfl) hI
        · intro L Ac Wc K hI hj hcl hsm dep hK
          have t9 : Ac.tmps.getD 9 undef = .pointer (some ⟨wr.heap.size, 0, none⟩) := hsm 9 rfl
          show Oper.wp _ _ Ac Wc K _
          have hL : L 7 = false := by
            cases h : L 7 with
            | false => rfl
            | true => rw [hcl 7 1 h rfl] at hj; cases hj
          obtain ⟨k1, k2, k3, k4⟩ := HS.out Wc (hI.1 hL)
          go_simp
          exact hK _ _ (.inr rfl) hI
        · intro L Ac Wc K hI hj hcl hsm dep hK
          have t3 : Ac.tmps.getD 3 undef = .pointer (some ⟨w.heap.size, 0, none⟩) := hsm 3 rfl
          show Oper.wp _ _ Ac Wc K _
          go_simp
          exact hK _ _ (.inr rfl) hI
        · intro L Ac Wc K hI hj hcl hsm dep hK
          have t20 : Ac.tmps.getD 20 undef = .pointer (some ⟨w.heap.size, 5, none⟩) := dep 2 rfl
          show Oper.wp _ _ Ac Wc K _
          have hL : L 7 = false := by
            cases h : L 7 with
            | false => rfl
            | true => rw [hcl 5 3 (hcl 6 5 (hcl 7 6 h rfl) rfl) rfl] at hj; cases hj
          obtain ⟨k1, k2, k3, k4⟩ := HS.out Wc (hI.1 hL)
          go_simp
          exact hK _ _ (.inr rfl) hI
        · intro L Ac Wc K hI hj hcl hsm dep hK
          have t8 : Ac.tmps.getD 8 undef = .int .i64 (j : Int) := hsm 8 rfl
          show Oper.wp _ _ Ac Wc K _
          go_simp
          exact hK _ _ (.inr rfl) hI
        · intro L Ac Wc K hI hj hcl hsm dep hK
          have t21 : Ac.tmps.getD 21 undef = .slice (some ⟨db, dO, none⟩) D.length dc := dep 3 rfl
          have t22 : Ac.tmps.getD 22 undef = .int .i64 (j : Int) := dep 4 rfl
          show Oper.wp _ _ Ac Wc K _
          go_simp
          exact hK _ _ (.inr rfl) hI
        · intro L Ac Wc K hI hj hcl hsm dep hK
          have t23 : Ac.tmps.getD 23 undef = .pointer (some ⟨db, dO + j, none⟩) := dep 5 rfl
          show Oper.wp _ _ Ac Wc K _
          have hL : L 7 = false := by
            cases h : L 7 with
            | false => rfl
            | true => rw [hcl 7 6 h rfl] at hj; cases hj
          obtain ⟨k1, k2, k3, k4⟩ := HS.out Wc (hI.1 hL)
          go_simp
          exact hK _ _ (.inr rfl) hI
        · intro L Ac Wc K hI hj hcl hsm dep hK
          have t18 : Ac.tmps.getD 18 undef = Value.func (Fn.func 64) #[] #[.pointer (some ⟨w.heap.size + 1, 0, none⟩), .pointer (some ⟨w.heap.size, 0, none⟩), .pointer (some ⟨w.heap.size + 1 + 1, 0, none⟩)] := dep 0 rfl
          have t19 : Ac.tmps.getD 19 undef = .agg #[.int .i64 (h : Int), .int .u64 (k : Int)] := dep 1 rfl
          have t24 : Ac.tmps.getD 24 undef = .string d := dep 6 rfl
          show Oper.wp _ _ Ac Wc K _
          go_simp
          refine (HC.out Wc (hI.1 hj)).mono ?_
          rintro e w' ⟨rfl, hjs, hb'⟩
          exact hK _ _ (.inr rfl) ⟨fun h => by simp at h, fun _ => ⟨hjs, HF.out.2 _ _ (hI.1 hj) hb'⟩⟩
      case fin =>
        intro L7 W7 hall hI
        obtain ⟨⟨v7, u7, hj7⟩, hb7⟩ := hI.2 (hall 7 (by decide))
        have HY : Hid (JS W7 w.heap.size v7 u7 (cov 0 ((k + 1) * pw h)) (dgF F (cov 0 ((k + 1) * pw h))) ∧ Below (w.heap.size + 1) W0 W7) := ⟨hj7, hb7⟩
        clear hall hI hj7 hb7 HC HS q0 q1 f0 f1 hW1 hW2 hbr c0 c1 d0 p5
        simp only [puts]
        go_simp
        go_wp2
        go_roundg (L.length - (j + 1))
        case rel =>
          go_light
          exact ⟨j + 1, _, v7, u7, by omega, rfl, by go_num, HF.out.1, HY.out.1, HY.out.2⟩
        case measure => go_light; omega
    · obtain rfl : j = L.length := by omega
      have hz : ¬ ((L.length : Int) < (L.length : Int)) := by omega
      have hen := HI.out.1
      rw [List.drop_length] at hen
      have hen : e = n := hen
      have hJs := HI.out.2.1
      rw [hen] at hJs
      obtain ⟨ua, un, uc, rfl⟩ := Cv.own_slice hJs.op
      have c2 := cell_of_one hJs.cp
      have HY : Hid (OwnS wr w.heap.size (.slice ua un uc) (dgF F (cov 0 n)) ∧ Below w.heap.size w wr) := ⟨World.ownsRow.mono hJs.op (by omega), hbw⟩
      clear hrd hrb hsix htb hbw hJs hen HI hlt
      go_wp2
      go_ret
      exact ⟨_, rfl, HY.out.1, HY.out.2⟩
end Go.Proofs.YtdkcliblbaldhaaDoor
