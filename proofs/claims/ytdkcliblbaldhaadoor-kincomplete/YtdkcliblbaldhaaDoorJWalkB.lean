/-
  Walks of package kin: beside; what join holds. Own work.
-/
import Derived.Test.YtdkcliblbaldhaaDoorJWalkA
namespace Go.Proofs.YtdkcliblbaldhaaDoor
open Go.RowKit
open Cv (RdC zl cU cov)
open Pl (pw)
attribute [local go_sem ↓] Go.wp_at_zero Go.wp_at_succ
/-- A block in its two cells. -/
def Tw (w : World) (g : Nat) (h : Int) (k : Nat) : Prop := w.heap[g]? = some (.cells #[.int .i64 h, .int .u64 (k : Int)] 82 (0, 0))
section
variable {w W : World} {g k : Nat} {h : Int}
theorem Tw.cells (t : Tw w g h k) : w.cell? ⟨g, 0, none⟩ = some (.int .i64 h) ∧ w.cell? ⟨g, 1, none⟩ = some (.int .u64 (k : Int)) :=
  ⟨by rw [cell_of_row w g 0 _ _ (0, 0) t]; rfl, by rw [cell_of_row w g 1 _ _ (0, 0) t]; rfl⟩
theorem Tw.fz (t : Tw w g h k) (j : Nat) : w.frozen? ⟨g, j, none⟩ = false := frozen_of_row w g j _ _ t
theorem Tw.lt (t : Tw w g h k) : g < w.heap.size := (Array.getElem?_eq_some_iff.1 t).1
theorem Tw.same (t : Tw w g h k) (hb : W.heap[g]? = w.heap[g]?) : Tw W g h k := hb.trans t
theorem Tw.next (t : Tw w g h k) (hb : Below w.heap.size w W) : Tw W g h k := t.same (hb.block g t.lt)
theorem tw_new (w : World) (h : Int) (k : Nat) : Tw (w.alloc (.cells #[.int .i64 h, .int .u64 (k : Int)] 82)) w.heap.size h k := heap_alloc_new w _
/-- A block is put in its place. -/
def putB (w : World) (g : Nat) (h : Int) (k : Nat) : World := (w.setCell ⟨g, 0, none⟩ (.int .i64 h)).setCell ⟨g, 1, none⟩ (.int .u64 (k : Int))
theorem Tw.put (t : Tw w g h k) (h' : Int) (k' : Nat) : Tw (putB w g h' k') g h' k' := by
  have h0 := heap_setCell_same w g 0 _ _ (.int .i64 h') t
  exact heap_setCell_same _ g 1 _ _ (.int .u64 (k' : Int)) h0
theorem putB_ch (w : World) (g : Nat) (h : Int) (k : Nat) : ChT (fun x => x = g) w (putB w g h k) := ((ChT.refl (fun x => x = g) w).set g 0 _ rfl).set g 1 _ rfl
end
theorem beside_any (w : World) (h k : Nat) (hk : k < 2 ^ 64) (r : Nat) (hr : sb k = r) :
    Calls Tryd.prog 65 #[.agg #[.int .i64 (h : Int), .int .u64 (k : Int)]] w fun e w' => e = .returned (.agg #[.int .i64 (h : Int), .int .u64 (r : Int)]) ∧ Below w.heap.size w w' := by
  have ex : bits .xor .u64 (k : Int) 1 = (r : Int) := by rw [← hr, ← sb_xor]; exact bits_xor_u64_nat k 1 (by omega) (by decide)
  have t1 := tw_new w (h : Int) k
  have hb := bal (Below.refl w.heap.size w) (.cells #[.int .i64 (h : Int), .int .u64 (k : Int)] 82)
  have hz : (w.alloc (.cells #[.int .i64 (h : Int), .int .u64 (k : Int)] 82)).heap.size = w.heap.size + 1 := World.size_alloc ..
  obtain ⟨W, hW⟩ : ∃ W, w.alloc (.cells #[.int .i64 (h : Int), .int .u64 (k : Int)] 82) = W := ⟨_, rfl⟩
  rw [hW] at t1 hb hz
  have t2 := tw_new W 0 0
  have hb2 := bal (Below.refl W.heap.size W) (.cells #[.int .i64 0, .int .u64 ((0 : Nat) : Int)] 82)
  have t1' := t1.next hb2
  rw [show ((0 : Nat) : Int) = 0 from rfl] at hb2 t1'
  have t2' : Tw (W.alloc (.cells #[.int .i64 0, .int .u64 0] 82)) W.heap.size 0 0 := t2
  obtain ⟨W2, hW2⟩ : ∃ W2, W.alloc (.cells #[.int .i64 0, .int .u64 0] 82) = W2 := ⟨_, rfl⟩
  rw [hW2] at t2' hb2 t1'
  rw [hz] at t2'
  obtain ⟨c0, c1⟩ := t1'.cells
  obtain ⟨d0, d1⟩ := t2'.cells
  have f0 := t2'.fz 0
  have f1 := t2'.fz 1
  have hp := t2'.put (h : Int) r
  have hch := putB_ch W2 (w.heap.size + 1) (h : Int) r
  unfold putB at hp hch
  obtain ⟨s0, s1⟩ := hp.cells
  clear hk hr t2 t1
  go_enter Tryd.func65, Tryd.ntmps65
  go_wp2
  refine bodyPost_ret (v := .agg #[.int .i64 (h : Int), .int .u64 (r : Int)]) (by simp [results, Tryd.results65, go_sem, s0, s1]) rfl ⟨rfl, ?_⟩
  exact (bnext hb hb2).trans (hch.below (by rintro b rfl; omega))
/-- What join holds: blocks side by side in the cell at s0 + 1, their digests in the cell behind it. -/
structure JS (w : World) (s0 : Nat) (v u : Value) (T : List (Nat × Nat)) (P : List ByteArray) : Prop where
  ct : w.heap[s0 + 1]? = some (.cells #[v] 42 (0, 0))
  cp : w.heap[s0 + 2]? = some (.cells #[u] 22 (0, 0))
  ot : Cv.OwnB w (s0 + 3) v (zl T)
  op : OwnS w (s0 + 3) u P
section
variable {w W : World} {s0 q : Nat} {v u : Value} {T : List (Nat × Nat)} {P : List ByteArray}
theorem JS.lt (h : JS w s0 v u T P) : s0 + 2 < w.heap.size := (Array.getElem?_eq_some_iff.1 h.cp).1
theorem JS.same (h : JS w s0 v u T P) (hb : ∀ b, b < w.heap.size → s0 + 1 ≤ b → b ≠ q → W.heap[b]? = w.heap[b]?) (hv : ∀ g, v.ownBlock = some g → g ≠ q) (hu : ∀ g, u.ownBlock = some g → g ≠ q) (hq : s0 + 2 < q) : JS W s0 v u T P := by
  have hl := h.lt
  refine ⟨(hb _ (by omega) (by omega) (by omega)).trans h.ct, (hb _ hl (by omega) (by omega)).trans h.cp, keep_row h.ot fun g hg hg2 => hb g (World.ownsRow.lt h.ot g hg).2 (by omega) (hv g hg), keep_row h.op fun g hg hg2 => hb g (World.ownsRow.lt h.op g hg).2 (by omega) (hu g hg)⟩
theorem JS.next (h : JS w s0 v u T P) (hb : Below w.heap.size w W) : JS W s0 v u T P := by
  have hl := h.lt
  exact ⟨(hb.block _ (by omega)).trans h.ct, (hb.block _ hl).trans h.cp, row_nextJ h.ot hb, row_nextJ h.op hb⟩
theorem JS.apart (h : JS w s0 v u T P) {g : Nat} (hg : v.ownBlock = some g) : u.ownBlock ≠ some g := fun hu => by
  obtain ⟨_, c, hc⟩ := own_block h.ot hg
  obtain ⟨_, c', hc'⟩ := own_block h.op hu
  rw [hc] at hc'
  injection hc' with hc'
  injection hc' with _ h2 _
  exact absurd h2 (by decide)
end
/-- A list cut at its end stays one's own. -/
theorem own_cut {w : World} {B T s : Nat} {g cap n m : Nat} {xs ys : List Value} (h : w.ownsRow B T s (.slice (some ⟨g, 0, none⟩) n cap) n (xs ++ ys)) (hm : xs.length = m * s) (hl : m ≤ n) : w.ownsRow B T s (.slice (some ⟨g, 0, none⟩) m cap) m xs := by
  obtain ⟨h1, h2⟩ := h
  refine ⟨hm, ?_⟩
  rcases h2 with ⟨h2, _⟩ | ⟨g', cap', cur, hv, hg, hh, hc, hm2, hs, hx⟩
  · cases h2
  · cases hv
    refine .inr ⟨g, cap, cur, rfl, hg, hh, by omega, hm2, hs, ?_⟩
    have e : cur.toList.take (m * s) = (cur.toList.take (n * s)).take (m * s) := by
      rw [List.take_take]
      congr 1
      have := Nat.mul_le_mul_right s hl
      omega
    rw [e, hx, ← hm, List.take_left]
theorem own_len {w : World} {B T s n m c : Nat} {ao : Option Addr} {xs : List Value} (h : w.ownsRow B T s (.slice ao m c) n xs) : m = n := by
  rcases h.2 with ⟨h2, h3⟩ | ⟨_, _, _, h2, _⟩
  · cases h2; exact h3.symm
  · cases h2; rfl
theorem own_some {w : World} {B T s n m c : Nat} {ao : Option Addr} {xs : List Value} (h : w.ownsRow B T s (.slice ao m c) n xs) (hn : 0 < n) : ∃ g, ao = some ⟨g, 0, none⟩ ∧ B ≤ g ∧ g < w.heap.size := by
  rcases h.2 with ⟨_, h3⟩ | ⟨g, _, _, h2, hg, hh, _⟩
  · omega
  · cases h2; exact ⟨g, rfl, hg, (Array.getElem?_eq_some_iff.1 hh).1⟩
/-- Something appended in a region that draws its order. -/
theorem step_apR (w : World) {ops : Array Oper} {o : Oper} {a : Act} {K : Act → World → Prop} {Q : Exit → Act → World → Prop} {E : Prop} (hgd : o.guard = none)
    (s x : Operand) (t : TypeId) (hop : o.op = Op.call { callee := Callee.builtin Builtin.append, args := #[s, x], argTypes := #[t, t] })
    (B : Nat) (e : TypeId) (i : TypeInfo) (z : Value) (size bytes : Nat) (h1 : Tryd.prog.underlying t = some (.slice e)) (h2 : Tryd.prog.info? e = some i) (h3 : i.zero = some z) (h4 : i.size = size) (h5 : i.bytes = bytes) (h6 : z.cells.size = size) (h7 : 0 < size)
    (v : Value) (n : Nat) (xs : List Value) (hs : a.eval s = v) (hown : w.ownsRow B e size v n xs) (ad : Addr) (m cap : Nat) (news : List Value) (hx : a.eval x = .slice (some ad) m cap) (hn : news.length = m * size) (hc : ∀ j u, news[j]? = some u → w.cell? (ad.add j) = some u) (h1c : ∀ u ∈ news, u.oneCell' = true)
    (b1 : n + m ≤ maxLen) (b2 : (n + m) * bytes ≤ 140737488355328) (hB : B ≤ w.heap.size)
    (hK : ∀ v' w', w'.ownsRow B e size v' (n + m) (xs ++ news) → w.grownBy w' v.ownBlock → K (a.put o.dst v') w') : if Region.wanted o (yielded ops a.tmps) = true then Oper.wp Tryd.prog o a w K Q else E := by
  have hw : Region.wanted o (yielded ops a.tmps) = true := by simp [Region.wanted, hgd]
  rw [if_pos hw]
  obtain ⟨v', w', hrun, r1, r2, _⟩ := run_append_own (P := Tryd.prog) w B t o.type e i z size bytes h1 h2 h3 h4 h5 h6 h7 v n xs hown ad m cap news hn hc h1c b1 b2 hB
  unfold Oper.wp
  simp [execOp, hop, resolve, invoke, builtin, hs, hx, hrun, Result.andThen]
  exact hK v' w' r1 r2
theorem step_apB (w : World) {ops : Array Oper} {o : Oper} {a : Act} {K : Act → World → Prop} {Q : Exit → Act → World → Prop} {E : Prop} (hgd : o.guard = none)
    (s x : Operand) (hop : o.op = Op.call { callee := Callee.builtin Builtin.append, args := #[s, x], argTypes := #[42, 42] })
    (B : Nat) (v : Value) (T : List (Nat × Nat)) (hs : a.eval s = v) (hown : Cv.OwnB w B v (zl T)) (g h k : Nat) (hx : a.eval x = .slice (some ⟨g, 0, none⟩) 1 1) (hc : Tw w g (h : Int) k) (hl : T.length ≤ 1000) (hB : B ≤ w.heap.size)
    (hK : ∀ v' w', Cv.OwnB w' B v' (zl (T ++ [(h, k)])) → w.grownBy w' v.ownBlock → K (a.put o.dst v') w') : if Region.wanted o (yielded ops a.tmps) = true then Oper.wp Tryd.prog o a w K Q else E := by
  obtain ⟨i0, hi, hz0, hz1, hz2⟩ := info_parts Cv.Tryd.infoB
  obtain ⟨c0, c1⟩ := hc.cells
  refine step_apR w hgd s x 42 hop B 82 i0 (.agg #[.int .i64 0, .int .u64 0]) 2 16 Tryd.underlying42 hi hz0 hz1 hz2 rfl (by decide) v _ _ hs hown ⟨g, 0, none⟩ 1 1 [.int .i64 (h : Int), .int .u64 (k : Int)] hx rfl (fun j u hj => ?_) (by intro u hu; simp at hu; rcases hu with rfl | rfl <;> rfl) (by rw [Cv.zl_len]; unfold maxLen; omega) (by rw [Cv.zl_len]; omega) hB (fun v' w' r1 r2 => hK v' w' ?_ r2)
  · match j, hj with
    | 0, hj => simp at hj; subst hj; simpa [Addr.add] using c0
    | 1, hj => simp at hj; subst hj; simpa [Addr.add] using c1
  · rw [Cv.zl_app, Cv.OwnB, Cv.cB_app, List.length_append]
    exact r1
theorem step_apS (w : World) {ops : Array Oper} {o : Oper} {a : Act} {K : Act → World → Prop} {Q : Exit → Act → World → Prop} {E : Prop} (hgd : o.guard = none)
    (s x : Operand) (hop : o.op = Op.call { callee := Callee.builtin Builtin.append, args := #[s, x], argTypes := #[22, 22] })
    (B : Nat) (v : Value) (P : List ByteArray) (hs : a.eval s = v) (hown : OwnS w B v P) (g : Nat) (d : ByteArray) (hx : a.eval x = .slice (some ⟨g, 0, none⟩) 1 1) (hc : w.cell? ⟨g, 0, none⟩ = some (.string d)) (hl : P.length ≤ 1000) (hB : B ≤ w.heap.size)
    (hK : ∀ v' w', OwnS w' B v' (P ++ [d]) → w.grownBy w' v.ownBlock → K (a.put o.dst v') w') : if Region.wanted o (yielded ops a.tmps) = true then Oper.wp Tryd.prog o a w K Q else E := by
  obtain ⟨i0, hi, hz0, hz1, hz2⟩ := info_parts Tryd.infoS
  refine step_apR w hgd s x 22 hop B 9 i0 (.string ByteArray.empty) 1 16 Tryd.underlying22 hi hz0 hz1 hz2 rfl (by decide) v _ _ hs hown ⟨g, 0, none⟩ 1 1 [.string d] hx rfl (fun j u hj => ?_) (by intro u hu; simp at hu; rcases hu with rfl; rfl) (by unfold maxLen; omega) (by omega) hB (fun v' w' r1 r2 => hK v' w' ?_ r2)
  · match j, hj with
    | 0, hj => simp at hj; subst hj; simpa [Addr.add] using hc
  · rw [OwnS, List.map_append, List.length_append]
    exact r1
end Go.Proofs.YtdkcliblbaldhaaDoor
