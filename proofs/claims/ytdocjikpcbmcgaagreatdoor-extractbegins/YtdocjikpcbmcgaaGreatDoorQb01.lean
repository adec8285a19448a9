/-
  Own work: JWalkB, JWalkC.
-/
import Derived.Test.YtdocjikpcbmcgaaGreatDoorQs44
import Derived.Deep.RegionHeld3
import Derived.Laws.StructEq
import Derived.Test.YtdocjikpcbmcgaaGreatDoorProg
import Derived.Below
import Derived.WalkKit
import Derived.WalkSpells
import Derived.KernelRfl
import Derived.Deep.RegionWith
import Derived.BigQuiet
import Derived.Test.YtdocjikpcbmcgaaGreatDoorQb00
namespace Go.Proofs.YtdocjikpcbmcgaaGreatDoor
open Go.RowKit
open Cv (RdC zl cU cov)
open Pl (pw)
attribute [local go_sem ↓] Go.wp_at_zero Go.wp_at_succ
def Tw (w : World) (g : Nat) (h : Int) (k : Nat) : Prop := w.heap[g]? = some (.cells #[.int .i64 h, .int .u64 (k : Int)] 83 (0, 0))
section
variable {w W : World} {g k : Nat} {h : Int}
theorem Tw.cells (t : Tw w g h k) : w.cell? ⟨g, 0, none⟩ = some (.int .i64 h) ∧ w.cell? ⟨g, 1, none⟩ = some (.int .u64 (k : Int)) :=
  ⟨by rw [cell_of_row w g 0 _ _ (0, 0) t]; rfl, by rw [cell_of_row w g 1 _ _ (0, 0) t]; rfl⟩
theorem Tw.fz (t : Tw w g h k) (j : Nat) : w.frozen? ⟨g, j, none⟩ = false := frozen_of_row w g j _ _ t
theorem Tw.lt (t : Tw w g h k) : g < w.heap.size := (Array.getElem?_eq_some_iff.1 t).1
theorem Tw.same (t : Tw w g h k) (hb : W.heap[g]? = w.heap[g]?) : Tw W g h k := hb.trans t
theorem Tw.next (t : Tw w g h k) (hb : Below w.heap.size w W) : Tw W g h k := t.same (hb.block g t.lt)
theorem tw_new (w : World) (h : Int) (k : Nat) : Tw (w.alloc (.cells #[.int .i64 h, .int .u64 (k : Int)] 83)) w.heap.size h k := heap_alloc_new w _
def putB (w : World) (g : Nat) (h : Int) (k : Nat) : World := (w.setCell ⟨g, 0, none⟩ (.int .i64 h)).setCell ⟨g, 1, none⟩ (.int .u64 (k : Int))
theorem Tw.put (t : Tw w g h k) (h' : Int) (k' : Nat) : Tw (putB w g h' k') g h' k' := by
  have h0 := heap_setCell_same w g 0 _ _ (.int .i64 h') t
  exact heap_setCell_same _ g 1 _ _ (.int .u64 (k' : Int)) h0
theorem putB_ch (w : World) (g : Nat) (h : Int) (k : Nat) : ChT (fun x => x = g) w (putB w g h k) := ((ChT.refl (fun x => x = g) w).set g 0 _ rfl).set g 1 _ rfl
end
theorem beside_any (w : World) (h k : Nat) (hk : k < 2 ^ 64) (r : Nat) (hr : sb k = r) :
    Calls Tryz.prog 132 #[.agg #[.int .i64 (h : Int), .int .u64 (k : Int)]] w fun e w' => e = .returned (.agg #[.int .i64 (h : Int), .int .u64 (r : Int)]) ∧ Below w.heap.size w w' := by
  have ex : bits .xor .u64 (k : Int) 1 = (r : Int) := by rw [← hr, ← sb_xor]; exact bits_xor_u64_nat k 1 (by omega) (by decide)
  have t1 := tw_new w (h : Int) k
  have hb := bal (Below.refl w.heap.size w) (.cells #[.int .i64 (h : Int), .int .u64 (k : Int)] 83)
  have hz : (w.alloc (.cells #[.int .i64 (h : Int), .int .u64 (k : Int)] 83)).heap.size = w.heap.size + 1 := World.size_alloc ..
  obtain ⟨W, hW⟩ : ∃ W, w.alloc (.cells #[.int .i64 (h : Int), .int .u64 (k : Int)] 83) = W := ⟨_, rfl⟩
  rw [hW] at t1 hb hz
  have t2 := tw_new W 0 0
  have hb2 := bal (Below.refl W.heap.size W) (.cells #[.int .i64 0, .int .u64 ((0 : Nat) : Int)] 83)
  have t1' := t1.next hb2
  rw [show ((0 : Nat) : Int) = 0 from rfl] at hb2 t1'
  have t2' : Tw (W.alloc (.cells #[.int .i64 0, .int .u64 0] 83)) W.heap.size 0 0 := t2
  obtain ⟨W2, hW2⟩ : ∃ W2, W.alloc (.cells #[.int .i64 0, .int .u64 0] 83) = W2 := ⟨_, rfl⟩
  rw [hW2] at t2' hb2 t1'
  rw [hz] at t2'
  obtain ⟨c0, c1⟩ := t1'.cells
  obtain ⟨d0, d1⟩ := t2'.cells
  have f0 := t2'.fz 0
  have f1 := t2'.fz 1
  have hp := t2'.put (h : Int) r
  have hch := putB_ch W2 (w.heap.size + 1) (h : Int) r
  unfold putB at hp hch
  obtain ⟨s0, s1⟩ := hp.cells
  clear hk hr t2 t1
  go_enter Tryz.func132, Tryz.ntmps132
  go_wp2
  refine bodyPost_ret (v := .agg #[.int .i64 (h : Int), .int .u64 (r : Int)]) (by simp [results, Tryz.results132, go_sem, s0, s1]) rfl ⟨rfl, ?_⟩
  exact (bnext hb hb2).trans (hch.below (by rintro b rfl; omega))
structure JS (w : World) (s0 : Nat) (v u : Value) (T : List (Nat × Nat)) (P : List ByteArray) : Prop where
  ct : w.heap[s0 + 1]? = some (.cells #[v] 77 (0, 0))
  cp : w.heap[s0 + 2]? = some (.cells #[u] 22 (0, 0))
  ot : Cv.OwnB w (s0 + 3) v (zl T)
  op : OwnS w (s0 + 3) u P
section
variable {w W : World} {s0 q : Nat} {v u : Value} {T : List (Nat × Nat)} {P : List ByteArray}
theorem JS.lt (h : JS w s0 v u T P) : s0 + 2 < w.heap.size := (Array.getElem?_eq_some_iff.1 h.cp).1
theorem JS.next (h : JS w s0 v u T P) (hb : Below w.heap.size w W) : JS W s0 v u T P := by
  have hl := h.lt
  exact ⟨(hb.block _ (by omega)).trans h.ct, (hb.block _ hl).trans h.cp, row_nextJ h.ot hb, row_nextJ h.op hb⟩
end
theorem own_cut {w : World} {B T s : Nat} {g cap n m : Nat} {xs ys : List Value} (h : w.ownsRow B T s (.slice (some ⟨g, 0, none⟩) n cap) n (xs ++ ys)) (hm : xs.length = m * s) (hl : m ≤ n) : w.ownsRow B T s (.slice (some ⟨g, 0, none⟩) m cap) m xs := by
  obtain ⟨h1, h2⟩ := h
  refine ⟨hm, ?_⟩
  rcases h2 with ⟨h2, _⟩ | ⟨g', cap', cur, hv, hg, hh, hc, hm2, hs, hx⟩
  · cases h2
  · cases hv
    refine .inr ⟨g, cap, cur, rfl, hg, hh, by omega, hm2, hs, ?_⟩
    have e : cur.toList.take (m * s) = (cur.toList.take (n * s)).take (m * s) := by
      rw [List.take_take]
      congr 1
      have := Nat.mul_le_mul_right s hl
      omega
    rw [e, hx, ← hm, List.take_left]
theorem own_len {w : World} {B T s n m c : Nat} {ao : Option Addr} {xs : List Value} (h : w.ownsRow B T s (.slice ao m c) n xs) : m = n := by
  rcases h.2 with ⟨h2, h3⟩ | ⟨_, _, _, h2, _⟩
  · cases h2; exact h3.symm
  · cases h2; rfl
theorem step_apR (w : World) {ops : Array Oper} {o : Oper} {a : Act} {K : Act → World → Prop} {Q : Exit → Act → World → Prop} {E : Prop} (hgd : o.guard = none)
    (s x : Operand) (t : TypeId) (hop : o.op = Op.call { callee := Callee.builtin Builtin.append, args := #[s, x], argTypes := #[t, t] })
    (B : Nat) (e : TypeId) (i : TypeInfo) (z : Value) (size bytes : Nat) (h1 : Tryz.prog.underlying t = some (.slice e)) (h2 : Tryz.prog.info? e = some i) (h3 : i.zero = some z) (h4 : i.size = size) (h5 : i.bytes = bytes) (h6 : z.cells.size = size) (h7 : 0 < size)
    (v : Value) (n : Nat) (xs : List Value) (hs : a.eval s = v) (hown : w.ownsRow B e size v n xs) (ad : Addr) (m cap : Nat) (news : List Value) (hx : a.eval x = .slice (some ad) m cap) (hn : news.length = m * size) (hc : ∀ j u, news[j]? = some u → w.cell? (ad.add j) = some u) (h1c : ∀ u ∈ news, u.oneCell' = true)
    (b1 : n + m ≤ maxLen) (b2 : (n + m) * bytes ≤ 140737488355328) (hB : B ≤ w.heap.size)
    (hK : ∀ v' w', w'.ownsRow B e size v' (n + m) (xs ++ news) → w.grownBy w' v.ownBlock → K (a.put o.dst v') w') : if Region.wanted o (yielded ops a.tmps) = true then Oper.wp Tryz.prog o a w K Q else E := by
  have hw : Region.wanted o (yielded ops a.tmps) = true := by simp [Region.wanted, hgd]
  rw [if_pos hw]
  obtain ⟨v', w', hrun, r1, r2, _⟩ := run_append_own (P := Tryz.prog) w B t o.type e i z size bytes h1 h2 h3 h4 h5 h6 h7 v n xs hown ad m cap news hn hc h1c b1 b2 hB
  unfold Oper.wp
  simp [execOp, hop, resolve, invoke, builtin, hs, hx, hrun, Result.andThen]
  exact hK v' w' r1 r2
theorem step_apB (w : World) {ops : Array Oper} {o : Oper} {a : Act} {K : Act → World → Prop} {Q : Exit → Act → World → Prop} {E : Prop} (hgd : o.guard = none)
    (s x : Operand) (hop : o.op = Op.call { callee := Callee.builtin Builtin.append, args := #[s, x], argTypes := #[77, 77] })
    (B : Nat) (v : Value) (T : List (Nat × Nat)) (hs : a.eval s = v) (hown : Cv.OwnB w B v (zl T)) (g h k : Nat) (hx : a.eval x = .slice (some ⟨g, 0, none⟩) 1 1) (hc : Tw w g (h : Int) k) (hl : T.length ≤ 1000) (hB : B ≤ w.heap.size)
    (hK : ∀ v' w', Cv.OwnB w' B v' (zl (T ++ [(h, k)])) → w.grownBy w' v.ownBlock → K (a.put o.dst v') w') : if Region.wanted o (yielded ops a.tmps) = true then Oper.wp Tryz.prog o a w K Q else E := by
  obtain ⟨i0, hi, hz0, hz1, hz2⟩ := info_parts Cv.Tryz.infoB
  obtain ⟨c0, c1⟩ := hc.cells
  refine step_apR w hgd s x 77 hop B 83 i0 (.agg #[.int .i64 0, .int .u64 0]) 2 16 Tryz.underlying77 hi hz0 hz1 hz2 rfl (by decide) v _ _ hs hown ⟨g, 0, none⟩ 1 1 [.int .i64 (h : Int), .int .u64 (k : Int)] hx rfl (fun j u hj => ?_) (by intro u hu; simp at hu; rcases hu with rfl | rfl <;> rfl) (by rw [Cv.zl_len]; unfold maxLen; omega) (by rw [Cv.zl_len]; omega) hB (fun v' w' r1 r2 => hK v' w' ?_ r2)
  · match j, hj with
    | 0, hj => simp at hj; subst hj; simpa [Addr.add] using c0
    | 1, hj => simp at hj; subst hj; simpa [Addr.add] using c1
  · rw [Cv.zl_app, Cv.OwnB, Cv.cB_app, List.length_append]
    exact r1
theorem step_apS (w : World) {ops : Array Oper} {o : Oper} {a : Act} {K : Act → World → Prop} {Q : Exit → Act → World → Prop} {E : Prop} (hgd : o.guard = none)
    (s x : Operand) (hop : o.op = Op.call { callee := Callee.builtin Builtin.append, args := #[s, x], argTypes := #[22, 22] })
    (B : Nat) (v : Value) (P : List ByteArray) (hs : a.eval s = v) (hown : OwnS w B v P) (g : Nat) (d : ByteArray) (hx : a.eval x = .slice (some ⟨g, 0, none⟩) 1 1) (hc : w.cell? ⟨g, 0, none⟩ = some (.string d)) (hl : P.length ≤ 1000) (hB : B ≤ w.heap.size)
    (hK : ∀ v' w', OwnS w' B v' (P ++ [d]) → w.grownBy w' v.ownBlock → K (a.put o.dst v') w') : if Region.wanted o (yielded ops a.tmps) = true then Oper.wp Tryz.prog o a w K Q else E := by
  obtain ⟨i0, hi, hz0, hz1, hz2⟩ := info_parts Tryz.infoS
  refine step_apR w hgd s x 22 hop B 9 i0 (.string ByteArray.empty) 1 16 Tryz.underlying22 hi hz0 hz1 hz2 rfl (by decide) v _ _ hs hown ⟨g, 0, none⟩ 1 1 [.string d] hx rfl (fun j u hj => ?_) (by intro u hu; simp at hu; rcases hu with rfl; rfl) (by unfold maxLen; omega) (by omega) hB (fun v' w' r1 r2 => hK v' w' ?_ r2)
  · match j, hj with
    | 0, hj => simp at hj; subst hj; simpa [Addr.add] using hc
  · rw [OwnS, List.map_append, List.length_append]
    exact r1
end Go.Proofs.YtdocjikpcbmcgaaGreatDoor
namespace Go.Proofs.YtdocjikpcbmcgaaGreatDoor
open Go.RowKit
open Cv (RdC zl cU cov)
open Pl (pw)
attribute [local go_sem ↓] Go.wp_at_zero Go.wp_at_succ
abbrev dgF (F : Nat → Nat → ByteArray) (T : List (Nat × Nat)) : List ByteArray := T.map fun b => F b.1 b.2
structure JL (w wr : World) (s0 q : Nat) (F : Nat → Nat → ByteArray) (h k h' k' : Nat) (v u : Value) : Prop where
  js : JS wr s0 v u (cov 0 (k' * pw h')) (dgF F (cov 0 (k' * pw h')))
  tw : Tw wr q (h' : Int) k'
  hv : ∀ g, v.ownBlock = some g → g < q
  en : (k' + 1) * pw h' = (k + 1) * pw h
  hh : h ≤ h'
  be : Below (s0 + 1) w wr
  hq : s0 + 2 < q
section
variable {w wr W : World} {s0 q : Nat} {F : Nat → Nat → ByteArray} {h k h' k' : Nat} {v u : Value}
theorem JL.hu (j : JL w wr s0 q F h k h' k' v u) : ∀ g, u.ownBlock = some g → g ≠ q := own_ty j.js.op j.tw (by decide)
theorem JL.next (j : JL w wr s0 q F h k h' k' v u) (hb : Below wr.heap.size wr W) : JL w W s0 q F h k h' k' v u :=
  ⟨j.js.next hb, j.tw.next hb, j.hv, j.en, j.hh, j.be.trans (hb.mono (by have := j.js.lt; omega)), j.hq⟩
end
theorem js_last {w : World} {s0 : Nat} {v u : Value} {C : List (Nat × Nat)} {h k : Nat} {P : List ByteArray} {d : ByteArray} (j : JS w s0 v u (C ++ [(h, k)]) (P ++ [d])) : ∃ g cap gu cu, v = .slice (some ⟨g, 0, none⟩) (C.length + 1) cap ∧ u = .slice (some ⟨gu, 0, none⟩) (P.length + 1) cu ∧ C.length + 1 ≤ cap ∧ P.length + 1 ≤ cu ∧ w.cell? ⟨g, C.length * 2, none⟩ = some (.int .i64 (h : Int)) ∧ w.cell? ⟨g, C.length * 2 + 1, none⟩ = some (.int .u64 (k : Int)) ∧ w.cell? ⟨gu, P.length, none⟩ = some (.string d) := by
  have o1 := j.ot
  have o2 := j.op
  obtain ⟨ao, n, c, rfl⟩ := Cv.own_slice o1
  obtain ⟨au, nu, cu, rfl⟩ := Cv.own_slice o2
  have l1 := own_len o1
  have l2 := own_len o2
  obtain ⟨g, rfl, _, _⟩ := own_some o1 (by rw [Cv.zl_len, List.length_append]; simp)
  obtain ⟨gu, rfl, _, _⟩ := own_some o2 (by rw [List.length_append]; simp)
  rw [Cv.zl_len, List.length_append, List.length_singleton] at l1
  rw [List.length_append, List.length_singleton] at l2
  subst l1 l2
  have e1 := o1.cells (g := g) rfl
  have e2 := o2.cells (g := gu) rfl
  obtain ⟨f1, f2⟩ := Cv.cB_get (zl (C ++ [(h, k)])) C.length (h : Int) k (by rw [Cv.zl_app, List.getElem?_append_right (by rw [Cv.zl_len]; exact Nat.le_refl _), Cv.zl_len, Nat.sub_self]; rfl)
  have f1 := e1 _ _ f1
  have f2 := e1 _ _ f2
  have f3 := e2 P.length (.string d) (by rw [List.map_append, List.getElem?_append_right (by rw [List.length_map]; exact Nat.le_refl _), List.length_map, Nat.sub_self]; rfl)
  rw [Addr.add_mid, Nat.zero_add, Nat.mul_comm] at f1 f2
  rw [Addr.add_mid, Nat.zero_add] at f3
  have c1 : C.length + 1 ≤ c := by
    rcases o1.2 with ⟨h1, _⟩ | ⟨_, _, _, h1, _, _, h2, _⟩
    · cases h1
    · obtain ⟨_, _, e3⟩ := Value.slice.inj h1; rw [Cv.zl_len, List.length_append, List.length_singleton, ← e3] at h2; exact h2
  have c2 : P.length + 1 ≤ cu := by
    rcases o2.2 with ⟨h1, _⟩ | ⟨_, _, _, h1, _, _, h2, _⟩
    · cases h1
    · obtain ⟨_, _, e3⟩ := Value.slice.inj h1; rw [List.length_append, List.length_singleton, ← e3] at h2; exact h2
  exact ⟨g, c, gu, cu, rfl, rfl, c1, c2, f1, f2, f3⟩
theorem JL.up {w wr : World} {s0 q : Nat} {F : Nat → Nat → ByteArray} {h k h' a g cap gu cu : Nat} (C : List (Nat × Nat)) (hC : cov 0 (2 * a * pw h') = C) (hl : (k + 1) * pw h ≤ 2 ^ 40) (j : JL w wr s0 q F h k h' (2 * a + 1) (.slice (some ⟨g, 0, none⟩) (C.length + 1) cap) (.slice (some ⟨gu, 0, none⟩) (C.length + 1) cu)) (W : World) (hW : (((putB wr q ((h' + 1 : Nat) : Int) a).setCell ⟨s0 + 1, 0, none⟩ (.slice (some ⟨g, 0, none⟩) C.length cap)).setCell ⟨s0 + 2, 0, none⟩ (.slice (some ⟨gu, 0, none⟩) C.length cu)) = W) :
    JL w W s0 q F h k (h' + 1) a (.slice (some ⟨g, 0, none⟩) C.length cap) (.slice (some ⟨gu, 0, none⟩) C.length cu) := by
  have hen := j.en
  have ht : cov 0 ((2 * a + 1) * pw h') = C ++ [(h', 2 * a)] := by
    rw [← hC]
    refine cov_odd h' a (Nat.le_trans ?_ hl)
    rw [← hen]
    exact Nat.mul_le_mul_right _ (by omega)
  have ht2 : cov 0 (a * pw (h' + 1)) = C := by rw [Cv.mul_half, hC]
  have hjs := j.js
  rw [ht] at hjs
  have hne1 := (World.ownsRow.lt hjs.ot g rfl).1
  have hne2 := (World.ownsRow.lt hjs.op gu rfl).1
  have hgq : g < q := j.hv g rfl
  have huq : gu ≠ q := j.hu gu rfl
  have hq := j.hq
  have ch1 := putB_ch wr q ((h' + 1 : Nat) : Int) a
  obtain ⟨W1, hW1⟩ : ∃ W1, putB wr q ((h' + 1 : Nat) : Int) a = W1 := ⟨_, rfl⟩
  have tw1 := j.tw.put ((h' + 1 : Nat) : Int) a
  rw [hW1] at ch1 hW tw1
  have b1 : ∀ b, b ≠ q → W1.heap[b]? = wr.heap[b]? := fun b hb => ch1.block b hb
  have c1 := (b1 (s0 + 1) (by omega)).trans hjs.ct
  have c2 := (b1 (s0 + 2) (by omega)).trans hjs.cp
  have x1 := heap_setCell_same W1 (s0 + 1) 0 _ _ (.slice (some ⟨g, 0, none⟩) C.length cap) c1
  obtain ⟨W2, hW2⟩ : ∃ W2, W1.setCell ⟨s0 + 1, 0, none⟩ (.slice (some ⟨g, 0, none⟩) C.length cap) = W2 := ⟨_, rfl⟩
  have k2 : ChT (fun b => b = s0 + 1) W1 W2 := by rw [← hW2]; exact (ChT.refl _ _).set (s0 + 1) 0 _ rfl
  rw [hW2] at x1 hW
  have c2' := (k2.block (s0 + 2) (by omega)).trans c2
  have x2 := heap_setCell_same W2 (s0 + 2) 0 _ _ (.slice (some ⟨gu, 0, none⟩) C.length cu) c2'
  have k3 : ChT (fun b => b = s0 + 2) W2 W := by rw [← hW]; exact (ChT.refl _ _).set (s0 + 2) 0 _ rfl
  rw [hW] at x2
  have bb : ∀ b, b ≠ q → b ≠ s0 + 1 → b ≠ s0 + 2 → W.heap[b]? = wr.heap[b]? := fun b h1 h2 h3 => ((k3.block b h3).trans (k2.block b h2)).trans (b1 b h1)
  have ot : Cv.OwnB W (s0 + 3) (.slice (some ⟨g, 0, none⟩) C.length cap) (zl C) := by
    have o := hjs.ot
    rw [Cv.zl_app, Cv.OwnB, Cv.cB_app, List.length_append] at o
    have o' := own_cut (n := (zl C).length + 1) (m := (zl C).length) (by rw [Cv.zl_len] at o ⊢; exact o) (Cv.cB_len (zl C)) (by omega)
    rw [Cv.zl_len] at o'
    have o2 : Cv.OwnB wr (s0 + 3) (.slice (some ⟨g, 0, none⟩) C.length cap) (zl C) := by
      show wr.ownsRow (s0 + 3) 83 2 _ (zl C).length (Cv.cB (zl C))
      rw [Cv.zl_len]; exact o'
    refine keep_row o2 fun b hb _ => ?_
    cases hb
    exact bb g (by omega) (by omega) (by omega)
  have op : OwnS W (s0 + 3) (.slice (some ⟨gu, 0, none⟩) C.length cu) (dgF F C) := by
    have o := hjs.op
    rw [dgF, List.map_append, OwnS, List.map_append, List.length_append] at o
    have o' := own_cut (n := (dgF F C).length + 1) (m := (dgF F C).length) (by rw [List.length_map] at o ⊢; exact o) (by rw [List.length_map, Nat.mul_one]) (by omega)
    rw [List.length_map] at o'
    have o2 : OwnS wr (s0 + 3) (.slice (some ⟨gu, 0, none⟩) C.length cu) (dgF F C) := by
      show wr.ownsRow (s0 + 3) 9 1 _ (dgF F C).length ((dgF F C).map Value.string)
      rw [List.length_map]; exact o'
    refine keep_row o2 fun b hb _ => ?_
    cases hb
    exact bb gu huq (by omega) (by omega)
  refine ⟨?_, ?_, j.hv, ?_, by have := j.hh; omega, ?_, hq⟩
  · rw [ht2]
    exact ⟨(k3.block (s0 + 1) (by omega)).trans x1, x2, ot, op⟩
  · exact (tw1.same (k2.block q (by omega))).same (k3.block q (by omega))
  · rw [← hen, Cv.mul_half, show 2 * (a + 1) = 2 * a + 1 + 1 by omega]
  · have hz1 : Below (s0 + 1) wr W1 := ch1.below (by rintro b rfl; omega)
    have hz2 : Below (s0 + 1) W1 W2 := k2.below (by rintro b rfl; omega)
    have hz3 : Below (s0 + 1) W2 W := k3.below (by rintro b rfl; omega)
    exact ((j.be.trans hz1).trans hz2).trans hz3
end Go.Proofs.YtdocjikpcbmcgaaGreatDoor
