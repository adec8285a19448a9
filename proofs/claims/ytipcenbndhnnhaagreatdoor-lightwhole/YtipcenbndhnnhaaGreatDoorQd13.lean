/-
  Own work: FWalkD, TSpec, TGrow, TWalkA.
-/
import Derived.Lib.AppendZeros
import Derived.Test.YtipcenbndhnnhaaGreatDoorQd12
namespace Go.Proofs.YtipcenbndhnnhaaGreatDoor
open Go.RowKit
attribute [local go_sem ↓] Go.wp_at_zero Go.wp_at_succ
theorem field_N (w : World) (s : ByteArray) : (Instr.field 97 (.agg #[.string s]) 0).run Tryz.prog w = .ok (.string s) w := by kernel_rfl
structure Ap (w wr : World) (m : Nat) (k : Int) (L : List ByteArray) (x : ByteArray) (j : Nat) (v : Value) : Prop where
  blk : wr.heap[m + 1]? = some (.cells #[.int .i64 k, .int .u64 ((L.length + 1 : Nat) : Int), .map (some m)] 92 (0, 0))
  lst : wr.heap[w.heap.size]? = some (.cells #[.int .i64 (j : Int), .int .u64 (((L.length + 1) / 2 ^ j - 1 : Nat) : Int)] 94 (0, 0))
  mp : Mp wr m (fj (clk k) L x j)
  own : OwnS wr (w.heap.size + 1) v (nw (clk k) (L ++ [x]) j)
  ch : Chf m w wr
set_option maxRecDepth 100000 in
set_option maxHeartbeats 2000000 in
theorem fappend_ok (w : World) (ht : Tb w) (m : Nat) (k : Int) (L : List ByteArray) (hF : Frs w m k L) (s : ByteArray) (hs : s.size ≤ 1048576) (hL : L.length < 65536) (t : Nat) (hT : tr 64 (L.length + 1) = t) :
    Calls Tryz.prog 23 #[.pointer (some ⟨m + 1, 0, none⟩), .string s] w fun e w' => ∃ v, e = .returned (.tuple #[v, .int .i64 0]) ∧ Frs w' m k (L ++ [s]) ∧ OwnS w' w.heap.size v (nw (clk k) (L ++ [s]) t) ∧ Chf m w w' := by
  have h1 : decide ((1048576 : Int) < (s.size : Int)) = false := decide_eq_false (by omega)
  have h2 : decide ((65536 : Int) ≤ (L.length : Int)) = false := decide_eq_false (by omega)
  have c1 := hF.c1
  have f1 := hF.fz 1
  have hlt := hF.lt
  have hw1 : IntKind.u64.wrap ((L.length : Int) + 1) = ((L.length + 1 : Nat) : Int) := by rw [u64_id _ (by omega) (by omega)]; omega
  obtain ⟨d0, hd0⟩ : ∃ d0, dg (clk k) (leafT s) = d0 := ⟨_, rfl⟩
  have HLf : Hid (∀ W, Tb W → Calls Tryz.prog 49 #[.int .i64 k, .string s] W fun e w' => e = .returned (.string d0) ∧ Below W.heap.size W w') := fun W hT => leaf_any W hT k s (by omega) d0 hd0
  go_enter Tryz.func23, Tryz.ntmps23
  go_upto_region 7 with (fail)
  obtain ⟨w0, hw0⟩ : ∃ w0, (w.setCell ⟨m + 1, 1, none⟩ (.int .u64 ((L.length : Int) + 1))).alloc (.cells #[.int .i64 0, .int .u64 (L.length : Int)] 94) = w0 := ⟨_, rfl⟩
  rw [hw0]
  have hsz0 : (w.setCell ⟨m + 1, 1, none⟩ (.int .u64 ((L.length : Int) + 1))).heap.size = w.heap.size := by simp
  have hal : ∀ q, q < w.heap.size → w0.heap[q]? = (w.setCell ⟨m + 1, 1, none⟩ (.int .u64 ((L.length : Int) + 1))).heap[q]? := fun q hq => by
    rw [← hw0]
    exact (MapKept.heap_alloc _ _).2 q (by rw [hsz0]; exact hq)
  have hblk0 : w0.heap[m + 1]? = some (.cells #[.int .i64 k, .int .u64 ((L.length : Int) + 1), .map (some m)] 92 (0, 0)) := by
    rw [hal _ hlt]
    exact heap_setCell_same w (m + 1) 1 _ 92 (.int .u64 ((L.length : Int) + 1)) hF.blk
  have hlst0 : w0.heap[w.heap.size]? = some (.cells #[.int .i64 0, .int .u64 (L.length : Int)] 94 (0, 0)) := by
    have := heap_alloc_new (w.setCell ⟨m + 1, 1, none⟩ (.int .u64 ((L.length : Int) + 1))) (.cells #[.int .i64 0, .int .u64 (L.length : Int)] 94)
    rw [hsz0, hw0] at this
    exact this
  have hmp0 : Mp w0 m (ff (clk k) L) := hF.mp.same (by rw [hal m (by omega)]; exact Below.heap_setCell _ _ _ _ (by simp))
  have hz0 : w.heap.size < w0.heap.size := (Array.getElem?_eq_some_iff.1 hlst0).1
  have hch0 : Chf m w w0 := by
    have h := (Chf.refl m w).set (b := m + 1) 1 (.int .u64 ((L.length : Int) + 1)) (.inl rfl) (by omega)
    have := h.next (w2 := w0) (by rw [← hw0]; exact bal (Below.refl _ _) _) (by omega)
    exact this
  have c0 : w0.cell? ⟨m + 1, 0, none⟩ = some (.int .i64 k) := by rw [cell_of_row w0 (m + 1) 0 _ _ (0, 0) hblk0]; rfl
  have hTb0 := ht.chf hF hch0
  have HTb : Hid (∀ W, Chf m w W → Tb W) := fun W hc => ht.chf hF hc
  clear hw0 hsz0 hal c1 f1 h1 h2 hw1
  go_upto_region 8 with (go_at_call 49; with_reducible refine (HLf.out _ hTb0).mono ?_; rintro e w1 ⟨rfl, hb1⟩)
  have hblk1 : w1.heap[m + 1]? = _ := (hb1.block (m + 1) (by omega)).trans hblk0
  have hlst1 : w1.heap[w.heap.size]? = _ := (hb1.block w.heap.size hz0).trans hlst0
  have hmp1 := hmp0.same (hb1.block m (by omega))
  have hch1 := hch0.next hb1 (by omega)
  obtain ⟨es, cl, hup, hmp2⟩ := (hmp1.same (W := w1.drew) rfl).write (h := 0) (k := L.length) ⟨⟨by omega, by omega⟩, by omega⟩ d0
  have hd0' : nd (clk k) (L ++ [s]) 0 L.length = d0 := by rw [nd, ← hd0]; simp
  rw [← hd0', fj_start] at hmp2
  have hch2 : Chf m w (ChangeMaps.setBlock w1.drew m (.map es cl)) := (Chf.next hch1 (Below.refl _ _).drew (by omega)).put _
  have hblk2 : (ChangeMaps.setBlock w1.drew m (.map es cl)).heap[m + 1]? = _ := (set_other _ (by omega)).trans hblk1
  have hlst2 : (ChangeMaps.setBlock w1.drew m (.map es cl)).heap[w.heap.size]? = _ := (set_other _ (by omega)).trans hlst1
  obtain ⟨w2, hw2⟩ : ∃ w2, ChangeMaps.setBlock w1.drew m (.map es cl) = w2 := ⟨_, rfl⟩
  rw [hw2] at hup hmp2 hch2 hblk2 hlst2
  have x2 : w1.cell? ⟨m + 1, 2, none⟩ = some (.map (some m)) := by rw [cell_of_row w1 (m + 1) 2 _ _ (0, 0) hblk1]; rfl
  have y0 : w1.cell? ⟨w.heap.size, 0, none⟩ = some (.int .i64 0) := by rw [cell_of_row w1 _ 0 _ _ (0, 0) hlst1]; rfl
  have y1 : w1.cell? ⟨w.heap.size, 1, none⟩ = some (.int .u64 (L.length : Int)) := by rw [cell_of_row w1 _ 1 _ _ (0, 0) hlst1]; rfl
  unfold kv nv at hup
  clear hw2 hmp0 hmp1 hch0 hch1 hblk0 hlst0 hb1 hTb0 c0 HLf hblk1 hlst1
  have HTr : Hid (∀ W, Calls Tryz.prog 50 #[.int .u64 ((L.length : Int) + 1)] W fun e w' => e = .returned (.int .i64 (t : Int)) ∧ W = w') := fun W => (trail_any (L.length + 1) W (by omega) t hT).mono fun _ _ h => ⟨h.1, h.2.symm⟩
  have HAp : Hid (Ap w (w2.alloc (.cells #[.string d0] 9)) m k L s 0 (.slice (some ⟨w2.heap.size, 0, none⟩) 1 1)) := by
    have hz2 : w.heap.size < w2.heap.size := (Array.getElem?_eq_some_iff.1 hlst2).1
    refine ⟨((MapKept.heap_alloc _ _).2 _ (by omega)).trans hblk2, ((MapKept.heap_alloc _ _).2 _ hz2).trans ?_, hmp2.same ((MapKept.heap_alloc _ _).2 _ (by omega)), ?_, hch2.next (bal (Below.refl _ _) _) (by omega)⟩
    · rw [hlst2]; simp
    · rw [nw_zero, List.length_append, List.length_singleton, Nat.add_sub_cancel, hd0']
      exact own_mono (own_one w2 d0) (by omega)
  have hc5 : (w2.alloc (.cells #[.string d0] 9)).cell? ⟨m + 1, 1, none⟩ = some (.int .u64 ((L.length : Int) + 1)) := by rw [cell_of_row _ (m + 1) 1 _ _ (0, 0) HAp.out.blk]; rfl
  have hsh : ∀ q, q < w2.heap.size → (w2.alloc (.cells #[.string d0] 9)).heap[q]? = w2.heap[q]? := fun q hq => (MapKept.heap_alloc _ _).2 _ hq
  have ht16 : t ≤ 16 := by rw [← hT]; exact tr_small (by omega) (by omega)
  clear hsh hmp2 hch2 hblk2 hlst2
  go_region
  go_wp2_with (go_at_call 50; with_reducible refine (HTr.out _).mono ?_; rintro e w3 ⟨rfl, rfl⟩)
  have HK := hide hF
  have hkk := clk_le k
  have HDd : Hid (d0 = nd (clk k) (L ++ [s]) 0 ((L.length + 1) / 2 ^ 0 - 1)) := by show d0 = _; rw [Nat.pow_zero, Nat.div_one, Nat.add_sub_cancel, hd0']
  have HHT := hide hT
  clear HTr hc5 x2 y0 y1 hup hd0' hd0 ht hF hs hz0 hT
  generalize w2.alloc (.cells #[.string d0] 9) = w3 at *
  generalize w2.heap.size = z2 at *
  go_loopg [7, 8, 50] t (fun g x v i wr => ∃ (j : Nat) (d : ByteArray), j ≤ t ∧ g = t - j ∧ x = .string d ∧ Hid (d = nd (clk k) (L ++ [s]) j ((L.length + 1) / 2 ^ j - 1)) ∧ i = .int .i64 (j : Int) ∧ Hid (Ap w wr m k L s j v))
  case atStart =>
    go_light
    exact ⟨0, d0, Nat.zero_le _, rfl, rfl, HDd, rfl, HAp⟩
  case round =>
    clear HAp HDd
    obtain ⟨j, d, hj, rfl, rfl, HDj, rfl, HA⟩ := hrel
    by_cases hjt : j < t
    · have hz : (j : Int) < (t : Int) := by omega
      have hz0 : (0 : Int) ≤ (j : Int) := Int.natCast_nonneg _
      have hz9 : (j : Int) ≤ 16 := by omega
      obtain ⟨q', hq'⟩ := tr_div (j := j + 1) HHT.out (by omega)
      obtain ⟨q, rfl⟩ : ∃ q, q' = q + 1 := ⟨q' - 1, by
        have : q' ≠ 0 := by rintro rfl; simp at hq'
        omega⟩
      have e1 : (L.length + 1) / 2 ^ (j + 1) - 1 = q := by rw [last_at hq']; omega
      have e2 : (L.length + 1) / 2 ^ j - 1 = 2 * q + 1 := by
        rw [last_at (q := 2 * (q + 1)) (by rw [hq', Nat.pow_succ, Nat.mul_assoc])]; omega
      obtain ⟨a, ha⟩ : ∃ a, 2 * q + 1 = a := ⟨_, rfl⟩
      have hab : a ≤ L.length + 1 := by rw [← ha, ← e2]; exact Nat.le_trans (Nat.sub_le _ _) (Nat.div_le_self _ _)
      have ha1 : (1 : Int) ≤ (a : Int) := by omega
      have ha2 : (a : Int) ≤ 65536 := by omega
      obtain ⟨lf, hlf⟩ : ∃ lf, nd (clk k) (L ++ [s]) j (2 * q) = lf := ⟨_, rfl⟩
      have hb := HA.out.blk
      have hl := HA.out.lst
      rw [e2, ha] at hl
      have z0 : wr.cell? ⟨m + 1, 0, none⟩ = some (.int .i64 k) := by rw [cell_of_row wr (m + 1) 0 _ _ (0, 0) hb]; rfl
      have z2 : wr.cell? ⟨m + 1, 2, none⟩ = some (.map (some m)) := by rw [cell_of_row wr (m + 1) 2 _ _ (0, 0) hb]; rfl
      have l0 : wr.cell? ⟨w.heap.size, 0, none⟩ = some (.int .i64 (j : Int)) := by rw [cell_of_row wr _ 0 _ _ (0, 0) hl]; rfl
      have l1 : wr.cell? ⟨w.heap.size, 1, none⟩ = some (.int .u64 (a : Int)) := by rw [cell_of_row wr _ 1 _ _ (0, 0) hl]; rfl
      have hlook := (HA.out.mp.same (W := wr.drew) rfl).look (h := (j : Int)) (k := 2 * q) ⟨⟨by omega, by omega⟩, by omega⟩ false
      rw [fj_left (clk k) L s j q hq', hlf] at hlook
      unfold kv nv at hlook
      rw [show ((2 * q : Nat) : Int) = (a : Int) - 1 by omega] at hlook
      simp only [Option.getD_some, Bool.false_eq_true, if_false] at hlook
      obtain ⟨d', hd'⟩ : ∃ d', dg (clk k) (nodeT lf d) = d' := ⟨_, rfl⟩
      have zl : lf.size = clk k := by rw [← hlf]; exact nd_size hkk _ _ _
      have zd : d.size = clk k := by rw [HDj.out]; exact nd_size hkk _ _ _
      have HNd : Hid (∀ W, Tb W → Calls Tryz.prog 51 #[.int .i64 k, .string lf, .string d] W fun e w' => e = .returned (.string d') ∧ Below W.heap.size W w') := fun W hT => node_any W hT k lf d (by omega) (by omega) d' hd'
      have HD2 : Hid (d' = nd (clk k) (L ++ [s]) (j + 1) ((L.length + 1) / 2 ^ (j + 1) - 1)) := by
        show d' = _
        rw [e1, nd, hlf, ← hd', HDj.out, e2]
      have hTw := (HTb.out wr HA.out.ch)
      have HTd : Hid (Tb wr.drew) := ⟨hTw.rs⟩
      have hfl := field_N wr.drew lf
      have HW : Hid (∀ W, Below wr.drew.heap.size wr.drew W → W.cell? ⟨w.heap.size, 0, none⟩ = some (.int .i64 (j : Int)) ∧ W.cell? ⟨w.heap.size, 1, none⟩ = some (.int .u64 (a : Int)) ∧ W.frozen? ⟨w.heap.size, 0, none⟩ = false ∧ W.frozen? ⟨w.heap.size, 1, none⟩ = false ∧
          W.heap[w.heap.size]? = some (.cells #[.int .i64 (j : Int), .int .u64 (a : Int)] 94 (0, 0)) ∧ W.heap[m + 1]? = some (.cells #[.int .i64 k, .int .u64 ((L.length + 1 : Nat) : Int), .map (some m)] 92 (0, 0)) ∧ Mp W m (fj (clk k) L s j) ∧ Chf m w W ∧ ∀ v l, OwnS wr (w.heap.size + 1) v l → OwnS W (w.heap.size + 1) v l) := fun W hbW => by
        have hlw := (hbW.block w.heap.size (Array.getElem?_eq_some_iff.1 hl).1).trans hl
        have hm1 : m + 1 < wr.heap.size := (Array.getElem?_eq_some_iff.1 hb).1
        refine ⟨?_, ?_, frozen_of_row W _ 0 _ _ hlw, frozen_of_row W _ 1 _ _ hlw, hlw, (hbW.block (m + 1) hm1).trans hb, HA.out.mp.same (hbW.block m (by show m < wr.heap.size; omega)), HA.out.ch.trans (Chf.of (w := wr) ⟨hbW.os, hbW.tape, hbW.output, hbW.size, hbW.block⟩ (by omega)), fun v l ho => own_next (w := wr) ho ⟨hbW.os, hbW.tape, hbW.output, hbW.size, hbW.block⟩ (Nat.le_refl _)⟩
        · rw [cell_of_row W _ 0 _ _ (0, 0) hlw]; rfl
        · rw [cell_of_row W _ 1 _ _ (0, 0) hlw]; rfl
      clear hb hl zl zd hd' HDj hTw
      go_upto_region 12 with (fail)
      go_region
      go_upto_region 15 with (go_at_call 51; with_reducible refine (HNd.out _ HTd.out).mono ?_; rintro e w4 ⟨rfl, hb4⟩; obtain ⟨p0, p1, p2, p3, P⟩ := HW.out _ hb4)
      obtain ⟨hl4, hb5, hm4, hc4, ho4⟩ := P
      have es1 := heap_setCell_same w4 w.heap.size 0 _ 94 (.int .i64 ((j : Int) + 1)) hl4
      have es2 := heap_setCell_same _ w.heap.size 1 _ 94 (.int .u64 ((a : Int) / 2)) es1
      have hm1 : m + 1 < w.heap.size := HK.out.lt
      have hnb : ∀ b, b ≠ w.heap.size → ((w4.setCell ⟨w.heap.size, 0, none⟩ (.int .i64 ((j : Int) + 1))).setCell ⟨w.heap.size, 1, none⟩ (.int .u64 ((a : Int) / 2))).heap[b]? = w4.heap[b]? := fun b hb =>
        (Below.heap_setCell _ ⟨w.heap.size, 1, none⟩ _ b hb).trans (Below.heap_setCell _ ⟨w.heap.size, 0, none⟩ _ b hb)
      have hc5 : Chf m w ((w4.setCell ⟨w.heap.size, 0, none⟩ (.int .i64 ((j : Int) + 1))).setCell ⟨w.heap.size, 1, none⟩ (.int .u64 ((a : Int) / 2))) :=
        (hc4.set 0 _ (.inr (Nat.le_refl _)) (by omega)).set 1 _ (.inr (Nat.le_refl _)) (by omega)
      have hb6 := (hnb (m + 1) (by omega)).trans hb5
      have hm5 := hm4.same (hnb m (by omega))
      have ho5 : ∀ v l, OwnS wr (w.heap.size + 1) v l → OwnS ((w4.setCell ⟨w.heap.size, 0, none⟩ (.int .i64 ((j : Int) + 1))).setCell ⟨w.heap.size, 1, none⟩ (.int .u64 ((a : Int) / 2))) (w.heap.size + 1) v l := fun v l ho => by
        obtain ⟨g1, g2⟩ := ho4 v l ho
        refine ⟨g1, ?_⟩
        rcases g2 with g2 | ⟨g, cap, cur, rfl, hg, hh, r⟩
        · exact .inl g2
        · exact .inr ⟨g, cap, cur, rfl, hg, (hnb g (by omega)).trans hh, r⟩
      obtain ⟨w5, hw5⟩ : ∃ w5, (w4.setCell ⟨w.heap.size, 0, none⟩ (.int .i64 ((j : Int) + 1))).setCell ⟨w.heap.size, 1, none⟩ (.int .u64 ((a : Int) / 2)) = w5 := ⟨_, rfl⟩
      rw [hw5] at es2 hc5 hb6 hm5
      rw [hw5]
      have hl5 : w5.heap[w.heap.size]? = some (.cells #[.int .i64 ((j : Int) + 1), .int .u64 ((a : Int) / 2)] 94 (0, 0)) := es2
      have ho6 : ∀ v l, OwnS wr (w.heap.size + 1) v l → OwnS w5 (w.heap.size + 1) v l := fun v l ho => by rw [← hw5]; exact ho5 v l ho
      obtain ⟨es, cl, hup, hm6⟩ := (hm5.same (W := w5.drew) rfl).write (h := ((j + 1 : Nat) : Int)) (k := q) ⟨⟨by omega, by omega⟩, by omega⟩ d'
      rw [show d' = nd (clk k) (L ++ [s]) (j + 1) q by rw [HD2.out, e1], fj_step (clk k) L s j q hq'] at hm6
      have hz5 : w.heap.size < w5.heap.size := (Array.getElem?_eq_some_iff.1 hl5).1
      have hc6 : Chf m w (ChangeMaps.setBlock w5.drew m (.map es cl)) := (Chf.next hc5 (Below.refl _ _).drew (by omega)).put _
      have hb7 : (ChangeMaps.setBlock w5.drew m (.map es cl)).heap[m + 1]? = _ := (set_other _ (by omega)).trans hb6
      have hl6 : (ChangeMaps.setBlock w5.drew m (.map es cl)).heap[w.heap.size]? = _ := (set_other _ (by omega)).trans hl5
      have ho7 : OwnS (ChangeMaps.setBlock w5.drew m (.map es cl)) (w.heap.size + 1) u8 (nw (clk k) (L ++ [s]) j) := by
        obtain ⟨g1, g2⟩ := ho6 _ _ HA.out.own
        refine ⟨g1, ?_⟩
        rcases g2 with g2 | ⟨g, cap, cur, e, hg, hh, r⟩
        · exact .inl g2
        · exact .inr ⟨g, cap, cur, e, hg, (set_other _ (by omega)).trans hh, r⟩
      obtain ⟨w6, hw6⟩ : ∃ w6, ChangeMaps.setBlock w5.drew m (.map es cl) = w6 := ⟨_, rfl⟩
      rw [hw6] at hup hm6 hc6 hb7 hl6 ho7
      have x2 : w5.cell? ⟨m + 1, 2, none⟩ = some (.map (some m)) := by rw [cell_of_row w5 (m + 1) 2 _ _ (0, 0) hb6]; rfl
      have y0 : w5.cell? ⟨w.heap.size, 0, none⟩ = some (.int .i64 ((j : Int) + 1)) := by rw [cell_of_row w5 _ 0 _ _ (0, 0) hl5]; rfl
      have y1 : w5.cell? ⟨w.heap.size, 1, none⟩ = some (.int .u64 ((a : Int) / 2)) := by rw [cell_of_row w5 _ 1 _ _ (0, 0) hl5]; rfl
      unfold kv nv at hup
      have ea : (a : Int) / 2 = (q : Int) := by omega
      rw [← ea, show ((j + 1 : Nat) : Int) = (j : Int) + 1 by omega] at hup
      have HY : Hid (d'.size ≤ 9223372036854775807) := by show d'.size ≤ _; rw [HD2.out, nd_size hkk]; omega
      have HO := hide ho7
      have HZ6 : Hid (w.heap.size < w6.heap.size) := (Array.getElem?_eq_some_iff.1 hl6).1
      have HLn : Hid ((nw (clk k) (L ++ [s]) j).length ≤ 17) := by show _ ≤ _; rw [nw_len]; omega
      have HG : Hid (Mp w6 m (fj (clk k) L s (j + 1)) ∧ Chf m w w6 ∧ w6.heap[m + 1]? = some (.cells #[.int .i64 k, .int .u64 ((L.length + 1 : Nat) : Int), .map (some m)] 92 (0, 0)) ∧ w6.heap[w.heap.size]? = some (.cells #[.int .i64 ((j + 1 : Nat) : Int), .int .u64 (((L.length + 1) / 2 ^ (j + 1) - 1 : Nat) : Int)] 94 (0, 0)) ∧ m + 1 < w.heap.size) :=
        ⟨hm6, hc6, hb7, by rw [hl6, e1, ← ea]; rfl, hm1⟩
      clear hw6 hw5 es1 es2 hb4 hl4 hb5 hm4 hc4 ho4 hnb hc5 hb6 hm5 ho5 hl5 ho6 hm6 hz5 hc6 hb7 hl6 ho7 hlook hfl HW HNd HTd z0 z2 l0 l1 p0 p1 p2 p3 ea hq' e1 e2 hab
      go_region
      go_wp2_with (at_builtin; refine wpList_append_S _ rfl _ _ rfl (w.heap.size + 1) _ _ rfl (own_al HO.out _) (some ⟨w6.heap.size, 0, none⟩) w6.heap.size 0 1 [d'] rfl (rds_one w6 d' HY.out) (fun h => by cases h) ?c1 ?c2 ?_)
      case c1 => have := HLn.out; simp; omega
      case c2 => have := HZ6.out; simp; omega
      intro v2 w7 h7 hb7
      have HA2 : Hid (Ap w w7 m k L s (j + 1) v2) := by
        obtain ⟨g1, g2, g3, g4, g5⟩ := HG.out
        have hz6 := HZ6.out
        have hbb : Below (w.heap.size + 1) w6 w7 := ((Below.refl _ _).alloc (by omega) _).trans hb7
        have hcc : Chf m w w7 := ⟨g2.below.trans (hbb.mono (by omega)), fun b hb x y => (hbb.block b (by omega)).trans (g2.block b hb x y)⟩
        refine ⟨(hbb.block _ (by omega)).trans g3, (hbb.block _ (by omega)).trans g4, g1.same (hbb.block m (by omega)), ?_, hcc⟩
        rw [nw_succ, List.length_append, List.length_singleton, ← HD2.out]
        exact h7
      clear h7 hb7
      go_wp2
      go_roundg (t - (j + 1))
      case rel =>
        go_light
        exact ⟨j + 1, d', by omega, rfl, rfl, HD2, by go_num, HA2⟩
      case measure => go_light; omega
    · obtain rfl : j = t := by omega
      have hz : ¬ ((j : Int) < (j : Int)) := by omega
      go_wp2
      go_ret2
      have hm2 := HA.out.mp
      rw [fj_end (clk k) L s j hL HHT.out] at hm2
      refine ⟨_, rfl, ⟨?_, hm2, HK.out.k1, HK.out.k2, by simp; omega⟩, own_mono HA.out.own (by omega), HA.out.ch⟩
      rw [HA.out.blk]
      simp
end Go.Proofs.YtipcenbndhnnhaaGreatDoor
namespace Go.Proofs.YtipcenbndhnnhaaGreatDoor
open Go.RowKit
section
variable {n i H : Nat} {A B : List (Nat × Nat)}
end
theorem dn_in (n : Nat) (hn : n ≤ 2 ^ 40) : ∀ b ∈ Cv.dnL 41 0 n, (b.2 + 1) * 2 ^ b.1 ≤ n := by
  have := (cov_peaks 1 (List.replicate n ByteArray.empty) n (by simp) hn).2
  rwa [Cv.cov_zero n hn] at this
def sb (q : Nat) : Nat := if q % 2 = 1 then q - 1 else q + 1
def stT (q : Nat) (d x : ByteArray) : ByteArray := if q % 2 = 1 then nodeT x d else nodeT d x
def rs (c : Nat) : Nat → ByteArray → List ByteArray → ByteArray
  | _, d, [] => d
  | q, d, x :: r => rs c (q / 2) (dg c (stT q d x)) r
end Go.Proofs.YtipcenbndhnnhaaGreatDoor
namespace Go.Proofs.YtipcenbndhnnhaaGreatDoor
open Go.RowKit
open Cv (RdC Ap)
attribute [local go_sem ↓] Go.wp_at_zero Go.wp_at_succ
abbrev dn : Value := .slice none 0 0
abbrev cS (l : List ByteArray) : List Value := l.map Value.string
theorem below_drew_alloc (w : World) (o : Obj) : Below w.heap.size w (w.drew.alloc o) := (Below.refl w.heap.size w).drew.alloc (by simp) o
theorem take_succ_getD {α : Type} (d : α) (l : List α) (j : Nat) (h : j < l.length) : l.take (j + 1) = l.take j ++ [l.getD j d] := by
  rw [List.take_add_one, List.getD_eq_getElem?_getD, List.getElem?_eq_getElem h]; rfl
theorem catl_le {α : Type} (Ls : List (List α)) (j : Nat) : (Ls.take j).flatten.length ≤ Ls.flatten.length := by
  have := congrArg (fun x : List (List α) => x.flatten.length) (List.take_append_drop j Ls)
  simp only [List.flatten_append, List.length_append] at this
  omega
set_option maxRecDepth 100000 in
theorem grow_B (w : World) (n : Nat) (hn : n ≤ 8796093022208) :
    Calls Tryz.prog 106 #[.slice none 0 0, .int .i64 (n : Int)] w fun e w' => ∃ v, e = .returned v ∧ w'.ownsRow w.heap.size 94 2 v 0 [] ∧ Below w.heap.size w w' := by
  obtain ⟨i0, hi, hz0, hz1, hz2⟩ := info_parts Cv.Tryz.infoB
  by_cases h0 : n = 0
  · subst h0
    clear hn
    go_enter Tryz.func106, Tryz.ntmps106
    go_wp2
    go_ret
    exact ⟨_, rfl, World.ownsRow_nil _ _ _ _, Below.refl _ _⟩
  · have hr := fun ty => Lib.run_append_nil_zeros (P := Tryz.prog) w 65 3 ty 94 i0 _ .i64 .i64 Tryz.underlying65 Tryz.underlying3 hi hz0 n (by omega) (by rw [hz1]; decide) (by omega) (by rw [hz2]; omega)
    obtain ⟨G, hG⟩ : ∃ G, grownCap w n 0 94 = G := ⟨_, rfl⟩
    have hge := grownCap_ge w n 0 94
    have hle := grownCap_le_maxLen w n 0 94 (by unfold maxLen; omega)
    rw [hG] at hge hle hr
    have HO : Hid ((w.drew.alloc (.cells (Builtin.zeroCells (Value.cells (.agg #[.int .i64 0, .int .u64 0])) n ++ Builtin.zeroCells (Value.cells (.agg #[.int .i64 0, .int .u64 0])) (G - n)) 94)).ownsRow w.heap.size 94 2 (.slice (some ⟨w.heap.size, 0, none⟩) 0 G) 0 []) := by
      refine ⟨rfl, .inr ⟨w.heap.size, G, _, rfl, Nat.le_refl _, heap_alloc_new w.drew _, Nat.zero_le _, hle, ?_, by simp⟩⟩
      rw [Array.size_append, size_zeroCells, size_zeroCells, show (Value.cells (.agg #[.int .i64 0, .int .u64 0])).size = 2 from rfl, ← Nat.add_mul]
      congr 1
      omega
    have hG63 : G ≤ 9223372036854775807 := by unfold maxLen at hle; omega
    have hn0 : (0 : Int) < (n : Int) := by omega
    have hnz : ¬ (n : Int) < 0 := by omega
    clear hG hge hle hi hz0 hz1 hz2 h0
    go_enter Tryz.func106, Tryz.ntmps106
    go_wp2_with (at_builtin; refine Lib.wpList_append_run _ rfl _ _ _ _ rfl _ _ rfl rfl _ _ (hr _) ?_)
    go_ret
    exact ⟨_, rfl, HO.out, below_drew_alloc w _⟩
structure CatB (w : World) (g0 : Nat) (us : List Value) (Ls : List (List (Int × Nat))) : Prop where
  len : us.length = Ls.length
  cell : ∀ j, j < us.length → w.cell? ⟨g0, j, none⟩ = some (us.getD j dn)
  rd : ∀ j, j < us.length → RdC w (us.getD j dn) (Ls.getD j []).length (Cv.cB (Ls.getD j []))
theorem CatB.next {w W : World} {g0 : Nat} {us : List Value} {Ls : List (List (Int × Nat))} (h : CatB w g0 us Ls) (hb : Below w.heap.size w W) : CatB W g0 us Ls :=
  ⟨h.len, fun j hj => (hb.cell (World.block_lt_of_cell? w _ (h.cell j hj))).trans (h.cell j hj), fun j hj => Cv.rdc_keep (h.rd j hj) hb⟩
set_option maxRecDepth 100000 in
set_option maxHeartbeats 1000000 in
theorem concat_B (w : World) (g0 c0 : Nat) (us : List Value) (Ls : List (List (Int × Nat))) (h : CatB w g0 us Ls) (hu : us.length ≤ 1000) (hm : Ls.flatten.length ≤ 8796093022208) (cl : List (Int × Nat)) (hcl : Ls.flatten = cl) :
    Calls Tryz.prog 63 #[.slice (some ⟨g0, 0, none⟩) us.length c0] w fun e w' => ∃ v, e = .returned v ∧ w'.ownsRow w.heap.size 94 2 v cl.length (Cv.cB cl) ∧ Below w.heap.size w w' := by
  obtain ⟨i0, hi, hz0, hz1, hz2⟩ := info_parts Cv.Tryz.infoB
  have HC : Hid (∀ W, Below w.heap.size w W → CatB W g0 us Ls) := fun W hb => h.next hb
  have HX : Hid (us.length = Ls.length ∧ us.length ≤ 1000 ∧ Ls.flatten.length ≤ 8796093022208 ∧ Ls.flatten = cl) := ⟨h.len, hu, hm, hcl⟩
  have h63 : (us.length : Int) ≤ 1000 := by omega
  have hb0 := Below.refl w.heap.size w
  have HI : Hid (Tryz.prog.info? 94 = some i0 ∧ i0.zero = some (.agg #[.int .i64 0, .int .u64 0]) ∧ i0.size = 2 ∧ i0.bytes = 16) := ⟨hi, hz0, hz1, hz2⟩
  clear h hu hm hcl hi hz0 hz1 hz2
  go_enter Tryz.func63, Tryz.ntmps63
  go_wp2
  go_loopg [3, 11] us.length (fun g s i wr => ∃ j : Nat, j ≤ us.length ∧ g = us.length - j ∧ i = .int .i64 (j : Int) ∧ s = .int .i64 ((Ls.take j).flatten.length : Int) ∧ Below w.heap.size w wr)
  case atStart =>
    go_light
    exact ⟨0, Nat.zero_le _, rfl, rfl, rfl, hb0⟩
  case round =>
    clear hb0
    obtain ⟨j, hj, rfl, rfl, rfl, hb⟩ := hrel
    by_cases hlt : j < us.length
    · have hz : (j : Int) < (us.length : Int) := by omega
      have hz0 : (0 : Int) ≤ (j : Int) := Int.natCast_nonneg _
      have cj := (HC.out wr hb).cell j hlt
      obtain ⟨ao, cap, hv, _, _⟩ := (HC.out wr hb).rd j hlt
      rw [hv] at cj
      obtain ⟨m, hmm⟩ : ∃ m, (Ls.getD j []).length = m := ⟨_, rfl⟩
      rw [hmm] at cj
      have hs : (Ls.take (j + 1)).flatten.length = (Ls.take j).flatten.length + m := by
        rw [take_succ_getD [] Ls j (by have := HX.out.1; omega), List.flatten_append, List.length_append, List.flatten_singleton, hmm]
      have hle := catl_le Ls (j + 1)
      obtain ⟨a, ha⟩ : ∃ a, (Ls.take j).flatten.length = a := ⟨_, rfl⟩
      rw [ha] at hs ⊢
      have hax : a + m ≤ 8796093022208 := by have := HX.out.2.2.1; omega
      have e1 : IntKind.i64.wrap ((a : Int) + (m : Int)) = (a : Int) + (m : Int) := by rw [IntKind.wrap_i64]; omega
      have hpos : ¬ (a : Int) + (m : Int) < 0 := by omega
      have HS : Hid ((a : Int) + (m : Int) = ((Ls.take (j + 1)).flatten.length : Nat)) := by show _ = _; rw [hs]; omega
      clear hs hle ha hmm hv hax
      go_wp2
      go_roundg (us.length - (j + 1))
      case rel =>
        go_light
        exact ⟨j + 1, by omega, rfl, by go_num, by rw [HS.out], hb⟩
      case measure => go_light; omega
    · obtain rfl : j = us.length := by omega
      have hz : ¬ ((us.length : Int) < (us.length : Int)) := by omega
      have ha : (Ls.take us.length).flatten.length = Ls.flatten.length := by rw [HX.out.1, List.take_length]
      rw [ha]
      have HG : Hid (∀ W, Calls Tryz.prog 106 #[.slice none 0 0, .int .i64 (Ls.flatten.length : Int)] W fun e w' => ∃ v, e = .returned v ∧ w'.ownsRow W.heap.size 94 2 v 0 [] ∧ Below W.heap.size W w') := fun W => grow_B W _ HX.out.2.2.1
      obtain ⟨q, hq⟩ : ∃ q, Ls.flatten.length = q := ⟨_, rfl⟩
      rw [hq] at HG ⊢
      clear ha hlt hj hq
      go_wp2_with (go_at_call 106; with_reducible refine (HG.out _).mono ?_; rintro e w1 ⟨v, rfl, ho, hb1⟩)
      have hb2 := bnext hb hb1
      have ho2 : w1.ownsRow w.heap.size 94 2 v 0 [] := ho.mono hb.size
      clear hb hb1 ho
      go_wp2
      go_loopg [6, 27] us.length (fun g v i wr => ∃ j : Nat, j ≤ us.length ∧ g = us.length - j ∧ i = .int .i64 (j : Int) ∧ wr.ownsRow w.heap.size 94 2 v (Ls.take j).flatten.length (Cv.cB (Ls.take j).flatten) ∧ Below w.heap.size w wr)
      case atStart =>
        go_light
        exact ⟨0, Nat.zero_le _, rfl, rfl, ho2, hb2⟩
      case round =>
        clear hb2 ho2
        obtain ⟨j, hj, rfl, rfl, ho, hb⟩ := hrel
        by_cases hlt : j < us.length
        · have hz : (j : Int) < (us.length : Int) := by omega
          have hz0 : (0 : Int) ≤ (j : Int) := Int.natCast_nonneg _
          have cj := (HC.out wr hb).cell j hlt
          have rj := (HC.out wr hb).rd j hlt
          obtain ⟨u, hu⟩ : ∃ u, us.getD j dn = u := ⟨_, rfl⟩
          obtain ⟨l, hl⟩ : ∃ l, Ls.getD j [] = l := ⟨_, rfl⟩
          rw [hu] at cj rj
          rw [hl] at rj
          have ht : (Ls.take (j + 1)).flatten = (Ls.take j).flatten ++ l := by
            rw [take_succ_getD [] Ls j (by have := HX.out.1; omega), List.flatten_append, List.flatten_singleton, hl]
          have hle := catl_le Ls (j + 1)
          obtain ⟨a, ha⟩ : ∃ a, (Ls.take j).flatten = a := ⟨_, rfl⟩
          rw [ha] at ht ho
          rw [ht, List.length_append] at hle
          have HS : Hid ((Ls.take (j + 1)).flatten = a ++ l ∧ a.length + l.length ≤ 8796093022208 ∧ RdC wr u l.length (Cv.cB l) ∧ wr.ownsRow w.heap.size 94 2 u6 a.length (Cv.cB a) ∧ w.heap.size ≤ wr.heap.size) := ⟨ht, by have := HX.out.2.2.1; omega, rj, ho, hb.size⟩
          clear ht hle ha hl hu ho rj
          go_wp2_with (at_builtin; refine Cv.wpList_append_ap _ rfl _ _ _ rfl w.heap.size 94 i0 (.agg #[.int .i64 0, .int .u64 0]) 2 16 Tryz.underlying65 HI.out.1 HI.out.2.1 HI.out.2.2.1 HI.out.2.2.2 rfl (by decide) _ a.length (Cv.cB a) rfl HS.out.2.2.2.1 _ l.length (Cv.cB l) rfl HS.out.2.2.1 (Cv.cB_len l) (Cv.cB_one l) ?c1 ?c2 HS.out.2.2.2.2 ?_)
          case c1 => have := HS.out.2.1; unfold maxLen; omega
          case c2 => have := HS.out.2.1; omega
          intro v' w1 hap
          have HY : Hid (w1.ownsRow w.heap.size 94 2 v' (a ++ l).length (Cv.cB (a ++ l)) ∧ Below w.heap.size w w1) := by
            refine ⟨?_, (Cv.ownB_step0 hb HS.out.2.2.2.2 HS.out.2.2.2.1 hap.grown).1⟩
            rw [List.length_append, Cv.cB_app]; exact hap.own
          clear hap hb
          go_wp2
          go_roundg (us.length - (j + 1))
          case rel =>
            go_light
            refine ⟨j + 1, by omega, rfl, by go_num, ?_, HY.out.2⟩
            rw [HS.out.1]; exact HY.out.1
          case measure => go_light; omega
        · obtain rfl : j = us.length := by omega
          have hz : ¬ ((us.length : Int) < (us.length : Int)) := by omega
          rw [HX.out.1, List.take_length, HX.out.2.2.2] at ho
          clear hlt hj
          go_wp2
          go_ret
          exact ⟨_, rfl, ho, hb⟩
end Go.Proofs.YtipcenbndhnnhaaGreatDoor
namespace Go.Proofs.YtipcenbndhnnhaaGreatDoor
open Go.RowKit
open Cv (RdC zl)
attribute [local go_sem ↓] Go.wp_at_zero Go.wp_at_succ
theorem fit40 {b : Nat × Nat} {n : Nat} (h : (b.2 + 1) * 2 ^ b.1 ≤ n) (hn : n ≤ 2 ^ 40) : Fitb (b.1 : Int) b.2 ∧ b.1 ≤ 40 ∧ b.2 < 2 ^ 40 := by
  have hp := Nat.two_pow_pos b.1
  have h1 : 2 ^ b.1 ≤ (b.2 + 1) * 2 ^ b.1 := Nat.le_mul_of_pos_left _ (by omega)
  have h2 : b.2 + 1 ≤ (b.2 + 1) * 2 ^ b.1 := Nat.le_mul_of_pos_right _ hp
  have h3 : b.1 < 2 ^ b.1 := Nat.lt_two_pow_self
  have h4 : b.1 ≤ 40 := Cv.pw40 (h := b.1) (by show 2 ^ b.1 ≤ _; omega)
  exact ⟨⟨⟨by omega, by omega⟩, by omega⟩, h4, by omega⟩
theorem mount40 (n : Nat) (hn : n ≤ 2 ^ 40) : Cv.errR 0 n n = 0 ∧ Cv.covR 0 n n = Cv.dnL 41 0 n := by
  have h : Cv.errR 0 n n = 0 := by rw [Cv.errR, if_neg (by omega), if_neg (by omega), if_neg (by omega)]
  exact ⟨h, by rw [Cv.covR, if_pos h, Cv.cov_zero n hn]⟩
theorem sb_xor (q : Nat) : Nat.xor q 1 = sb q := by
  unfold sb
  have h1 : Nat.xor q 1 = q ^^^ 1 := rfl
  rw [h1]
  apply Nat.eq_of_testBit_eq
  intro t
  rw [Nat.testBit_xor]
  cases t with
  | zero =>
    have h0 : ∀ x, Nat.testBit x 0 = decide (x % 2 = 1) := fun x => Nat.testBit_zero x
    rw [h0, h0, h0]
    by_cases h : q % 2 = 1
    · rw [if_pos h]
      have : (q - 1) % 2 = 0 := by omega
      simp [h, this]
    · rw [if_neg h]
      have : (q + 1) % 2 = 1 := by omega
      simp [h, this]
  | succ t =>
    rw [Nat.testBit_succ, Nat.testBit_succ, Nat.testBit_succ]
    by_cases h : q % 2 = 1
    · rw [if_pos h, show (q - 1) / 2 = q / 2 by omega]; simp
    · rw [if_neg h, show (q + 1) / 2 = q / 2 by omega]; simp
end Go.Proofs.YtipcenbndhnnhaaGreatDoor
