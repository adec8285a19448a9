/-
  KinFresh: what stands while proofs are written over; within, again. Own work.
-/
import Derived.Test.YtdkcliblbaldhaaDoorJSame
import Derived.Test.YtdkcliblbaldhaaDoorJComp
import Derived.Test.YtdkcliblbaldhaaDoorQ4
namespace Go.Proofs.YtdkcliblbaldhaaDoor
open Go.RowKit
open Cv (cU)
attribute [local go_sem ↓] Go.wp_at_zero Go.wp_at_succ
abbrev pB1 : ByteArray := ⟨#[112]⟩
abbrev qB1 : ByteArray := ⟨#[113]⟩
theorem Frs.low {w w' : World} {m : Nat} {k : Int} {L : List ByteArray} (h : Frs w m k L) (hb : ∀ b, b ≤ m + 1 → w'.heap[b]? = w.heap[b]?) : Frs w' m k L := h.same (hb _ (by omega)) (hb _ (by omega))
/-- Two proofs, what was told of them, the forest, two roots. -/
structure Fs (w wr : World) (B fm q1 q2 ra : Nat) (K : Int) (T : List ByteArray) (m n : Nat) (r1 r2 : ByteArray) (vp vq vw : Value) (P Q D : List ByteArray) : Prop where
  s1 : Six wr q1 (.int .i64 3) (.int .i64 K) (.int .u64 (m : Int)) (.int .u64 (n : Int)) (.slice none 0 0) vp
  s2 : Six wr q2 (.int .i64 3) (.int .i64 K) (.int .u64 (m : Int)) (.int .u64 (n : Int)) (.slice none 0 0) vq
  op : OwnS wr B vp P
  oq : OwnS wr B vq Q
  ow : OwnS wr B vw D
  fr : Frs wr fm K T
  h1 : Rh wr ra m r1
  h2 : Rh wr (ra + 1) n r2
  be : Below w.heap.size w wr
  lo : w.heap.size ≤ B ∧ fm + 2 ≤ B ∧ B ≤ wr.heap.size
  apq : Apt vp vq
  apw : Apt vp vw
  aqw : Apt vq vw
section
variable {w wr W : World} {B fm q1 q2 ra : Nat} {K : Int} {T : List ByteArray} {m n : Nat} {r1 r2 : ByteArray} {vp vq vw : Value} {P Q D P' Q' : List ByteArray}
theorem Fs.next (h : Fs w wr B fm q1 q2 ra K T m n r1 r2 vp vq vw P Q D) (hb : Below wr.heap.size wr W) : Fs w W B fm q1 q2 ra K T m n r1 r2 vp vq vw P Q D :=
  ⟨h.s1.next hb, h.s2.next hb, own_next h.op hb (Nat.le_refl _), own_next h.oq hb (Nat.le_refl _), own_next h.ow hb (Nat.le_refl _), h.fr.next hb (Nat.le_refl _), h.h1.next hb, h.h2.next hb, bnext h.be hb, ⟨h.lo.1, h.lo.2.1, Nat.le_trans h.lo.2.2 hb.size⟩, h.apq, h.apw, h.aqw⟩
/-- The first list alone has changed. -/
theorem Fs.chp (h : Fs w wr B fm q1 q2 ra K T m n r1 r2 vp vq vw P Q D) (hg : wr.grownBy W vp.ownBlock) (ho : OwnS W B vp P') : Fs w W B fm q1 q2 ra K T m n r1 r2 vp vq vw P' Q D := by
  have lo : ∀ g, vp.ownBlock = some g → B ≤ g := fun g hg => (World.ownsRow.lt h.op g hg).1
  have hb : ∀ b, b < wr.heap.size → some b ≠ vp.ownBlock → W.heap[b]? = wr.heap[b]? := fun b h1 h2 => hg.block b h1 h2
  have nt : ∀ {q : Nat} {cs : Array Value} {T' : Nat} {fr : Nat × Nat}, wr.heap[q]? = some (.cells cs T' fr) → 9 ≠ T' → W.heap[q]? = wr.heap[q]? := fun {q cs T' fr} hq hT => hb q (Array.getElem?_eq_some_iff.1 hq).1 fun e => own_ty h.op hq hT q e.symm rfl
  have hl := h.lo
  refine ⟨h.s1.same (nt h.s1 (by decide)), h.s2.same (nt h.s2 (by decide)), ho, keep_row h.oq fun b h1 _ => hb b (World.ownsRow.lt h.oq b h1).2 fun e => h.apq b e.symm h1, keep_row h.ow fun b h1 _ => hb b (World.ownsRow.lt h.ow b h1).2 fun e => h.apw b e.symm h1, h.fr.low fun b hb' => hb b (by omega) fun e => by have := lo b e.symm; omega, h.h1.same (nt h.h1 (by decide)), h.h2.same (nt h.h2 (by decide)), h.be.trans ((Below.refl _ _).grown hg (by omega) fun k hk => by have := lo k hk; omega), ⟨hl.1, hl.2.1, Nat.le_trans hl.2.2 hg.size⟩, h.apq, h.apw, h.aqw⟩
/-- The second list alone has changed. -/
theorem Fs.chq (h : Fs w wr B fm q1 q2 ra K T m n r1 r2 vp vq vw P Q D) (hg : wr.grownBy W vq.ownBlock) (ho : OwnS W B vq Q') : Fs w W B fm q1 q2 ra K T m n r1 r2 vp vq vw P Q' D := by
  have lo : ∀ g, vq.ownBlock = some g → B ≤ g := fun g hg => (World.ownsRow.lt h.oq g hg).1
  have hb : ∀ b, b < wr.heap.size → some b ≠ vq.ownBlock → W.heap[b]? = wr.heap[b]? := fun b h1 h2 => hg.block b h1 h2
  have nt : ∀ {q : Nat} {cs : Array Value} {T' : Nat} {fr : Nat × Nat}, wr.heap[q]? = some (.cells cs T' fr) → 9 ≠ T' → W.heap[q]? = wr.heap[q]? := fun {q cs T' fr} hq hT => hb q (Array.getElem?_eq_some_iff.1 hq).1 fun e => own_ty h.oq hq hT q e.symm rfl
  have hl := h.lo
  refine ⟨h.s1.same (nt h.s1 (by decide)), h.s2.same (nt h.s2 (by decide)), keep_row h.op fun b h1 _ => hb b (World.ownsRow.lt h.op b h1).2 fun e => h.apq b h1 e.symm, ho, keep_row h.ow fun b h1 _ => hb b (World.ownsRow.lt h.ow b h1).2 fun e => h.aqw b e.symm h1, h.fr.low fun b hb' => hb b (by omega) fun e => by have := lo b e.symm; omega, h.h1.same (nt h.h1 (by decide)), h.h2.same (nt h.h2 (by decide)), h.be.trans ((Below.refl _ _).grown hg (by omega) fun k hk => by have := lo k hk; omega), ⟨hl.1, hl.2.1, Nat.le_trans hl.2.2 hg.size⟩, h.apq, h.apw, h.aqw⟩
end
theorem grown_set (w : World) (g i : Nat) (v : Value) : w.grownBy (w.setCell ⟨g, i, none⟩ v) (some g) := by
  have hch := (ChT.refl (fun b => b = g) w).set g i v rfl
  exact ⟨hch.os, hch.tape, hch.output, Nat.le_of_eq hch.size.symm, fun b _ hb => hch.block b fun e => hb (by rw [e])⟩
/-- A list that goes on from another. -/
structure Xs (W wr : World) (B : Nat) (vp x : Value) (d j : Nat) (c : ByteArray) : Prop where
  gr : W.grownBy wr vp.ownBlock
  ox : OwnS wr B x (List.replicate (d + j) c)
  op : OwnS wr B vp (List.replicate d c)
  lw : ∀ g, vp.ownBlock = some g → g < W.heap.size
  re : (∃ g n cap cap0, x = .slice (some ⟨g, 0, none⟩) n cap ∧ vp = .slice (some ⟨g, 0, none⟩) d cap0) ∨ ∀ g, x.ownBlock = some g → W.heap.size ≤ g
theorem grown_trans {a b c : World} {o o' : Option Nat} (h1 : a.grownBy b o) (h2 : b.grownBy c o') (h : ∀ g, o' = some g → o = some g ∨ a.heap.size ≤ g) : a.grownBy c o :=
  ⟨h2.os.trans h1.os, h2.tape.trans h1.tape, h2.output.trans h1.output, Nat.le_trans h1.size h2.size, fun k hk hne => (h2.block k (Nat.lt_of_lt_of_le hk h1.size) fun e => by
    rcases h k e.symm with e | e
    · exact hne e.symm
    · omega).trans (h1.block k hk hne)⟩
theorem xs_start {W : World} {B d : Nat} {vp : Value} {c : ByteArray} (h : OwnS W B vp (List.replicate d c)) : Xs W W B vp vp d 0 c := by
  refine ⟨World.grownBy.refl W _, h, h, fun g hg => (World.ownsRow.lt h g hg).2, ?_⟩
  obtain ⟨ao, n, cap, rfl⟩ := Cv.own_slice h
  have hl := own_len h
  rw [List.length_replicate] at hl
  subst hl
  rcases h.2 with ⟨h1, _⟩ | ⟨g, _, _, h1, _⟩
  · cases h1
    exact .inr fun g hg => by cases hg
  · obtain ⟨e1, _, _⟩ := Value.slice.inj h1
    subst e1
    exact .inl ⟨g, _, cap, cap, rfl, rfl⟩
/-- One more. -/
theorem Xs.app {W wr w' : World} {B d j : Nat} {vp x x' : Value} {c : ByteArray} (h : Xs W wr B vp x d j c) (ho : OwnS w' B x' (List.replicate (d + j) c ++ [c]))
    (hc : (∃ g n cap, x = .slice (some ⟨g, 0, none⟩) n cap ∧ x' = .slice (some ⟨g, 0, none⟩) (n + 1) cap ∧ wr.grownBy w' (some g)) ∨ (wr.grownBy w' none ∧ ∀ g, x'.ownBlock = some g → wr.heap.size ≤ g)) : Xs W w' B vp x' d (j + 1) c := by
  have ho' : OwnS w' B x' (List.replicate (d + (j + 1)) c) := by
    rw [show d + (j + 1) = d + j + 1 by omega, List.replicate_succ']; exact ho
  rcases hc with ⟨g, n, cap, rfl, rfl, hg⟩ | ⟨hg, hf⟩
  · rcases h.re with ⟨g', n', cap', cap0, e1, rfl⟩ | hre
    · obtain ⟨e2, _, _⟩ := Value.slice.inj e1
      cases e2
      refine ⟨grown_trans h.gr hg fun g0 e => .inl e, ho', ?_, h.lw, .inl ⟨g, _, cap, cap0, rfl, rfl⟩⟩
      refine Mm.ownS_head (r := List.replicate (j + 1) c) h.op h.ox (B2 := B) (n' := n + 1) ?_
      rw [List.replicate_append_replicate]
      exact ho'
    · have hge := hre g rfl
      refine ⟨grown_trans h.gr hg fun g0 e => .inr (by cases e; exact hge), ho', keep_row h.op fun b h1 _ => hg.block b (World.ownsRow.lt h.op b h1).2 fun e => ?_, h.lw, .inr fun g0 e => by cases e; exact hge⟩
      cases e
      have := h.lw _ h1
      omega
  · exact ⟨grown_trans h.gr hg (fun g0 e => by cases e), ho', keep_row h.op fun b h1 _ => hg.block b (World.ownsRow.lt h.op b h1).2 (by simp), h.lw, .inr fun g0 e => Nat.le_trans h.gr.size (hf g0 e)⟩
theorem set_mark {R : List ByteArray} {j : Nat} {x : ByteArray} (h : j < R.length) : (List.replicate j x ++ R.drop j).set j x = List.replicate (j + 1) x ++ R.drop (j + 1) := Mm.mark_set R j x h
/-- A number out of any. -/
theorem within_any (w : World) (x : Int) (n : Nat) (h0 : 0 < n) (h1 : n ≤ 1000) : ∃ m : Nat, m < n ∧ Calls Tryd.prog 18 #[.int .i64 x, .int .i64 (n : Int)] w fun e w' => e = .returned (.int .i64 (m : Int)) ∧ w = w' := by
  have hn : 0 ≤ IntKind.u64.wrap x := by rw [IntKind.wrap_u64]; omega
  obtain ⟨z, hz⟩ : ∃ z, IntKind.u64.wrap x = z := ⟨_, rfl⟩
  rw [hz] at hn
  have e1 : IntKind.u64.wrap (n : Int) = (n : Int) := u64_id _ (by omega) (by omega)
  obtain ⟨m, hm⟩ : ∃ m : Nat, z % (n : Int) = (m : Int) := ⟨(z % (n : Int)).toNat, by have := Int.emod_nonneg z (show (n : Int) ≠ 0 by omega); omega⟩
  have hmn : m < n := by have := Int.emod_lt_of_pos z (show (0 : Int) < (n : Int) by omega); omega
  have e2 : Int.tmod z (n : Int) = (m : Int) := by rw [Int.tmod_eq_emod_of_nonneg hn]; exact hm
  have e3 : IntKind.u64.wrap (m : Int) = (m : Int) := u64_id _ (by omega) (by omega)
  have e4 : IntKind.i64.wrap (m : Int) = (m : Int) := by rw [IntKind.wrap_i64]; omega
  have hz0 : ¬ (n : Int) = 0 := by omega
  refine ⟨m, hmn, ?_⟩
  clear hm hmn hn h0 h1
  go_enter Tryd.func18, Tryd.ntmps18
  go_wp2
  go_ret
  exact ⟨rfl, rfl⟩
set_option maxRecDepth 100000 in
set_option maxHeartbeats 1000000 in
theorem again_any (w : World) (ht : Tb w) (fm : Nat) (K : Int) (T : List ByteArray) (hF : Frs w fm K T) (m n : Nat) (hm : m ≤ T.length) (hn : n ≤ T.length) (r1 r2 : ByteArray) (h1 : rtD (clk K) T m = r1) (h2 : rtD (clk K) T n = r2) :
    Calls Tryd.prog 23 #[.pointer (some ⟨fm + 1, 0, none⟩), .agg #[.int .u64 (m : Int), .string r1], .agg #[.int .u64 (n : Int), .string r2]] w fun e w' => e = .returned (.bool true) ∧ Below w.heap.size w w' := by
  have y1 := (rh_new w m r1).next (bal (Below.refl _ _) (.cells #[.int .u64 (n : Int), .string r2] 37))
  have y2 := rh_new (w.alloc (.cells #[.int .u64 (m : Int), .string r1] 37)) n r2
  rw [World.size_alloc] at y2
  have hb := bal (bal (Below.refl w.heap.size w) (.cells #[.int .u64 (m : Int), .string r1] 37)) (.cells #[.int .u64 (n : Int), .string r2] 37)
  obtain ⟨W0, hW0⟩ : ∃ W0, (w.alloc (.cells #[.int .u64 (m : Int), .string r1] 37)).alloc (.cells #[.int .u64 (n : Int), .string r2] 37) = W0 := ⟨_, rfl⟩
  rw [hW0] at y1 y2 hb
  have HFm : Hid (∀ W, Below w.heap.size w W → Calls Tryd.prog 14 #[.pointer (some ⟨fm + 1, 0, none⟩), .int .u64 (m : Int)] W fun e w' => e = .returned (.tuple #[.agg #[.int .u64 (m : Int), .string r1], .int .i64 0]) ∧ Below W.heap.size W w') := fun W hb => froot_ok W (ht.next hb) fm K T (hF.next hb (Nat.le_refl _)) m hm r1 (hide h1)
  have HFn : Hid (∀ W, Below w.heap.size w W → Calls Tryd.prog 14 #[.pointer (some ⟨fm + 1, 0, none⟩), .int .u64 (n : Int)] W fun e w' => e = .returned (.tuple #[.agg #[.int .u64 (n : Int), .string r2], .int .i64 0]) ∧ Below W.heap.size W w') := fun W hb => froot_ok W (ht.next hb) fm K T (hF.next hb (Nat.le_refl _)) n hn r2 (hide h2)
  obtain ⟨c0, c1⟩ := y1.cells
  obtain ⟨c2, c3⟩ := y2.cells
  have HY : Hid (∀ W, Below W0.heap.size W0 W → Rh W w.heap.size m r1 ∧ Rh W (w.heap.size + 1) n r2 ∧ Below w.heap.size w W) := fun W hW => ⟨y1.next hW, y2.next hW, bnext hb hW⟩
  clear ht hF hm hn h1 h2 y1 y2
  go_enter Tryd.func23, Tryd.ntmps23
  go_upto_region 2 with (go_at_call 14; with_reducible refine (HFm.out _ hb).mono ?_; rintro e w1 ⟨rfl, hb1⟩)
  have t2 := bal hb1 (.cells #[.int .u64 (m : Int), .string r1] 37)
  have y3 := rh_new w1 m r1
  obtain ⟨w2, hw2⟩ : ∃ w2, w1.alloc (.cells #[.int .u64 (m : Int), .string r1] 37) = w2 := ⟨_, rfl⟩
  rw [hw2] at t2 y3 ⊢
  have hY2 := HY.out w2 t2
  obtain ⟨c2, c3⟩ := hY2.2.1.cells
  clear hw2 hW0 hb c0 c1
  go_upto_region 3 with (go_at_call 14; with_reducible refine (HFn.out _ hY2.2.2).mono ?_; rintro e w3 ⟨rfl, hb3⟩)
  have t4 := bal hb3 (.cells #[.int .u64 (n : Int), .string r2] 37)
  have y4 := rh_new w3 n r2
  obtain ⟨w4, hw4⟩ : ∃ w4, w3.alloc (.cells #[.int .u64 (n : Int), .string r2] 37) = w4 := ⟨_, rfl⟩
  rw [hw4] at t4 y4 ⊢
  obtain ⟨z1, z2, z3⟩ := HY.out w4 (bnext t2 t4)
  have y3 := y3.next t4
  generalize w1.heap.size = q1 at *
  generalize w3.heap.size = q3 at *
  obtain ⟨a1, a2⟩ := z1.cells
  obtain ⟨a3, a4⟩ := z2.cells
  obtain ⟨a5, a6⟩ := y3.cells
  obtain ⟨a7, a8⟩ := y4.cells
  clear hw4 z1 z2 y3 y4 t2 t4 hb1 hb3 hY2 HY HFm HFn c2 c3
  go_wp2_with (go_at_call 16; with_reducible refine (num_id _ _).mono ?_; rintro e wn ⟨rfl, rfl⟩)
  go_ret
  exact ⟨rfl, z3⟩
theorem own_setF {w : World} {B g m cap i : Nat} {l : List ByteArray} (h : OwnS w B (.slice (some ⟨g, 0, none⟩) m cap) l) (x : ByteArray) : OwnS (w.setCell ⟨g, i, none⟩ (.string x)) B (.slice (some ⟨g, 0, none⟩) m cap) (l.set i x) := by
  obtain ⟨h1, h2⟩ := h
  refine ⟨by simp, .inr ?_⟩
  rcases h2 with ⟨h2, h3⟩ | ⟨g', cap', cur, hv, hg, hh, h3, h4, h5, h6⟩
  · cases h2
  · obtain ⟨e1, e2, e3⟩ := Value.slice.inj hv
    cases e1
    have s1 : (w.setCell ⟨g, i, none⟩ (.string x)).heap[g]? = _ := heap_setCell_same w g i cur _ _ hh
    refine ⟨g, cap, _, by rw [e2]; simp, hg, s1, by simpa [e3] using h3, by omega, by simpa [e3] using h5, ?_⟩
    rw [List.length_set, Array.toList_setIfInBounds, List.take_set, h6, List.map_set]
theorem rep_cell {w : World} {B : Nat} {ao : Option Addr} {n c d : Nat} {x : ByteArray} (h : OwnS w B (.slice ao n c) (List.replicate d x)) {j : Nat} (hj : j < d) : n = d ∧ ∃ g, ao = some ⟨g, 0, none⟩ ∧ w.cell? ⟨g, j, none⟩ = some (.string x) := by
  have hl := own_len h
  rw [List.length_replicate] at hl
  obtain ⟨g, rfl, _, _⟩ := own_some h (by rw [List.length_replicate]; omega)
  refine ⟨hl, g, rfl, ?_⟩
  have := World.ownsRow.cells h (g := g) rfl j (.string x) (by rw [List.getElem?_map, List.getElem?_replicate, if_pos hj]; rfl)
  rwa [Addr.add_mid, Nat.zero_add] at this
theorem grown_al {w w' : World} {o : Obj} {ob : Option Nat} (h : (w.alloc o).grownBy w' ob) : w.grownBy w' ob :=
  ⟨h.os, h.tape, h.output, Nat.le_trans (by simp) h.size, fun b hb hne => (h.block b (by simp; omega) hne).trans (Cv.heap_al o hb)⟩
/-- It never lies where the other one does. -/
theorem Xs.away {W wr : World} {B d j : Nat} {vp vq x : Value} {c : ByteArray} (h : Xs W wr B vp x d j c) (ha : Apt vp vq) (hq : ∀ g, vq.ownBlock = some g → g < W.heap.size) : Apt x vq := fun g h1 h2 => by
  rcases h.re with ⟨g', n, cap, cap0, rfl, rfl⟩ | hre
  · cases h1
    exact ha g' rfl h2
  · have := hre g h1
    have := hq g h2
    omega
theorem rep_form {w : World} {B d : Nat} {v : Value} {x : ByteArray} (h : OwnS w B v (List.replicate d x)) (hd : 0 < d) : ∃ g cap, v = .slice (some ⟨g, 0, none⟩) d cap ∧ ∀ j, j < d → w.cell? ⟨g, j, none⟩ = some (.string x) := by
  obtain ⟨ao, n, cap, rfl⟩ := Cv.own_slice h
  obtain ⟨rfl, g, rfl, _⟩ := rep_cell h hd
  refine ⟨g, cap, rfl, fun j hj => ?_⟩
  obtain ⟨_, g', e, hc⟩ := rep_cell h hj
  cases e
  exact hc
end Go.Proofs.YtdkcliblbaldhaaDoor
