/-
  The reference's forest: the walk of Append. Own work.
-/
import Derived.Test.YtdkcliblbaldhaaDoorQ2
namespace Go.Proofs.YtdkcliblbaldhaaDoor
open Go.RowKit
open Mm (Fam OwnV dv Apart)
attribute [local go_sem ↓] Go.wp_at_zero Go.wp_at_succ exec_appR
theorem refappend_long (w : World) (q : Nat) (s : ByteArray) (hs : 1048576 < s.size) :
    Calls Tryd.prog 78 #[.pointer (some ⟨q, 0, none⟩), .string s] w fun e w' => e = .returned (.tuple #[.slice none 0 0, .int .i64 100]) ∧ w' = w := by
  have h1 : decide ((1048576 : Int) < (s.size : Int)) = true := decide_eq_true (by omega)
  clear hs
  go_enter Tryd.func78, Tryd.ntmps78
  go_wp2
  go_ret2
  exact ⟨rfl, rfl⟩
theorem refappend_many (w : World) (B q : Nat) (K : Int) (L : List ByteArray) (gA cA : Nat) (vs : List Value) (h : Rf w B q K L gA cA vs) (s : ByteArray) (hs : s.size ≤ 1048576) (hL : L.length = 65536) :
    Calls Tryd.prog 78 #[.pointer (some ⟨q, 0, none⟩), .string s] w fun e w' => e = .returned (.tuple #[.slice none 0 0, .int .i64 101]) ∧ w' = w := by
  have h1 : decide ((1048576 : Int) < (s.size : Int)) = false := decide_eq_false (by omega)
  obtain ⟨_, c1, _⟩ := h.lv.cells
  obtain ⟨ao, c, _, _, hc⟩ := h.level (i := 0) h.h1
  rw [Nat.pow_zero, Nat.div_one, hL] at hc
  have hpos : (0 : Int) < (vs.length : Int) := by have := h.h1; omega
  clear h hs hL
  go_enter Tryd.func78, Tryd.ntmps78
  go_wp2
  go_ret2
  exact ⟨rfl, rfl⟩
set_option maxRecDepth 100000 in
set_option maxHeartbeats 4000000 in
theorem refappend_ok (w : World) (ht : Tr w) (B q : Nat) (K : Int) (L : List ByteArray) (gA cA : Nat) (vs : List Value) (h : Rf w B q K L gA cA vs) (hBw : ∀ W, (∀ b, Foot q gA vs b → B ≤ b) → ChS (Foot q gA vs) w W → Tr W) (s : ByteArray) (hs : s.size ≤ 1048576) (hL : L.length < 65536) (t : Nat) (hT : tr 64 (L.length + 1) = t) :
    Calls Tryd.prog 78 #[.pointer (some ⟨q, 0, none⟩), .string s] w fun e w' => ∃ v gA' cA' vs', e = .returned (.tuple #[v, .int .i64 0]) ∧ Rf w' B q K (L ++ [s]) gA' cA' vs' ∧ OwnS w' w.heap.size v (nw (clk K) (L ++ [s]) t) ∧ ChS (Foot q gA vs) w w' ∧ (∀ b, Foot q gA' vs' b → Foot q gA vs b ∨ w.heap.size ≤ b) := by
  have h1 : decide ((1048576 : Int) < (s.size : Int)) = false := decide_eq_false (by omega)
  obtain ⟨c0, c1, _⟩ := h.lv.cells
  obtain ⟨ao, c, hv0, ho0, hc⟩ := h.level (i := 0) h.h1
  rw [Nat.pow_zero, Nat.div_one] at hc ho0 hv0
  have hpos : (0 : Int) < (vs.length : Int) := by have := h.h1; omega
  have hne : ¬ (L.length : Int) = 65536 := by omega
  obtain ⟨d0, hd0⟩ : ∃ d0, dg (clk K) (leafT s) = d0 := ⟨_, rfl⟩
  have hd0' : nd (clk K) (L ++ [s]) 0 L.length = d0 := by rw [nd, ← hd0]; simp
  have HLf : Hid (Calls Tryd.prog 89 #[.int .i64 K, .string s] w fun e w' => e = .returned (.string d0) ∧ Below w.heap.size w w') := refleaf_any w ht K s (by omega) d0 hd0
  have HTr : Hid (∀ W, ChS (Foot q gA vs) w W → Tr W) := fun W hc => hBw W (fun b hb => (h.lv.foot hb).1) hc
  have hkk := clk_le K
  have HH := hide h
  clear hs ht hBw
  go_enter Tryd.func78, Tryd.ntmps78
  go_upto_region 7 with (go_at_call 89; with_reducible refine HLf.out.mono ?_; rintro e w1 ⟨rfl, hb1⟩)
  obtain ⟨w2, hw2⟩ : ∃ w2, w1.alloc (.cells #[.string d0] 9) = w2 := ⟨_, rfl⟩
  rw [hw2]
  have hb2 : Below w.heap.size w w2 := by rw [← hw2]; exact bal hb1 _
  have hO2 : OwnS w2 w.heap.size (.slice (some ⟨w1.heap.size, 0, none⟩) 1 1) [d0] := by rw [← hw2]; exact own_mono (own_one w1 d0) hb1.size
  have hg1 : w.heap.size ≤ w1.heap.size := hb1.size
  have h2 := h.next hb2
  have hz2 : w1.heap.size < w2.heap.size := by rw [← hw2]; simp
  /- the new node at the leaves' level -/
  have hd3 := bal (Below.refl w2.heap.size w2) (.cells #[.string d0] 9)
  obtain ⟨w3, hw3⟩ : ∃ w3, w2.alloc (.cells #[.string d0] 9) = w3 := ⟨_, rfl⟩
  have hr3 : Mm.RdC w3.drew (.slice (some ⟨w2.heap.size, 0, none⟩) 1 1) 1 [.string d0] := by rw [← hw3]; exact Mm.rdc_vals w2 #[.string d0] 9
  rw [hw3] at hd3
  have h3 := h2.next (w' := w3.drew) hd3.drew
  have hB3 : B ≤ w3.drew.heap.size := by
    have := h3.lv.foot (b := q) (.inl rfl)
    omega
  have ho3 := h3.lv.fam.own 0 h.h1
  rw [lvl_at _ _ h.h1, Nat.pow_zero, Nat.div_one, hv0] at ho3
  obtain ⟨v6, w6, hrn, h6, r6⟩ := run_app_T w3.drew 22 B _ _ ho3 ⟨w2.heap.size, 0, none⟩ 1 d0 hr3 (by rw [rowN_len]; omega) hB3
  have h6' : OwnS w6 B v6 ((lvl (clk K) L vs.length).getD 0 [] ++ [d0]) := by rw [lvl_at _ _ h.h1, Nat.pow_zero, Nat.div_one]; exact h6
  obtain ⟨hL6, hch6, hft6, cx6, fx6, cq6⟩ := h3.lv.app h.h1 hv0 h6' r6
  rw [← hd0', lvj_start _ _ _ h.h1] at hL6
  obtain ⟨a6, m6, d6, rfl⟩ := Mm.own_slice h6
  have hap := appR_of hrn
  have hq2 : w2.cell? ⟨q, 1, none⟩ = some (.slice (some ⟨gA, 0, none⟩) vs.length cA) := h2.lv.cells.2.1
  have hq3 : w3.cell? ⟨q, 1, none⟩ = some (.slice (some ⟨gA, 0, none⟩) vs.length cA) := (h2.next hd3).lv.cells.2.1
  have hc2 : w2.cell? ⟨gA, 0, none⟩ = some (.slice ao L.length c) := by have := (h2.lv.at h.h1).1; rw [hv0] at this; exact this
  have hc3 : w3.cell? ⟨gA, 0, none⟩ = some (.slice ao L.length c) := by have := ((h2.next hd3).lv.at h.h1).1; rw [hv0] at this; exact this
  have hbx : Below w.heap.size w w3.drew := bnext hb2 hd3.drew
  have hfl : ∀ b, Foot q gA vs b → b < w.heap.size := fun b hb => (h.lv.foot hb).2
  have hsz3 : w1.heap.size < w3.drew.heap.size := Nat.lt_of_lt_of_le hz2 hd3.drew.size
  have HRA : Hid (RA w (w6.setCell ⟨gA, 0, none⟩ (.slice a6 m6 d6)) B q K L s 0 0 gA vs gA cA (vs.set 0 (.slice a6 m6 d6)) (.slice (some ⟨w1.heap.size, 0, none⟩) 1 1)) := by
    refine ⟨by rw [List.length_set]; exact hL6, by rw [List.length_set]; exact h.h1, by rw [List.length_set]; exact h.top, ?_, fun g e hb => ?_, (ChS.of hbx).trans hch6 (fun b _ e => e), fun b hb => ?_⟩
    · rw [nw_zero, List.length_append, List.length_singleton, Nat.add_sub_cancel, hd0']
      refine own_chs (own_next hO2 hd3.drew (Nat.le_refl _)) (fun g e hb => ?_) hch6
      have eg : w1.heap.size = g := Option.some.inj e
      have := hfl _ hb
      omega
    · have eg : w1.heap.size = g := Option.some.inj e
      rcases hft6 _ hb with hb | hb
      · have := hfl _ hb
        omega
      · omega
    · rcases hft6 _ hb with hb | hb
      · exact .inl hb
      · exact .inr (Nat.le_trans hbx.size hb)
  have hle1 : ((vs.set 0 (Value.slice a6 m6 d6)).length : Int) = (vs.length : Int) := by rw [List.length_set]
  clear h6 h6' r6 hrn hL6 hch6 hft6 hO2 h2 h3 ho3 hr3 hB3 hbx hfl hsz3 hg1 ho0 hb2 hb1 hz2 hv0
  go_region
  have HH0 : Hid (Rf w B q K L gA cA vs) := HH
  have HDd : Hid (d0 = nd (clk K) (L ++ [s]) 0 ((L.length + 1) / 2 ^ 0 - 1)) := by show d0 = _; rw [Nat.pow_zero, Nat.div_one, Nat.add_sub_cancel, hd0']
  have HHT := hide hT
  have ht16 : t ≤ 16 := by rw [← hT]; exact tr_small (by omega) (by omega)
  clear hap hq2 hq3 hc2 hc3 cx6 fx6 cq6 hd3 hw2 hw3 c0 c1 hc hpos hne hd0 hd0' HLf h hT hle1
  generalize w6.setCell ⟨gA, 0, none⟩ (.slice a6 m6 d6) = w7 at *
  generalize w1.heap.size = z1 at *
  obtain ⟨vs7, hvs7⟩ : ∃ vs7, vs.set 0 (.slice a6 m6 d6) = vs7 := ⟨_, rfl⟩
  have H17 : Hid (vs7.length ≤ 17) := by show _ ≤ _; rw [← hvs7, List.length_set]; exact HH.out.h2
  rw [hvs7] at HRA
  clear hvs7
  go_wp2
  go_loopg [6, 7, 8] t (fun g x v i wr => ∃ (j : Nat) (d : ByteArray) (gB cB : Nat) (ws : List Value), j ≤ t ∧ g = t - j ∧ x = .string d ∧ Hid (d = nd (clk K) (L ++ [s]) j ((L.length + 1) / 2 ^ j - 1)) ∧ i = .int .i64 (j : Int) ∧ ws.length ≤ 17 ∧ Hid (RA w wr B q K L s j j gA vs gB cB ws v))
  case atStart =>
    go_light
    exact ⟨0, d0, gA, cA, vs7, Nat.zero_le _, rfl, rfl, HDd, rfl, H17.out, HRA⟩
  case round =>
    clear HRA HDd H17
    obtain ⟨j, d, gB, cB, ws, hj, rfl, rfl, HDj, rfl, hw17, HA⟩ := hrel
    have hjj := HA.out.hh
    obtain ⟨x0, x1, x2⟩ := HA.out.lv.cells
    have hoj := HA.out.lv.fam.own j hjj
    rw [lvj_at _ _ _ _ hjj, if_pos (Nat.le_refl _)] at hoj
    obtain ⟨aj, mj, cj, ej⟩ := Mm.own_slice hoj
    have hcj := (HA.out.lv.at hjj).1
    rw [ej] at hoj hcj
    have hmj := Mm.ownS_len hoj
    rw [rowN_len] at hmj
    have hz0 : (0 : Int) ≤ (j : Int) := Int.natCast_nonneg _
    have hz9 : (j : Int) ≤ 16 := by omega
    have hzj : (j : Int) < (ws.length : Int) := by omega
    by_cases hjt : j < t
    · obtain ⟨q', hq'⟩ := tr_div (j := j + 1) HHT.out (by omega)
      obtain ⟨p, rfl⟩ : ∃ p, q' = p + 1 := ⟨q' - 1, by
        have : q' ≠ 0 := by rintro rfl; simp at hq'
        omega⟩
      have e2 : (L.length + 1) / 2 ^ j = 2 * (p + 1) := last_at (by rw [hq', Nat.pow_succ, Nat.mul_assoc])
      have e1 : (L.length + 1) / 2 ^ (j + 1) - 1 = p := by rw [last_at hq']; omega
      rw [e2] at hmj hoj
      subst hmj
      have hev : (2 * ((p : Int) + 1)) % 2 = 0 := by omega
      have hp9 : p ≤ 65536 := by
        have hp := Nat.two_pow_pos (j + 1)
        have : p + 1 ≤ 2 ^ (j + 1) * (p + 1) := Nat.le_mul_of_pos_left _ hp
        omega
      obtain ⟨gj, rfl⟩ := Mm.ownS_some hoj (by rw [rowN_len]; omega)
      have y0 := (own_cell hoj (j := 2 * p) (by rw [rowN_len]; omega)).1
      have y1 := (own_cell hoj (j := 2 * p + 1) (by rw [rowN_len]; omega)).1
      rw [rowN_at _ _ _ _ (by omega)] at y0 y1
      have hdj := HDj.out
      rw [e2, show 2 * (p + 1) - 1 = 2 * p + 1 by omega] at hdj
      rw [← hdj] at y1
      obtain ⟨lf, hlf⟩ : ∃ lf, nd (clk K) (L ++ [s]) j (2 * p) = lf := ⟨_, rfl⟩
      rw [hlf] at y0
      obtain ⟨d', hd'⟩ : ∃ d', dg (clk K) (nodeT lf d) = d' := ⟨_, rfl⟩
      have zl : lf.size = clk K := by rw [← hlf]; exact nd_size hkk _ _ _
      have zd : d.size = clk K := by rw [hdj]; exact nd_size hkk _ _ _
      have HD2 : Hid (d' = nd (clk K) (L ++ [s]) (j + 1) ((L.length + 1) / 2 ^ (j + 1) - 1)) := by
        show d' = _
        rw [e1, nd, hlf, ← hd', ← hdj]
      have hdp : nd (clk K) (L ++ [s]) (j + 1) p = d' := by rw [HD2.out, e1]
      obtain ⟨M, hM⟩ : ∃ M, 2 * (p + 1) = M := ⟨_, rfl⟩
      obtain ⟨P2, hP2⟩ : ∃ P2, 2 * p = P2 := ⟨_, rfl⟩
      obtain ⟨P1, hP1⟩ : ∃ P1, 2 * p + 1 = P1 := ⟨_, rfl⟩
      have hm2 : IntKind.i64.wrap ((M : Int) - 2) = (P2 : Int) := by rw [IntKind.wrap_i64]; omega
      have hm1 : IntKind.i64.wrap ((M : Int) - 1) = (P1 : Int) := by rw [IntKind.wrap_i64]; omega
      have hMe : (M : Int) % 2 = 0 := by omega
      have hM9 : (M : Int) ≤ 140000 := by omega
      have hl2 : (P2 : Int) < (M : Int) := by omega
      have hl1 : (P1 : Int) < (M : Int) := by omega
      have hg2 : (0 : Int) ≤ (P2 : Int) := Int.natCast_nonneg _
      have hg1 : (0 : Int) ≤ (P1 : Int) := Int.natCast_nonneg _
      rw [hM] at hcj hoj
      rw [hP2] at y0
      rw [hP1] at y1
      have HNd : Hid (∀ W, Tr W → Calls Tryd.prog 73 #[.int .i64 K, .string lf, .string d] W fun e w' => e = .returned (.string d') ∧ Below W.heap.size W w') := fun W hT => refnode_any W hT K lf d (by omega) (by omega) d' hd'
      have HK : Hid (∀ W, Below wr.heap.size wr W → RA w W B q K L s j j gA vs gB cB ws u7 ∧ Tr W ∧ W.cell? ⟨q, 0, none⟩ = some (.int .i64 K) ∧ W.cell? ⟨gj, P2, none⟩ = some (.string lf) ∧ W.cell? ⟨gj, P1, none⟩ = some (.string d)) := fun W hW => by
        have hA := HA.out.next hW
        have hl : gj < wr.heap.size := World.block_lt_of_cell? _ _ y0
        exact ⟨hA, HTr.out W hA.ch, hA.lv.cells.1, (hW.cell (p := ⟨gj, P2, none⟩) hl).trans y0, (hW.cell (p := ⟨gj, P1, none⟩) hl).trans y1⟩
      clear zl zd hd' hlf hdj hoj HDj hP2 hP1 y0 y1
      go_upto_region 12 with (fail)
      refine wp_region_planV (by kernel_rfl) [62, 63, 64, 65, 66, 67, 68, 69, 70, 71, 72, 73, 74, 75, 76, 77, 78, 6] [.pointer (some ⟨q, 0, none⟩), .pointer (some ⟨q, 0, none⟩), .pointer (some ⟨q, 0, none⟩), .int .i64 K, .slice (some ⟨gj, 0, none⟩) M cj, .slice (some ⟨gj, 0, none⟩) M cj, .int .i64 (M : Int), .int .i64 (P2 : Int), .pointer (some ⟨gj, P2, none⟩), .string lf, .slice (some ⟨gj, 0, none⟩) M cj, .slice (some ⟨gj, 0, none⟩) M cj, .int .i64 (M : Int), .int .i64 (P1 : Int), .pointer (some ⟨gj, P1, none⟩), .string d, .string d', .string d'] (by kernel_rfl) rfl ?step ?fin
      case step =>
        refine ⟨?_, ?_, ?_, ?_, ?_, ?_, ?_, ?_, ?_, ?_, ?_, ?_, ?_, ?_, ?_, ?_, ?_, ?_, trivial⟩
        · intro Ac Wc Kc hB hsm dep hK
          have t0 : Ac.tmps.getD 0 undef = .pointer (some ⟨q, 0, none⟩) := hsm 0 rfl
          show Oper.wp _ _ Ac Wc Kc _
          go_simp
          exact hK _ _ rfl (Below.refl _ _)
        · intro Ac Wc Kc hB hsm dep hK
          have t62 : Ac.tmps.getD 62 undef = .pointer (some ⟨q, 0, none⟩) := dep 0 rfl
          show Oper.wp _ _ Ac Wc Kc _
          go_simp
          exact hK _ _ rfl (Below.refl _ _)
        · intro Ac Wc Kc hB hsm dep hK
          have t63 : Ac.tmps.getD 63 undef = .pointer (some ⟨q, 0, none⟩) := dep 1 rfl
          show Oper.wp _ _ Ac Wc Kc _
          go_simp
          exact hK _ _ rfl (Below.refl _ _)
        · intro Ac Wc Kc hB hsm dep hK
          have t64 : Ac.tmps.getD 64 undef = .pointer (some ⟨q, 0, none⟩) := dep 2 rfl
          show Oper.wp _ _ Ac Wc Kc _
          have c0 := (HK.out Wc hB).2.2.1
          go_simp
          exact hK _ _ rfl (Below.refl _ _)
        · intro Ac Wc Kc hB hsm dep hK
          have t9 : Ac.tmps.getD 9 undef = .slice (some ⟨gj, 0, none⟩) M cj := hsm 9 rfl
          show Oper.wp _ _ Ac Wc Kc _
          go_simp
          exact hK _ _ rfl (Below.refl _ _)
        · intro Ac Wc Kc hB hsm dep hK
          have t9 : Ac.tmps.getD 9 undef = .slice (some ⟨gj, 0, none⟩) M cj := hsm 9 rfl
          show Oper.wp _ _ Ac Wc Kc _
          go_simp
          exact hK _ _ rfl (Below.refl _ _)
        · intro Ac Wc Kc hB hsm dep hK
          have t67 : Ac.tmps.getD 67 undef = .slice (some ⟨gj, 0, none⟩) M cj := dep 5 rfl
          show Oper.wp _ _ Ac Wc Kc _
          go_simp
          exact hK _ _ rfl (Below.refl _ _)
        · intro Ac Wc Kc hB hsm dep hK
          have t68 : Ac.tmps.getD 68 undef = .int .i64 (M : Int) := dep 6 rfl
          show Oper.wp _ _ Ac Wc Kc _
          have z0 := hm2
          go_simp
          exact hK _ _ rfl (Below.refl _ _)
        · intro Ac Wc Kc hB hsm dep hK
          have t66 : Ac.tmps.getD 66 undef = .slice (some ⟨gj, 0, none⟩) M cj := dep 4 rfl
          have t69 : Ac.tmps.getD 69 undef = .int .i64 (P2 : Int) := dep 7 rfl
          show Oper.wp _ _ Ac Wc Kc _
          go_simp
          exact hK _ _ rfl (Below.refl _ _)
        · intro Ac Wc Kc hB hsm dep hK
          have t70 : Ac.tmps.getD 70 undef = .pointer (some ⟨gj, P2, none⟩) := dep 8 rfl
          show Oper.wp _ _ Ac Wc Kc _
          have c0 := (HK.out Wc hB).2.2.2.1
          go_simp
          exact hK _ _ rfl (Below.refl _ _)
        · intro Ac Wc Kc hB hsm dep hK
          have t9 : Ac.tmps.getD 9 undef = .slice (some ⟨gj, 0, none⟩) M cj := hsm 9 rfl
          show Oper.wp _ _ Ac Wc Kc _
          go_simp
          exact hK _ _ rfl (Below.refl _ _)
        · intro Ac Wc Kc hB hsm dep hK
          have t9 : Ac.tmps.getD 9 undef = .slice (some ⟨gj, 0, none⟩) M cj := hsm 9 rfl
          show Oper.wp _ _ Ac Wc Kc _
          go_simp
          exact hK _ _ rfl (Below.refl _ _)
        · intro Ac Wc Kc hB hsm dep hK
          have t73 : Ac.tmps.getD 73 undef = .slice (some ⟨gj, 0, none⟩) M cj := dep 11 rfl
          show Oper.wp _ _ Ac Wc Kc _
          go_simp
          exact hK _ _ rfl (Below.refl _ _)
        · intro Ac Wc Kc hB hsm dep hK
          have t74 : Ac.tmps.getD 74 undef = .int .i64 (M : Int) := dep 12 rfl
          show Oper.wp _ _ Ac Wc Kc _
          have z0 := hm1
          go_simp
          exact hK _ _ rfl (Below.refl _ _)
        · intro Ac Wc Kc hB hsm dep hK
          have t72 : Ac.tmps.getD 72 undef = .slice (some ⟨gj, 0, none⟩) M cj := dep 10 rfl
          have t75 : Ac.tmps.getD 75 undef = .int .i64 (P1 : Int) := dep 13 rfl
          show Oper.wp _ _ Ac Wc Kc _
          go_simp
          exact hK _ _ rfl (Below.refl _ _)
        · intro Ac Wc Kc hB hsm dep hK
          have t76 : Ac.tmps.getD 76 undef = .pointer (some ⟨gj, P1, none⟩) := dep 14 rfl
          show Oper.wp _ _ Ac Wc Kc _
          have c0 := (HK.out Wc hB).2.2.2.2
          go_simp
          exact hK _ _ rfl (Below.refl _ _)
        · intro Ac Wc Kc hB hsm dep hK
          have t65 : Ac.tmps.getD 65 undef = .int .i64 K := dep 3 rfl
          have t71 : Ac.tmps.getD 71 undef = .string lf := dep 9 rfl
          have t77 : Ac.tmps.getD 77 undef = .string d := dep 15 rfl
          show Oper.wp _ _ Ac Wc Kc _
          go_simp
          refine (HNd.out Wc (HK.out Wc hB).2.1).mono ?_
          rintro e w' ⟨rfl, hb⟩
          exact hK _ _ rfl hb
        · intro Ac Wc Kc hB hsm dep hK
          have t78 : Ac.tmps.getD 78 undef = .string d' := dep 16 rfl
          show Oper.wp _ _ Ac Wc Kc _
          go_simp
          exact hK _ _ rfl (Below.refl _ _)
      case fin =>
        intro w5 hb5
        obtain ⟨hA5, _, _, _, _⟩ := HK.out w5 hb5
        obtain ⟨z0, z1, z2⟩ := hA5.lv.cells
        have HA5 := hide hA5
        clear hb5 HK HNd hcj x0 x1 x2 hA5
        simp only [puts]
        go_simp
        by_cases hlv : j + 1 = ws.length
        · have hlv' : (j : Int) + 1 = (ws.length : Int) := by omega
          have hlt5 : j + 1 < (ws ++ [dv]).length := by rw [List.length_append, List.length_singleton]; omega
          have hw16 : ws.length ≤ 16 := by omega
          go_upto_region 15 with (at_builtin; refine Mm.wpList_append_V _ rfl _ _ rfl B _ ws rfl (World.ownsRow.alloc HA5.out.lv.all _) _ [.slice none 0 0] rfl (Mm.rdc_vals w5 #[.slice none 0 0] 22) (by intro u hu; simp at hu; subst hu; rfl) (by simp; omega) (by have := (HA5.out.lv.foot (b := q) (.inl rfl)); simp; omega) ?_; intro vN wN hoN hgN hfN; obtain ⟨gN, cN, eN⟩ : ∃ gN cN, vN = .slice (some ⟨gN, 0, none⟩) (ws.length + 1) cN := (by rcases hoN.2 with ⟨_, e0⟩ | ⟨g, c, cur, e, _⟩; (simp at e0); exact ⟨g, c, by rw [e]; simp⟩); subst eN; obtain ⟨hL5, cq5, fq5⟩ := (HA5.out.next (bal (Below.refl _ _) (.cells #[.slice none 0 0] 22))).lev (by simpa using hoN) hgN (by rcases hfN with e | e; (exact .inl (Option.some.inj e)); exact .inr (e gN rfl)))
          obtain ⟨w8x, hw8x⟩ : ∃ w8x, wN.setCell ⟨q, 1, none⟩ (.slice (some ⟨gN, 0, none⟩) (ws.length + 1) cN) = w8x := ⟨_, rfl⟩
          rw [hw8x] at hL5
          rw [hw8x]
          have HL5 := hide hL5
          clear hL5 hw8x hoN hgN hfN cq5 fq5 z0 z1 z2 HA5 hlv hlv'
          obtain ⟨wD, hwD⟩ : ∃ wD, w8x.alloc (.cells #[.string d'] 9) = wD := ⟨_, rfl⟩
          have hdD := bal (Below.refl w8x.heap.size w8x) (.cells #[.string d'] 9)
          rw [hwD] at hdD
          have hrD : Mm.RdC wD.drew (.slice (some ⟨w8x.heap.size, 0, none⟩) 1 1) 1 [.string d'] := by rw [← hwD]; exact Mm.rdc_vals w8x #[.string d'] 9
          have hRD := (HL5.out).next hdD.drew
          have hR4 := (HL5.out).next hdD
          have hBD : B ≤ wD.drew.heap.size := by
            have := hRD.lv.foot (b := q) (.inl rfl)
            omega
          have hoD := hRD.lv.fam.own (j + 1) hlt5
          rw [lvj_at _ _ _ _ hlt5, if_neg (by omega)] at hoD
          obtain ⟨aD, mD, cD, eD⟩ := Mm.own_slice hoD
          rw [eD] at hoD
          obtain ⟨v6, w6, hrn, h6, r6⟩ := run_app_T wD.drew 22 B _ _ hoD ⟨w8x.heap.size, 0, none⟩ 1 d' hrD (by rw [rowN_len]; have := Nat.div_le_self L.length (2 ^ (j + 1)); omega) hBD
          obtain ⟨hR6, cx6, fx6, cq6⟩ := hRD.put hlt5 hq' hdp eD (by rw [lvj_at _ _ _ _ hlt5, if_neg (by omega)]; exact h6) r6
          obtain ⟨a6, m6, d6, rfl⟩ := Mm.own_slice h6
          have hap := appR_of hrn
          have hq2 := (HL5.out).lv.cells.2.1
          have hc2 := ((HL5.out).lv.at hlt5).1
          rw [eD] at hc2
          have hq4 := hR4.lv.cells.2.1
          have hc4 := (hR4.lv.at hlt5).1
          rw [eD] at hc4
          have HR6 := hide hR6
          have hzl : ((j : Int) + 1) < (((ws ++ [dv])).length : Int) := by omega
          have HW17 : Hid (((ws ++ [dv])).length ≤ 17) := (by show _ ≤ _; rw [List.length_append, List.length_singleton]; omega)
          have HN9 : Hid ((nw (clk K) (L ++ [s]) j).length ≤ 17) := by show _ ≤ _; rw [nw_len]; omega
          clear h6 r6 hrn hoD hrD hRD hR4 hBD hR6 hdD
          go_region
          obtain ⟨w8, hw8⟩ : ∃ w8, w6.setCell ⟨gN, j + 1, none⟩ (.slice a6 m6 d6) = w8 := ⟨_, rfl⟩
          rw [hw8] at HR6
          rw [hw8]
          have HY : Hid (d'.size ≤ 9223372036854775807) := by show d'.size ≤ _; rw [HD2.out, nd_size hkk]; omega
          clear hw8 hap hq2 hc2 hq4 hc4 cx6 fx6 cq6 hwD
          go_wp2_with (at_builtin; refine wpList_append_F _ rfl _ _ rfl w.heap.size _ (nw (clk K) (L ++ [s]) j) rfl (own_al HR6.out.out _) _ [d'] rfl (by exact Mm.rdc_vals w8 #[.string d'] 9) ?c1 ?c2 ?_)
          case c1 => have := HN9.out; simp; omega
          case c2 => have := HR6.out.ch.size; simp; omega
          intro v9 w9 ho9 hg9 hf9
          have HR9 : Hid (RA w w9 B q K L s (j + 1) (j + 1) gA vs gN cN (((ws ++ [dv])).set (j + 1) (.slice a6 m6 d6)) v9) := by
            refine (HR6.out.next (bal (Below.refl _ _) _)).grow ?_ hg9 (by simpa using hf9)
            rw [nw_succ, List.length_append, List.length_singleton, ← HD2.out]
            exact ho9
          clear ho9 hg9 hf9 HR6
          go_wp2
          go_roundg (t - (j + 1))
          case rel =>
            go_light
            exact ⟨j + 1, d', gN, cN, _, by omega, rfl, rfl, HD2, by go_num, by rw [List.length_set]; exact HW17.out, HR9⟩
          case measure => go_light; omega
        · have hlv' : ¬ ((j : Int) + 1 = (ws.length : Int)) := by omega
          have hlt5 : j + 1 < ws.length := by omega
          go_upto_region 15 with (fail)
          obtain ⟨wD, hwD⟩ : ∃ wD, w5.alloc (.cells #[.string d'] 9) = wD := ⟨_, rfl⟩
          have hdD := bal (Below.refl w5.heap.size w5) (.cells #[.string d'] 9)
          rw [hwD] at hdD
          have hrD : Mm.RdC wD.drew (.slice (some ⟨w5.heap.size, 0, none⟩) 1 1) 1 [.string d'] := by rw [← hwD]; exact Mm.rdc_vals w5 #[.string d'] 9
          have hRD := (HA5.out).next hdD.drew
          have hR4 := (HA5.out).next hdD
          have hBD : B ≤ wD.drew.heap.size := by
            have := hRD.lv.foot (b := q) (.inl rfl)
            omega
          have hoD := hRD.lv.fam.own (j + 1) hlt5
          rw [lvj_at _ _ _ _ hlt5, if_neg (by omega)] at hoD
          obtain ⟨aD, mD, cD, eD⟩ := Mm.own_slice hoD
          rw [eD] at hoD
          obtain ⟨v6, w6, hrn, h6, r6⟩ := run_app_T wD.drew 22 B _ _ hoD ⟨w5.heap.size, 0, none⟩ 1 d' hrD (by rw [rowN_len]; have := Nat.div_le_self L.length (2 ^ (j + 1)); omega) hBD
          obtain ⟨hR6, cx6, fx6, cq6⟩ := hRD.put hlt5 hq' hdp eD (by rw [lvj_at _ _ _ _ hlt5, if_neg (by omega)]; exact h6) r6
          obtain ⟨a6, m6, d6, rfl⟩ := Mm.own_slice h6
          have hap := appR_of hrn
          have hq2 := (HA5.out).lv.cells.2.1
          have hc2 := ((HA5.out).lv.at hlt5).1
          rw [eD] at hc2
          have hq4 := hR4.lv.cells.2.1
          have hc4 := (hR4.lv.at hlt5).1
          rw [eD] at hc4
          have HR6 := hide hR6
          have hzl : ((j : Int) + 1) < ((ws).length : Int) := by omega
          have HW17 : Hid ((ws).length ≤ 17) := hw17
          have HN9 : Hid ((nw (clk K) (L ++ [s]) j).length ≤ 17) := by show _ ≤ _; rw [nw_len]; omega
          clear h6 r6 hrn hoD hrD hRD hR4 hBD hR6 hdD
          go_region
          obtain ⟨w8, hw8⟩ : ∃ w8, w6.setCell ⟨gB, j + 1, none⟩ (.slice a6 m6 d6) = w8 := ⟨_, rfl⟩
          rw [hw8] at HR6
          rw [hw8]
          have HY : Hid (d'.size ≤ 9223372036854775807) := by show d'.size ≤ _; rw [HD2.out, nd_size hkk]; omega
          clear hw8 hap hq2 hc2 hq4 hc4 cx6 fx6 cq6 hwD
          go_wp2_with (at_builtin; refine wpList_append_F _ rfl _ _ rfl w.heap.size _ (nw (clk K) (L ++ [s]) j) rfl (own_al HR6.out.out _) _ [d'] rfl (by exact Mm.rdc_vals w8 #[.string d'] 9) ?c1 ?c2 ?_)
          case c1 => have := HN9.out; simp; omega
          case c2 => have := HR6.out.ch.size; simp; omega
          intro v9 w9 ho9 hg9 hf9
          have HR9 : Hid (RA w w9 B q K L s (j + 1) (j + 1) gA vs gB cB ((ws).set (j + 1) (.slice a6 m6 d6)) v9) := by
            refine (HR6.out.next (bal (Below.refl _ _) _)).grow ?_ hg9 (by simpa using hf9)
            rw [nw_succ, List.length_append, List.length_singleton, ← HD2.out]
            exact ho9
          clear ho9 hg9 hf9 HR6
          go_wp2
          go_roundg (t - (j + 1))
          case rel =>
            go_light
            exact ⟨j + 1, d', gB, cB, _, by omega, rfl, rfl, HD2, by go_num, by rw [List.length_set]; exact HW17.out, HR9⟩
          case measure => go_light; omega
    · obtain rfl : j = t := by omega
      have hod := (tr_eq 64 j (L.length + 1) (by omega)).1 HHT.out
      have hodd : (mj : Int) % 2 = 1 := by rw [← hmj]; have := hod.2; omega
      have hne2 : ¬ ((mj : Int) % 2 = 0) := by omega
      have hm9 : (mj : Int) ≤ 140000 := by rw [← hmj]; have := Nat.div_le_self (L.length + 1) (2 ^ j); omega
      have hRf : Rf wr B q K (L ++ [s]) gB cB ws := by
        have hl := HA.out.lv
        rw [lvj_end _ _ _ HHT.out (by omega)] at hl
        refine ⟨hl, ?_, by omega, hw17, HH.out.k1, HH.out.k2, by simp; omega⟩
        rw [List.length_append, List.length_singleton]
        have h1 := HA.out.top
        apply Nat.lt_of_le_of_ne (by omega)
        intro e
        have : 2 ^ (j + 1) ∣ L.length + 1 := by rw [e]; exact Nat.pow_dvd_pow 2 (by omega)
        have h2 := Nat.mod_eq_zero_of_dvd this
        exact (tr_lt 64 (j + 1) (L.length + 1) (by omega)).1 (by rw [HHT.out]; omega) h2
      have HRf := hide hRf
      clear hod hodd hmj hRf hoj
      go_wp2
      go_ret2
      exact ⟨_, gB, cB, ws, rfl, HRf.out, HA.out.out, HA.out.ch, HA.out.ft⟩
end Go.Proofs.YtdkcliblbaldhaaDoor
