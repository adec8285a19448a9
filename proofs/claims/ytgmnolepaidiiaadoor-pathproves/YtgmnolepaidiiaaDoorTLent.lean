/-
  Walks of path's laws: lent. Own work.
-/
import Derived.Test.YtgmnolepaidiiaaDoorTLawD
namespace Go.Proofs.YtgmnolepaidiiaaDoor
open Go.RowKit
open Cv (cU RdC)
attribute [local go_sem ↓] Go.wp_at_zero Go.wp_at_succ
abbrev markB : ByteArray := ⟨#[109, 97, 114, 107]⟩
theorem rdu_rdc {w : World} {ao : Option Addr} {b off len cap : Nat} {l : List Nat} (h : RdU w ao b off len l) (hn : ao = none → cap = 0) : RdC w (.slice ao len cap) len (cU l) := by
  refine ⟨ao, cap, rfl, fun e => ⟨?_, hn e⟩, fun ad ha j c hj => ?_⟩
  · apply Classical.byContradiction
    intro h0
    have := h.ptr (by omega)
    rw [e] at this
    cases this
  · have hj' : j < len := by have := (List.getElem?_eq_some_iff.1 hj).1; rw [List.length_map, h.hl] at this; exact this
    have := h.ptr (by omega)
    rw [ha] at this
    cases this
    rw [Addr.add_mid]
    exact h.rng j c hj
theorem ownU_form {w : World} {B : Nat} {v : Value} {l : List Nat} (h : Cv.Own w B v l) (h0 : 0 < l.length) : ∃ g cap, v = .slice (some ⟨g, 0, none⟩) l.length cap ∧ B ≤ g ∧ l.length ≤ cap ∧ cap ≤ maxLen ∧ g < w.heap.size := by
  obtain ⟨h1, h2⟩ := h
  rcases h2 with ⟨_, h2⟩ | ⟨g, cap, cur, hv, hg, hh, hc, hm, _⟩
  · omega
  · exact ⟨g, cap, hv, hg, hc, hm, (Array.getElem?_eq_some_iff.1 hh).1⟩
set_option maxRecDepth 100000 in
set_option maxHeartbeats 1000000 in
theorem lent_any (w : World) (kd k : Int) (old size : Nat) (sa : Option Addr) (sb so sc : Nat) (S : List Nat) (rs : RdU w sa sb so S.length S) (hns : sa = none → sc = 0) (hS : S.length ≤ 17592186043904) (da : Option Addr) (db dO dc : Nat) (D : List ByteArray) (rd : RdS w da db dO D.length D) (hnd : da = none → dc = 0) (hD : D.length ≤ 8796093021952) :
    Calls Tryd.prog 8 #[.agg #[.int .i64 kd, .int .i64 k, .int .u64 (old : Int), .int .u64 (size : Int), .slice sa S.length sc, .slice da D.length dc]] w fun e w' => ∃ gs cs gd cd, e = .returned (.agg #[.int .i64 kd, .int .i64 k, .int .u64 (old : Int), .int .u64 (size : Int), .slice (some ⟨gs, 0, none⟩) S.length cs, .slice (some ⟨gd, 0, none⟩) D.length cd]) ∧ Cv.Own w' w.heap.size (.slice (some ⟨gs, 0, none⟩) (S.length + 1) cs) (S ++ [7000000]) ∧ OwnS w' w.heap.size (.slice (some ⟨gd, 0, none⟩) (D.length + 1) cd) (D ++ [markB]) ∧ S.length + 1 ≤ cs ∧ D.length + 1 ≤ cd ∧ cd ≤ 9223372036854775807 ∧ Below w.heap.size w w' := by
  obtain ⟨W0, hW0⟩ : ∃ W0, (w.alloc (.cells #[.int .i64 kd, .int .i64 k, .int .u64 (old : Int), .int .u64 (size : Int), .slice sa S.length sc, .slice da D.length dc] 26)).alloc (.cells #[.int .i64 0, .int .i64 0, .int .u64 0, .int .u64 0, .slice none 0 0, .slice none 0 0] 26) = W0 := ⟨_, rfl⟩
  have hb : Below w.heap.size w W0 := by rw [← hW0]; exact bal (bal (Below.refl _ _) _) _
  have h6 : Six W0 w.heap.size (.int .i64 kd) (.int .i64 k) (.int .u64 (old : Int)) (.int .u64 (size : Int)) (.slice sa S.length sc) (.slice da D.length dc) := by rw [← hW0]; exact (six_new w _ _ _ _ _ _).next (bal (Below.refl _ _) _)
  have h7 : Six W0 (w.heap.size + 1) (.int .i64 0) (.int .i64 0) (.int .u64 0) (.int .u64 0) (.slice none 0 0) (.slice none 0 0) := by
    rw [← hW0]
    have := six_new (w.alloc (.cells #[.int .i64 kd, .int .i64 k, .int .u64 (old : Int), .int .u64 (size : Int), .slice sa S.length sc, .slice da D.length dc] 26)) (.int .i64 0) (.int .i64 0) (.int .u64 0) (.int .u64 0) (.slice none 0 0) (.slice none 0 0)
    rwa [World.size_alloc] at this
  have hsz : W0.heap.size = w.heap.size + 2 := by rw [← hW0]; simp
  have HS : Hid (∀ W, Below W0.heap.size W0 W → Six W w.heap.size (.int .i64 kd) (.int .i64 k) (.int .u64 (old : Int)) (.int .u64 (size : Int)) (.slice sa S.length sc) (.slice da D.length dc) ∧ Six W (w.heap.size + 1) (.int .i64 0) (.int .i64 0) (.int .u64 0) (.int .u64 0) (.slice none 0 0) (.slice none 0 0) ∧ RdC W (.slice sa S.length sc) S.length (cU S) ∧ RdS W da db dO D.length D ∧ Below w.heap.size w W) := fun W hW =>
    ⟨h6.next hW, h7.next hW, rdu_rdc (rs.next (bnext hb hW)) hns, rd.next (bnext hb hW) (Nat.le_refl _), bnext hb hW⟩
  obtain ⟨u0, hu1, hu2, hu3, hu4⟩ := info_parts Cv.Tryd.infoU
  have HU : Hid (Tryd.prog.info? 22 = some u0 ∧ u0.zero = some (.int .u64 0) ∧ u0.size = 1 ∧ u0.bytes = 8) := ⟨hu1, hu2, hu3, hu4⟩
  have HX : Hid (S.length ≤ 17592186043904 ∧ D.length ≤ 8796093021952 ∧ (da = none → dc = 0) ∧ W0.heap.size = w.heap.size + 2) := ⟨hS, hD, hnd, hsz⟩
  have hS63 : (S.length : Int) ≤ 17592186043904 := by omega
  have hD63 : (D.length : Int) ≤ 8796093021952 := by omega
  obtain ⟨e0, e1, e2, e3, e4, e5⟩ := h6.cells
  have HB0 := Below.refl W0.heap.size W0
  clear rs hns hS rd hnd hD h6 h7 hsz hu1 hu2 hu3 hu4 hb
  go_enter Tryd.func8, Tryd.ntmps8
  go_upto_region 1 with (fail)
  try rw [hW0]
  clear hW0
  go_wp2_with (at_builtin; refine Cv.wpList_append_ap _ rfl _ _ _ rfl W0.heap.size 22 u0 (.int .u64 0) 1 8 Tryd.underlying23 HU.out.1 HU.out.2.1 HU.out.2.2.1 HU.out.2.2.2 rfl (by decide) _ 0 [] rfl (World.ownsRow_nil _ _ _ _) _ S.length (cU S) rfl (HS.out _ HB0).2.2.1 (by simp [cU]) (Cv.cU_one S) ?c1 ?c2 (Nat.le_refl _) ?_)
  case c1 => have := HX.out.1; unfold maxLen; omega
  case c2 => have := HX.out.1; omega
  intro v1 w1 a1
  have hb1 : Below W0.heap.size W0 w1 := (Cv.ownB_step0 (Below.refl _ _) (Nat.le_refl _) (World.ownsRow_nil W0 W0.heap.size 22 1) a1.grown).1
  have HO1 : Hid (w1.ownsRow W0.heap.size 22 1 v1 S.length (cU S)) := a1.own
  clear a1 e0 e1 e2 e3 e4 e5
  have HB1 := hide hb1
  obtain ⟨e0, e1, e2, e3, e4, e5⟩ := (HS.out w1 hb1).1.cells
  go_wp2_with (at_builtin; refine Cv.wpList_append_ap _ rfl _ _ _ rfl W0.heap.size 22 u0 (.int .u64 0) 1 8 Tryd.underlying23 HU.out.1 HU.out.2.1 HU.out.2.2.1 HU.out.2.2.2 rfl (by decide) _ S.length (cU S) rfl (HO1.out.alloc _) _ 1 (cU [7000000]) rfl (Cv.rdc_num w1 7000000 22) rfl (Cv.cU_one [7000000]) ?c1 ?c2 ?c3 ?_)
  case c1 => have := HX.out.1; unfold maxLen; omega
  case c2 => have := HX.out.1; omega
  case c3 => have := HB1.out.size; simp; omega
  intro v2 w2 a2
  have hb2 : Below W0.heap.size W0 w2 := (Cv.ownB_step HB1.out HB1.out.size HO1.out a2.grown).1
  have o2 : Cv.Own w2 W0.heap.size v2 (S ++ [7000000]) := by
    have := a2.own
    rw [Cv.Own, List.length_append]
    simpa [cU] using this
  obtain ⟨gs, cs, rfl, hgs, hcs, _, hgl⟩ := ownU_form o2 (by simp)
  rw [show (S ++ [7000000] : List Nat).length = S.length + 1 by simp] at o2 hcs ⊢
  have HO2 := hide (And.intro o2 (And.intro hgs (And.intro hcs hgl)))
  clear a2 o2 hgs hcs hgl HO1 HB1 hb1 e0 e1 e2 e3 e4 e5
  obtain ⟨e0, e1, e2, e3, e4, e5⟩ := (HS.out w2 hb2).1.cells
  have HB2 := hide hb2
  have hb2sz := hb2.size
  go_wp2_with (at_builtin; refine wpList_append_S _ rfl _ _ rfl w2.heap.size _ [] rfl (owns_nil _ _) da db dO dc D rfl (HS.out _ HB2.out).2.2.2.1 HX.out.2.2.1 ?c1 (Nat.le_refl _) ?_)
  case c1 => have := HX.out.2.1; simp; omega
  intro v3 w3 o3 hb3
  have HO3 := hide o3
  have HB3 := hide hb3
  clear o3 hb3
  go_wp2_with (at_builtin; refine wpList_append_S _ rfl _ _ rfl w2.heap.size _ D rfl (own_al HO3.out _) (some ⟨w3.heap.size, 0, none⟩) w3.heap.size 0 1 [markB] rfl (rds_one w3 markB (by decide)) (fun h => by cases h) ?c1 ?c2 ?_)
  case c1 => have := HX.out.2.1; simp; omega
  case c2 => have := HB3.out.size; simp; omega
  intro v4 w4 o4 hb4
  have hb4' : Below w2.heap.size w2 w4 := (bal HB3.out _).trans hb4
  obtain ⟨gd, cd, rfl, hgd, hcd, hcm⟩ := own_form o4 (by simp)
  rw [show (D ++ [markB] : List ByteArray).length = D.length + 1 by simp] at o4 hcd ⊢
  have o2' : Cv.Own w4 W0.heap.size (.slice (some ⟨gs, 0, none⟩) (S.length + 1) cs) (S ++ [7000000]) := Cv.ownB_next HO2.out.1 hb4'
  have HF : Hid (Cv.Own w4 W0.heap.size (.slice (some ⟨gs, 0, none⟩) (S.length + 1) cs) (S ++ [7000000]) ∧ OwnS w4 w2.heap.size (.slice (some ⟨gd, 0, none⟩) (D.length + 1) cd) (D ++ [markB]) ∧ W0.heap.size ≤ gs ∧ w2.heap.size ≤ gd ∧ S.length + 1 ≤ cs ∧ D.length + 1 ≤ cd ∧ cd ≤ maxLen ∧ Below W0.heap.size W0 w4) := ⟨o2', o4, HO2.out.2.1, hgd, HO2.out.2.2.1, hcd, hcm, bnext HB2.out hb4'⟩
  have hz1 : (S.length : Int) ≤ (cs : Int) := by have := HO2.out.2.2.1; omega
  have hz2 : (D.length : Int) ≤ (cd : Int) := by omega
  clear o2' o4 hgd hcd hcm hb4 hb4' HO2 HO3 HB3 HB2 hb2 e0 e1 e2 e3 e4 e5
  obtain ⟨h6, h7, _, _, hbw⟩ := HS.out w4 HF.out.2.2.2.2.2.2.2
  obtain ⟨e0, e1, e2, e3, e4, e5⟩ := h6.cells
  have f6 := h6.fz
  obtain ⟨k0, k1, k2, k3, k4, k5⟩ := h7.cells
  have f7 := h7.fz
  have HH := hide (And.intro h6 (And.intro h7 hbw))
  clear h6 h7 hbw
  go_wp2
  obtain ⟨W5, hW5⟩ : ∃ W5, (w4.setCell ⟨w.heap.size, 4, none⟩ (.slice (some ⟨gs, 0, none⟩) S.length cs)).setCell ⟨w.heap.size, 5, none⟩ (.slice (some ⟨gd, 0, none⟩) D.length cd) = W5 := ⟨_, rfl⟩
  have hc5 : ChT (fun b => b = w.heap.size ∨ b = w.heap.size + 1) w4 W5 := by
    rw [← hW5]
    exact ((ChT.refl _ w4).set w.heap.size 4 _ (.inl rfl)).set w.heap.size 5 _ (.inl rfl)
  have h75 : Six W5 (w.heap.size + 1) (.int .i64 0) (.int .i64 0) (.int .u64 0) (.int .u64 0) (.slice none 0 0) (.slice none 0 0) := by
    refine HH.out.2.1.same ?_
    rw [← hW5, Below.heap_setCell _ _ _ _ (by show w.heap.size + 1 ≠ w.heap.size; omega), Below.heap_setCell _ _ _ _ (by show w.heap.size + 1 ≠ w.heap.size; omega)]
  have h8 := h75.put (.int .i64 kd) (.int .i64 k) (.int .u64 (old : Int)) (.int .u64 (size : Int)) (.slice (some ⟨gs, 0, none⟩) S.length cs) (.slice (some ⟨gd, 0, none⟩) D.length cd)
  have hc8 : ChT (fun b => b = w.heap.size ∨ b = w.heap.size + 1) w4 (put6 W5 (w.heap.size + 1) (.int .i64 kd) (.int .i64 k) (.int .u64 (old : Int)) (.int .u64 (size : Int)) (.slice (some ⟨gs, 0, none⟩) S.length cs) (.slice (some ⟨gd, 0, none⟩) D.length cd)) :=
    (((((hc5.set (w.heap.size + 1) 0 _ (.inr rfl)).set (w.heap.size + 1) 1 _ (.inr rfl)).set (w.heap.size + 1) 2 _ (.inr rfl)).set (w.heap.size + 1) 3 _ (.inr rfl)).set (w.heap.size + 1) 4 _ (.inr rfl)).set (w.heap.size + 1) 5 _ (.inr rfl)
  rw [hW5]
  unfold put6 at h8 hc8
  generalize (((((W5.setCell ⟨w.heap.size + 1, 0, none⟩ (.int .i64 kd)).setCell ⟨w.heap.size + 1, 1, none⟩ (.int .i64 k)).setCell ⟨w.heap.size + 1, 2, none⟩ (.int .u64 (old : Int))).setCell ⟨w.heap.size + 1, 3, none⟩ (.int .u64 (size : Int))).setCell ⟨w.heap.size + 1, 4, none⟩ (.slice (some ⟨gs, 0, none⟩) S.length cs)).setCell ⟨w.heap.size + 1, 5, none⟩ (.slice (some ⟨gd, 0, none⟩) D.length cd) = WF at *
  obtain ⟨s0, s1, s2, s3, s4, s5⟩ := h8.cells
  refine bodyPost_ret (v := .agg #[.int .i64 kd, .int .i64 k, .int .u64 (old : Int), .int .u64 (size : Int), .slice (some ⟨gs, 0, none⟩) S.length cs, .slice (some ⟨gd, 0, none⟩) D.length cd]) (by simp [results, Tryd.results8, go_sem, s0, s1, s2, s3, s4, s5]) rfl ?_
  obtain ⟨x1, x2, x3, x4, x5, x6, x7, x8⟩ := HF.out
  have hz := HX.out.2.2.2
  have hz2 := x8.size
  have hw2 : W0.heap.size ≤ w2.heap.size := hb2sz
  refine ⟨gs, cs, gd, cd, rfl, ?_, ?_, x5, x6, by unfold maxLen at x7; omega, ?_⟩
  · exact (keep_row x1 fun g _ hg => hc8.block g (by omega)).mono (by omega)
  · exact (keep_row x2 fun g _ hg => hc8.block g (by omega)).mono (by omega)
  · exact HH.out.2.2.trans (hc8.below (by rintro b (rfl | rfl) <;> omega))
end Go.Proofs.YtgmnolepaidiiaaDoor
