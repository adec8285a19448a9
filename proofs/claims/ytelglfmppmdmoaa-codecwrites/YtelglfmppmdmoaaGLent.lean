/-
  Walks of codec's laws: lent. Own work.
-/
import Derived.Test.YtelglfmppmdmoaaGWalkB
namespace Go.Proofs.Ytelglfmppmdmoaa
open Go.RowKit
open Cv (cU RdC)
attribute [local go_sem ↓] Go.wp_at_zero Go.wp_at_succ
abbrev oneB : ByteArray := ⟨#[109, 97, 114, 107, 32, 111, 110, 101]⟩
abbrev twoB : ByteArray := ⟨#[109, 97, 114, 107, 32, 116, 119, 111]⟩
theorem rds_two (w : World) (s t : ByteArray) (hs : s.size ≤ 9223372036854775807) (ht : t.size ≤ 9223372036854775807) : RdS (w.alloc (.cells #[.string s, .string t] 9)) (some ⟨w.heap.size, 0, none⟩) w.heap.size 0 2 [s, t] :=
  ⟨rfl, fun _ => rfl, range_new w [.string s, .string t] 9, fun x hx => by simp at hx; rcases hx with rfl | rfl <;> assumption⟩
theorem rdc_two (w : World) (x y : Nat) : RdC (w.alloc (.cells #[.int .u64 (x : Int), .int .u64 (y : Int)] 22)) (.slice (some ⟨w.heap.size, 0, none⟩) 2 2) 2 (cU [x, y]) :=
  rdu_rdc (l := [x, y]) ⟨rfl, fun _ => rfl, range_new w [.int .u64 (x : Int), .int .u64 (y : Int)] 22⟩ (fun h => by cases h)
set_option maxRecDepth 100000 in
set_option maxHeartbeats 1000000 in
theorem lent_any (w : World) (kd k : Int) (old size : Nat) (sa : Option Addr) (sb so sc : Nat) (S : List Nat) (rs : RdU w sa sb so S.length S) (hns : sa = none → sc = 0) (hS : S.length ≤ 17592186043904) (da : Option Addr) (db dO dc : Nat) (D : List ByteArray) (rd : RdS w da db dO D.length D) (hnd : da = none → dc = 0) (hD : D.length ≤ 8796093021952) :
    Calls Try.prog 15 #[pv6 kd k old size (.slice sa S.length sc) (.slice da D.length dc)] w fun e w' => ∃ gs cs gd cd, e = .returned (.agg #[.int .i64 kd, .int .i64 k, .int .u64 (old : Int), .int .u64 (size : Int), .slice (some ⟨gs, 0, none⟩) S.length cs, .slice (some ⟨gd, 0, none⟩) D.length cd]) ∧ Cv.Own w' w.heap.size (.slice (some ⟨gs, 0, none⟩) (S.length + 2) cs) (S ++ [7000000, 7000001]) ∧ OwnS w' w.heap.size (.slice (some ⟨gd, 0, none⟩) (D.length + 2) cd) (D ++ [oneB, twoB]) ∧ S.length + 2 ≤ cs ∧ D.length + 2 ≤ cd ∧ Below w.heap.size w w' := by
  obtain ⟨W0, hW0⟩ : ∃ W0, (w.alloc (.cells #[.int .i64 kd, .int .i64 k, .int .u64 (old : Int), .int .u64 (size : Int), .slice sa S.length sc, .slice da D.length dc] 26)).alloc (.cells #[.int .i64 0, .int .i64 0, .int .u64 0, .int .u64 0, .slice none 0 0, .slice none 0 0] 26) = W0 := ⟨_, rfl⟩
  have hb : Below w.heap.size w W0 := by rw [← hW0]; exact bal (bal (Below.refl _ _) _) _
  have h6 : Six W0 w.heap.size (.int .i64 kd) (.int .i64 k) (.int .u64 (old : Int)) (.int .u64 (size : Int)) (.slice sa S.length sc) (.slice da D.length dc) := by rw [← hW0]; exact (six_new w _ _ _ _ _ _).next (bal (Below.refl _ _) _)
  have h7 : Six W0 (w.heap.size + 1) (.int .i64 0) (.int .i64 0) (.int .u64 0) (.int .u64 0) (.slice none 0 0) (.slice none 0 0) := by
    rw [← hW0]
    have := six_new (w.alloc (.cells #[.int .i64 kd, .int .i64 k, .int .u64 (old : Int), .int .u64 (size : Int), .slice sa S.length sc, .slice da D.length dc] 26)) (.int .i64 0) (.int .i64 0) (.int .u64 0) (.int .u64 0) (.slice none 0 0) (.slice none 0 0)
    rwa [World.size_alloc] at this
  have hsz : W0.heap.size = w.heap.size + 2 := by rw [← hW0]; simp
  have HS : Hid (∀ W, Below W0.heap.size W0 W → Six W w.heap.size (.int .i64 kd) (.int .i64 k) (.int .u64 (old : Int)) (.int .u64 (size : Int)) (.slice sa S.length sc) (.slice da D.length dc) ∧ Six W (w.heap.size + 1) (.int .i64 0) (.int .i64 0) (.int .u64 0) (.int .u64 0) (.slice none 0 0) (.slice none 0 0) ∧ RdC W (.slice sa S.length sc) S.length (cU S) ∧ RdS W da db dO D.length D ∧ Below w.heap.size w W) := fun W hW =>
    ⟨h6.next hW, h7.next hW, rdu_rdc (rs.next (bnext hb hW)) hns, rd.next (bnext hb hW) (Nat.le_refl _), bnext hb hW⟩
  obtain ⟨u0, hu1, hu2, hu3, hu4⟩ := info_parts Cv.Try.infoU
  have HU : Hid (Try.prog.info? 22 = some u0 ∧ u0.zero = some (.int .u64 0) ∧ u0.size = 1 ∧ u0.bytes = 8) := ⟨hu1, hu2, hu3, hu4⟩
  have HX : Hid (S.length ≤ 17592186043904 ∧ D.length ≤ 8796093021952 ∧ (da = none → dc = 0) ∧ W0.heap.size = w.heap.size + 2) := ⟨hS, hD, hnd, hsz⟩
  have hS63 : (S.length : Int) ≤ 17592186043904 := by omega
  have hD63 : (D.length : Int) ≤ 8796093021952 := by omega
  obtain ⟨e0, e1, e2, e3, e4, e5⟩ := h6.cells
  have HB0 := Below.refl W0.heap.size W0
  clear rs hns hS rd hnd hD h6 h7 hsz hu1 hu2 hu3 hu4 hb
  unfold pv6
  go_enter Try.func15, Try.ntmps15
  go_upto_region 1 with (fail)
  try rw [hW0]
  clear hW0
  go_wp2_with (at_builtin; refine Cv.wpList_append_ap _ rfl _ _ _ rfl W0.heap.size 22 u0 (.int .u64 0) 1 8 Try.underlying23 HU.out.1 HU.out.2.1 HU.out.2.2.1 HU.out.2.2.2 rfl (by decide) _ 0 [] rfl (World.ownsRow_nil _ _ _ _) _ S.length (cU S) rfl (HS.out _ HB0).2.2.1 (by simp [cU]) (Cv.cU_one S) ?c1 ?c2 (Nat.le_refl _) ?_)
  case c1 => have := HX.out.1; unfold maxLen; omega
  case c2 => have := HX.out.1; omega
  intro v1 w1 a1
  have hb1 : Below W0.heap.size W0 w1 := (Cv.ownB_step0 (Below.refl _ _) (Nat.le_refl _) (World.ownsRow_nil W0 W0.heap.size 22 1) a1.grown).1
  have HO1 : Hid (w1.ownsRow W0.heap.size 22 1 v1 S.length (cU S)) := a1.own
  clear a1 e0 e1 e2 e3 e4 e5
  have HB1 := hide hb1
  clear hb1
  go_wp2_with (at_builtin; refine Cv.wpList_append_ap _ rfl _ _ _ rfl W0.heap.size 22 u0 (.int .u64 0) 1 8 Try.underlying23 HU.out.1 HU.out.2.1 HU.out.2.2.1 HU.out.2.2.2 rfl (by decide) _ S.length (cU S) rfl (HO1.out.alloc _) _ 2 (cU [7000000, 7000001]) rfl (rdc_two w1 7000000 7000001) rfl (Cv.cU_one [7000000, 7000001]) ?c1 ?c2 ?c3 ?_)
  case c1 => have := HX.out.1; unfold maxLen; omega
  case c2 => have := HX.out.1; omega
  case c3 => have := HB1.out.size; simp; omega
  intro v2 w2 a2
  have hb2 : Below W0.heap.size W0 w2 := (Cv.ownB_step HB1.out HB1.out.size HO1.out a2.grown).1
  have o2 : Cv.Own w2 W0.heap.size v2 (S ++ [7000000, 7000001]) := by
    have := a2.own
    rw [Cv.Own, List.length_append]
    simpa [cU] using this
  obtain ⟨gs, cs, rfl, hgs, hcs, _, hgl⟩ := ownU_form o2 (by simp)
  rw [show (S ++ [7000000, 7000001] : List Nat).length = S.length + 2 by simp] at o2 hcs ⊢
  have HO2 : Hid (Cv.Own w2 W0.heap.size (.slice (some ⟨gs, 0, none⟩) (S.length + 2) cs) (S ++ [7000000, 7000001]) ∧ S.length + 2 ≤ cs ∧ W0.heap.size ≤ gs ∧ gs < w2.heap.size ∧ Below W0.heap.size W0 w2) := ⟨o2, hcs, hgs, hgl, hb2⟩
  have hz1 : (S.length : Int) ≤ (cs : Int) := by omega
  clear o2 hgs hcs hgl HO1 HB1 a2 hb2
  obtain ⟨e0, e1, e2, e3, e4, e5⟩ := (HS.out w2 HO2.out.2.2.2.2).1.cells
  go_wp2_with (at_builtin; refine wpList_append_S _ rfl _ _ rfl w2.heap.size _ [] rfl (owns_nil _ _) da db dO dc D rfl (HS.out _ HO2.out.2.2.2.2).2.2.2.1 HX.out.2.2.1 ?c1 (Nat.le_refl _) ?_)
  case c1 => have := HX.out.2.1; simp; omega
  intro v3 w3 o3 hb3
  have HO3 := hide o3
  have HB3 := hide hb3
  clear o3 hb3 e0 e1 e2 e3 e4 e5
  go_wp2_with (at_builtin; refine wpList_append_S _ rfl _ _ rfl w2.heap.size _ D rfl (own_al HO3.out _) (some ⟨w3.heap.size, 0, none⟩) w3.heap.size 0 2 [oneB, twoB] rfl (rds_two w3 oneB twoB (by decide) (by decide)) (fun h => by cases h) ?c1 ?c2 ?_)
  case c1 => have := HX.out.2.1; simp; omega
  case c2 => have := HB3.out.size; simp; omega
  intro v4 w4 o4 hb4
  have hb4' : Below w2.heap.size w2 w4 := (bal HB3.out _).trans hb4
  obtain ⟨gd, cd, rfl, hgd, hcd, hcm⟩ := own_form o4 (by simp)
  rw [show (D ++ [oneB, twoB] : List ByteArray).length = D.length + 2 by simp] at o4 hcd ⊢
  have hgdl : gd < w4.heap.size := (World.ownsRow.lt o4 gd rfl).2
  have hbw4 := bnext HO2.out.2.2.2.2 hb4'
  have HF : Hid (Cv.Own w4 W0.heap.size (.slice (some ⟨gs, 0, none⟩) (S.length + 2) cs) (S ++ [7000000, 7000001]) ∧ OwnS w4 w2.heap.size (.slice (some ⟨gd, 0, none⟩) (D.length + 2) cd) (D ++ [oneB, twoB]) ∧ W0.heap.size ≤ gs ∧ gs < w4.heap.size ∧ S.length + 2 ≤ cs ∧ D.length + 2 ≤ cd ∧ Below W0.heap.size W0 w4 ∧ w2.heap.size ≤ gd ∧ gd < w4.heap.size ∧ W0.heap.size ≤ w2.heap.size) := by
    obtain ⟨y1, y2, y3, y4, y5⟩ := HO2.out
    exact ⟨Cv.ownB_next y1 hb4', o4, y3, Nat.lt_of_lt_of_le y4 hb4'.size, y2, hcd, hbw4, hgd, hgdl, y5.size⟩
  have hz2 : (D.length : Int) ≤ (cd : Int) := by omega
  clear HO2 HO3 HB3 o4 hb4 hb4' hgd hcm hcd hgdl hbw4
  obtain ⟨h6, h7, _, _, hbw⟩ := HS.out w4 HF.out.2.2.2.2.2.2.1
  obtain ⟨e0, e1, e2, e3, e4, e5⟩ := h6.cells
  have f6 := h6.fz
  have h9 := h6.set4 (.slice (some ⟨gs, 0, none⟩) S.length cs)
  have hc9 := (ChT.refl (fun b => b = w.heap.size) w4).set w.heap.size 4 (.slice (some ⟨gs, 0, none⟩) S.length cs) rfl
  have h10 := h9.set5 (.slice (some ⟨gd, 0, none⟩) D.length cd)
  have hc10 := hc9.set w.heap.size 5 (.slice (some ⟨gd, 0, none⟩) D.length cd) rfl
  obtain ⟨d0, d1, d2, d3, d4, d5⟩ := h9.cells
  have f9 := h9.fz
  go_upto_region 9 with (fail)
  have h710 := h7.same (hc10.block (w.heap.size + 1) (by show ¬ _ = _; omega))
  obtain ⟨w10, hw10⟩ : ∃ w10, (w4.setCell ⟨w.heap.size, 4, none⟩ (.slice (some ⟨gs, 0, none⟩) S.length cs)).setCell ⟨w.heap.size, 5, none⟩ (.slice (some ⟨gd, 0, none⟩) D.length cd) = w10 := ⟨_, rfl⟩
  rw [hw10] at h10 hc10 h710 ⊢
  obtain ⟨k0, k1, k2, k3, k4, k5⟩ := h10.cells
  obtain ⟨m0, m1, m2, m3, m4, m5⟩ := h710.cells
  have f10 := h710.fz
  have h11 := h710.put (.int .i64 kd) (.int .i64 k) (.int .u64 (old : Int)) (.int .u64 (size : Int)) (.slice (some ⟨gs, 0, none⟩) S.length cs) (.slice (some ⟨gd, 0, none⟩) D.length cd)
  have hc11 := put6_ch w10 (w.heap.size + 1) (.int .i64 kd) (.int .i64 k) (.int .u64 (old : Int)) (.int .u64 (size : Int)) (.slice (some ⟨gs, 0, none⟩) S.length cs) (.slice (some ⟨gd, 0, none⟩) D.length cd)
  unfold put6 at h11 hc11
  clear e0 e1 e2 e3 e4 e5 d0 d1 d2 d3 d4 d5 f6 f9 h9 hc9
  go_wp2
  obtain ⟨s0, s1, s2, s3, s4, s5⟩ := h11.cells
  refine bodyPost_ret (v := .agg #[.int .i64 kd, .int .i64 k, .int .u64 (old : Int), .int .u64 (size : Int), .slice (some ⟨gs, 0, none⟩) S.length cs, .slice (some ⟨gd, 0, none⟩) D.length cd]) (by simp [results, Try.results15, go_sem, s0, s1, s2, s3, s4, s5]) rfl ?_
  obtain ⟨z1, z2, z3, z4, z5, z6, z7, z8, z9, z10⟩ := HF.out
  have hsz := HX.out.2.2.2
  have keep : ∀ g, w.heap.size + 2 ≤ g → g < w4.heap.size → (((((( w10.setCell ⟨w.heap.size + 1, 0, none⟩ (.int .i64 kd)).setCell ⟨w.heap.size + 1, 1, none⟩ (.int .i64 k)).setCell ⟨w.heap.size + 1, 2, none⟩ (.int .u64 (old : Int))).setCell ⟨w.heap.size + 1, 3, none⟩ (.int .u64 (size : Int))).setCell ⟨w.heap.size + 1, 4, none⟩ (.slice (some ⟨gs, 0, none⟩) S.length cs)).setCell ⟨w.heap.size + 1, 5, none⟩ (.slice (some ⟨gd, 0, none⟩) D.length cd)).heap[g]? = w4.heap[g]? := fun g h1 h2 => (hc11.block g (by show ¬ _ = _; omega)).trans (hc10.block g (by show ¬ _ = _; omega))
  refine ⟨gs, cs, gd, cd, rfl, ?_, ?_, z5, z6, ?_⟩
  · refine (keep_row z1 fun g hg _ => ?_).mono (by omega)
    cases hg
    exact keep gs (by omega) z4
  · refine (keep_row z2 fun g hg _ => ?_).mono (by omega)
    cases hg
    exact keep gd (by omega) z9
  · have hlw := hbw.size
    exact (hbw.trans (hc10.below (by rintro b rfl; omega))).trans (hc11.below (by rintro b rfl; omega))
end Go.Proofs.Ytelglfmppmdmoaa
