/-
  Own work: JWalkD.
-/
import Derived.Test.YtdocjikpcbmcgaaGreatDoorQs44
import Derived.Test.YtdocjikpcbmcgaaGreatDoorQb02
namespace Go.Proofs.YtdocjikpcbmcgaaGreatDoor
open Go.RowKit
open Cv (RdC zl cU cov)
open Pl (pw)
attribute [local go_sem ↓] Go.wp_at_zero Go.wp_at_succ
theorem jl_bounds {w wr : World} {s0 q : Nat} {F : Nat → Nat → ByteArray} {h k h' k' : Nat} {v u : Value} (hl : (k + 1) * pw h ≤ 2 ^ 40) (j : JL w wr s0 q F h k h' k' v u) : h' ≤ 40 ∧ k' < 2 ^ 40 ∧ (cov 0 (k' * pw h')).length ≤ 40 ∧ k' * pw h' ≤ 2 ^ 40 := by
  have hen := j.en
  have h40 : (k' + 1) * pw h' ≤ 2 ^ 40 := by rw [hen]; exact hl
  have hp := Pl.pw_pos h'
  have h1 : k' + 1 ≤ (k' + 1) * pw h' := Nat.le_mul_of_pos_right _ hp
  have h2 : k' * pw h' ≤ (k' + 1) * pw h' := Nat.mul_le_mul_right _ (by omega)
  exact ⟨h40_of (by omega) h40, by omega, Cv.cov_forty _ (by omega), by omega⟩
set_option maxRecDepth 100000 in
set_option maxHeartbeats 4000000 in
theorem join_any (w : World) (s0 : Nat) (K : Int) (F : Nat → Nat → ByteArray) (h k : Nat) (v u : Value) (hJ : JS w s0 v u (cov 0 (k * pw h)) (dgF F (cov 0 (k * pw h)))) (hl : (k + 1) * pw h ≤ 2 ^ 40)
    (hT : ∀ W, Below (s0 + 1) w W → Tb W) (hK : w.cell? ⟨s0, 1, none⟩ = some (.int .i64 K))
    (hF : ∀ h' q, h ≤ h' → (q + 1) * pw (h' + 1) = (k + 1) * pw h → F (h' + 1) q = dg (clk K) (nodeT (F h' (2 * q)) (F h' (2 * q + 1)))) (hsz : ∀ a b, (F a b).size ≤ 32) (d : ByteArray) (hd : F h k = d) :
    Calls Tryz.prog 131 #[.agg #[.int .i64 (h : Int), .int .u64 (k : Int)], .string d, .pointer (some ⟨s0 + 1, 0, none⟩), .pointer (some ⟨s0, 0, none⟩), .pointer (some ⟨s0 + 2, 0, none⟩)] w fun e w' => e = .returned (.tuple #[]) ∧ (∃ v' u', JS w' s0 v' u' (cov 0 ((k + 1) * pw h)) (dgF F (cov 0 ((k + 1) * pw h)))) ∧ Below (s0 + 1) w w' := by
  have hJl := hJ.lt
  have hb := bal (Below.refl w.heap.size w) (.cells #[.int .i64 (h : Int), .int .u64 (k : Int)] 83)
  have hL : JL w (w.alloc (.cells #[.int .i64 (h : Int), .int .u64 (k : Int)] 83)) s0 w.heap.size F h k h k v u :=
    ⟨hJ.next hb, tw_new w _ _, fun g hg => (World.ownsRow.lt hJ.ot g hg).2, rfl, Nat.le_refl _, hb.mono (by omega), hJl⟩
  obtain ⟨ao, n, cap, rfl⟩ := Cv.own_slice hJ.ot
  have hn := own_len hJ.ot
  rw [Cv.zl_len] at hn
  subst hn
  have HX : Hid ((k + 1) * pw h ≤ 2 ^ 40 ∧ (∀ a b, (F a b).size ≤ 32) ∧ (∀ W, Below (s0 + 1) w W → Tb W ∧ W.cell? ⟨s0, 1, none⟩ = some (.int .i64 K)) ∧ (∀ h' q, h ≤ h' → (q + 1) * pw (h' + 1) = (k + 1) * pw h → F (h' + 1) q = dg (clk K) (nodeT (F h' (2 * q)) (F h' (2 * q + 1))))) :=
    ⟨hl, hsz, fun W hW => ⟨hT W hW, (hW.cell (p := ⟨s0, 1, none⟩) (Nat.lt_succ_self s0)).trans hK⟩, hF⟩
  have HL := hide hL
  have c0 := cell_of_one hL.js.ct
  have hlen := (jl_bounds hl hL).2.2.1
  have hlz : ((cov 0 (k * pw h)).length : Int) ≤ 40 := by omega
  subst hd
  clear hJ hJl hb hL hl hT hK hF hsz hlen
  go_enter Tryz.func131, Tryz.ntmps131
  go_wp2
  go_loopg [1, 7] (41 - h) (fun g dd i wr => ∃ (h' k' : Nat) (v u : Value), Hid (JL w wr s0 w.heap.size F h k h' k' v u) ∧ g = 41 - h' ∧ dd = .string (F h' k') ∧ i = .int .i64 (((cov 0 (k' * pw h')).length : Int) - 1))
  case atStart =>
    go_light
    exact ⟨h, k, _, _, HL, by omega, rfl, rfl⟩
  case round =>
    obtain ⟨h', k', v, u, HJ, rfl, rfl, rfl⟩ := hrel
    clear HL c0 hlz
    obtain ⟨b1, b2, b3, b4⟩ := jl_bounds HX.out.1 HJ.out
    by_cases hpar : k' % 2 = 1
    · obtain ⟨a, rfl⟩ : ∃ a, k' = 2 * a + 1 := ⟨k' / 2, by omega⟩
      obtain ⟨C, hC⟩ : ∃ C, cov 0 (2 * a * pw h') = C := ⟨_, rfl⟩
      have hcv : cov 0 ((2 * a + 1) * pw h') = C ++ [(h', 2 * a)] := by rw [← hC]; exact cov_odd h' a b4
      have hjs := HJ.out.js
      rw [hcv] at hjs
      have hlP : (dgF F C).length = C.length := List.length_map ..
      have hjs' : JS wr s0 v u (C ++ [(h', 2 * a)]) (dgF F C ++ [F h' (2 * a)]) := by rw [dgF, List.map_append] at hjs; exact hjs
      obtain ⟨g, cap, gu, cu, rfl, rfl, hc1, hc2, e1, e2, e3⟩ := js_last hjs'
      rw [hlP] at hc2 e3 HJ
      have hix : ((cov 0 ((2 * a + 1) * pw h')).length : Int) - 1 = (C.length : Int) := by rw [hcv, List.length_append, List.length_singleton]; omega
      rw [hix]
      have hC40 : C.length ≤ 40 := by rw [hcv, List.length_append, List.length_singleton] at b3; omega
      obtain ⟨x0, hx0⟩ : ∃ x0, F h' (2 * a) = x0 := ⟨_, rfl⟩
      obtain ⟨x1, hx1⟩ : ∃ x1, F h' (2 * a + 1) = x1 := ⟨_, rfl⟩
      obtain ⟨x2, hx2⟩ : ∃ x2, F (h' + 1) a = x2 := ⟨_, rfl⟩
      have hnd : dg (clk K) (nodeT x0 x1) = x2 := by
        rw [← hx2, HX.out.2.2.2 h' a HJ.out.hh (by rw [← HJ.out.en, Cv.mul_half, show 2 * (a + 1) = 2 * a + 1 + 1 by omega]), hx0, hx1]
      rw [hx0] at e3
      rw [hx1]
      obtain ⟨t, ht⟩ : ∃ t, C.length = t := ⟨_, rfl⟩
      have HUp : Hid (∀ W W', JL w W s0 w.heap.size F h k h' (2 * a + 1) (.slice (some ⟨g, 0, none⟩) (t + 1) cap) (.slice (some ⟨gu, 0, none⟩) (t + 1) cu) → (((putB W w.heap.size ((h' + 1 : Nat) : Int) a).setCell ⟨s0 + 1, 0, none⟩ (.slice (some ⟨g, 0, none⟩) t cap)).setCell ⟨s0 + 2, 0, none⟩ (.slice (some ⟨gu, 0, none⟩) t cu)) = W' → JL w W' s0 w.heap.size F h k (h' + 1) a (.slice (some ⟨g, 0, none⟩) t cap) (.slice (some ⟨gu, 0, none⟩) t cu)) := fun W W' h1 h2 => by
        subst ht
        exact JL.up C hC HX.out.1 h1 W' h2
      have hlen2 : ((cov 0 (a * pw (h' + 1))).length : Int) = (t : Int) := by rw [Cv.mul_half, hC, ht]
      rw [ht] at HJ e1 e2 e3 hc1 hc2 hC40 ⊢
      have HE : Hid (∀ W, Below wr.heap.size wr W → JL w W s0 w.heap.size F h k h' (2 * a + 1) (.slice (some ⟨g, 0, none⟩) (t + 1) cap) (.slice (some ⟨gu, 0, none⟩) (t + 1) cu) ∧ W.cell? ⟨g, t * 2, none⟩ = some (.int .i64 (h' : Int)) ∧ W.cell? ⟨g, t * 2 + 1, none⟩ = some (.int .u64 ((2 * a : Nat) : Int)) ∧ W.cell? ⟨gu, t, none⟩ = some (.string x0)) := fun W hW =>
        ⟨HJ.out.next hW, (hW.cell (World.block_lt_of_cell? wr _ e1)).trans e1, (hW.cell (World.block_lt_of_cell? wr _ e2)).trans e2, (hW.cell (World.block_lt_of_cell? wr _ e3)).trans e3⟩
      have HBs : Hid (∀ W, Calls Tryz.prog 132 #[.agg #[.int .i64 (h' : Int), .int .u64 ((2 * a + 1 : Nat) : Int)]] W fun e w' => e = .returned (.agg #[.int .i64 (h' : Int), .int .u64 ((2 * a : Nat) : Int)]) ∧ Below W.heap.size W w') := fun W => beside_any W h' (2 * a + 1) (by omega) (2 * a) (by unfold sb; rw [if_pos (by omega)]; omega)
      have HNo : Hid (∀ W, Below wr.heap.size wr W → Calls Tryz.prog 125 #[.int .i64 K, .string x0, .string x1] W fun e w' => e = .returned (.string x2) ∧ Below W.heap.size W w') := fun W hW => node_any W (HX.out.2.2.1 W ((HE.out W hW).1.be)).1 K x0 x1 (by have := HX.out.2.1 h' (2 * a); rw [hx0] at this; omega) (by have := HX.out.2.1 h' (2 * a + 1); rw [hx1] at this; omega) x2 hnd
      have hz0 : (0 : Int) ≤ (t : Int) := Int.natCast_nonneg _
      have ht1 : (t : Int) < ((t + 1 : Nat) : Int) := by omega
      have HG : Hid (h' ≤ 40 ∧ 2 * a + 1 < 2 ^ 40 ∧ t ≤ 40 ∧ t + 1 ≤ cap ∧ t + 1 ≤ cu ∧ ((cov 0 (a * pw (h' + 1))).length : Int) = (t : Int) ∧ F (h' + 1) a = x2) := ⟨b1, b2, hC40, hc1, hc2, hlen2, hx2⟩
      obtain ⟨kk, hkk⟩ : ∃ kk : Nat, 2 * a + 1 = kk := ⟨_, rfl⟩
      obtain ⟨k2, hk2⟩ : ∃ k2 : Nat, 2 * a = k2 := ⟨_, rfl⟩
      obtain ⟨tt, htt⟩ : ∃ tt : Nat, t + 1 = tt := ⟨_, rfl⟩
      rw [hkk, hk2, htt] at HE
      rw [hkk, hk2] at HBs
      rw [hkk, htt] at HUp
      rw [htt] at ht1
      clear hpar hC hcv hjs hjs' hix hlP hx0 hx1 hx2 hnd HJ e1 e2 e3 hc1 hc2 hC40 b1 b2 b3 b4 ht hlen2
      go_upto_region 2 with (fail)
      refine wp_region_planI (by kernel_rfl) [11, 12, 13, 14, 15, 16, 17, 18, 19, 20, 21] [] [.int .i64 (t : Int), .bool true, .bool true, .slice (some ⟨g, 0, none⟩) tt cap, .int .i64 (t : Int), .pointer (some ⟨g, t * 2, none⟩), .agg #[.int .i64 (h' : Int), .int .u64 (k2 : Int)], .agg #[.int .i64 (h' : Int), .int .u64 (kk : Int)], .agg #[.int .i64 (h' : Int), .int .u64 (k2 : Int)], .bool true, .bool true] (by kernel_rfl) rfl (fun j hj => by cases hj) (fun _ W => Below wr.heap.size wr W) (fun W _ hb => hb) ?step ?fin
      case step =>
        refine ⟨?_, ?_, ?_, ?_, ?_, ?_, ?_, ?_, ?_, ?_, ?_, trivial⟩
        · intro L Ac Wc K hI hj hcl hsm dep hK
          have t7 : Ac.tmps.getD 7 undef = .int .i64 (t : Int) := hsm 7 rfl
          show Oper.wp _ _ Ac Wc K _
          go_simp
          exact hK _ _ (.inr rfl) hI
        · intro L Ac Wc K hI hj hcl hsm dep hK
          have t11 : Ac.tmps.getD 11 undef = .int .i64 (t : Int) := dep 0 rfl
          show Oper.wp _ _ Ac Wc K _
          go_simp
          exact hK _ _ (.inr rfl) hI
        · intro L Ac Wc K hI hj hcl hsm dep hK
          have t12 : Ac.tmps.getD 12 undef = .bool true := dep 1 rfl
          show Oper.wp _ _ Ac Wc K _
          go_simp
          exact hK _ _ (.inr rfl) hI
        · intro L Ac Wc K hI hj hcl hsm dep hK
          have t2 : Ac.tmps.getD 2 undef = .pointer (some ⟨s0 + 1, 0, none⟩) := hsm 2 rfl
          refine ⟨true, (show Ac.tmps.getD 13 undef = .bool true from dep 2 rfl), ?_⟩
          rw [if_pos rfl]
          obtain ⟨j, e1, e2, e3⟩ := HE.out Wc hI
          have c1 := cell_of_one j.js.ct
          go_simp
          exact hK _ _ (.inr rfl) hI
        · intro L Ac Wc K hI hj hcl hsm dep hK
          have t7 : Ac.tmps.getD 7 undef = .int .i64 (t : Int) := hsm 7 rfl
          refine ⟨true, (show Ac.tmps.getD 13 undef = .bool true from dep 2 rfl), ?_⟩
          rw [if_pos rfl]
          go_simp
          exact hK _ _ (.inr rfl) hI
        · intro L Ac Wc K hI hj hcl hsm dep hK
          have t14 : Ac.tmps.getD 14 undef = .slice (some ⟨g, 0, none⟩) tt cap := dep 3 rfl
          have t15 : Ac.tmps.getD 15 undef = .int .i64 (t : Int) := dep 4 rfl
          refine ⟨true, (show Ac.tmps.getD 13 undef = .bool true from dep 2 rfl), ?_⟩
          rw [if_pos rfl]
          go_simp
          exact hK _ _ (.inr rfl) hI
        · intro L Ac Wc K hI hj hcl hsm dep hK
          have t16 : Ac.tmps.getD 16 undef = .pointer (some ⟨g, t * 2, none⟩) := dep 5 rfl
          refine ⟨true, (show Ac.tmps.getD 13 undef = .bool true from dep 2 rfl), ?_⟩
          rw [if_pos rfl]
          obtain ⟨j, e1, e2, e3⟩ := HE.out Wc hI
          go_simp
          exact hK _ _ (.inr rfl) hI
        · intro L Ac Wc K hI hj hcl hsm dep hK
          have t5 : Ac.tmps.getD 5 undef = .pointer (some ⟨w.heap.size, 0, none⟩) := hsm 5 rfl
          refine ⟨true, (show Ac.tmps.getD 13 undef = .bool true from dep 2 rfl), ?_⟩
          rw [if_pos rfl]
          obtain ⟨j, e1, e2, e3⟩ := HE.out Wc hI
          obtain ⟨c1, c2⟩ := j.tw.cells
          go_simp
          exact hK _ _ (.inr rfl) hI
        · intro L Ac Wc K hI hj hcl hsm dep hK
          have t18 : Ac.tmps.getD 18 undef = .agg #[.int .i64 (h' : Int), .int .u64 (kk : Int)] := dep 7 rfl
          refine ⟨true, (show Ac.tmps.getD 13 undef = .bool true from dep 2 rfl), ?_⟩
          rw [if_pos rfl]
          go_simp
          refine (HBs.out Wc).mono ?_
          rintro e w' ⟨rfl, hb'⟩
          exact hK _ _ (.inr rfl) (bnext hI hb')
        · intro L Ac Wc K hI hj hcl hsm dep hK
          have t17 : Ac.tmps.getD 17 undef = .agg #[.int .i64 (h' : Int), .int .u64 (k2 : Int)] := dep 6 rfl
          have t19 : Ac.tmps.getD 19 undef = .agg #[.int .i64 (h' : Int), .int .u64 (k2 : Int)] := dep 8 rfl
          refine ⟨true, (show Ac.tmps.getD 13 undef = .bool true from dep 2 rfl), ?_⟩
          rw [if_pos rfl]
          go_simp
          exact hK _ _ (.inr rfl) hI
        · intro L Ac Wc K hI hj hcl hsm dep hK
          have t13 : Ac.tmps.getD 13 undef = .bool true := dep 2 rfl
          have t20 : Ac.tmps.getD 20 undef = .bool true := dep 9 rfl
          show Oper.wp _ _ Ac Wc K _
          go_simp
          exact hK _ _ (.inr rfl) hI
      case fin =>
        intro L W hall hW
        clear hall
        simp only [puts]
        go_simp
        have HS : Hid (∀ Z, Below wr.heap.size wr Z → Z.cell? ⟨s0, 1, none⟩ = some (.int .i64 K) ∧ Z.cell? ⟨s0 + 2, 0, none⟩ = some (.slice (some ⟨gu, 0, none⟩) tt cu) ∧ Z.cell? ⟨gu, t, none⟩ = some (.string x0)) := fun Z hZ => ⟨(HX.out.2.2.1 Z (HE.out Z hZ).1.be).2, cell_of_one (HE.out Z hZ).1.js.cp, (HE.out Z hZ).2.2.2⟩
        obtain ⟨s1, s2, s3⟩ := HS.out W hW
        go_upto_region 3 with (fail)
        go_region_held3 (fun Z => Z.cell? ⟨s0, 1, none⟩ = some (.int .i64 K) ∧ Z.cell? ⟨s0 + 2, 0, none⟩ = some (.slice (some ⟨gu, 0, none⟩) tt cu) ∧ Z.cell? ⟨gu, t, none⟩ = some (.string x0))
          (exact HS.out _ (by first | exact hW | exact hW.drew | exact bnext hW.drew hb3 | exact bnext hW hb3)) (first
          | (go_at_call 125; with_reducible refine (HNo.out _ (by first | exact hW.drew | exact hW)).mono ?_; rintro e w3 ⟨rfl, hb3⟩))
        all_goals
          have hb03 : Below wr.heap.size wr w3 := by first | exact bnext hW.drew hb3 | exact bnext hW hb3
          have hj3 := (HE.out w3 hb03).1
          obtain ⟨q0, q1⟩ := hj3.tw.cells
          have f0 := hj3.tw.fz 0
          have f1 := hj3.tw.fz 1
          obtain ⟨h1, hh1⟩ : ∃ h1 : Nat, h' + 1 = h1 := ⟨_, rfl⟩
          have e5 : IntKind.i64.wrap ((h' : Int) + 1) = (h1 : Int) := by have := HG.out.1; rw [IntKind.wrap_i64]; omega
          have e6 : Int.tdiv (kk : Int) 2 = (a : Int) := by rw [Int.tdiv_eq_ediv_of_nonneg (by omega)]; omega
          have e7 : IntKind.u64.wrap (a : Int) = (a : Int) := by have := HG.out.2.1; rw [IntKind.wrap_u64]; omega
          have HJ3 := hide hj3
          clear s1 s2 s3 HNo HBs hj3
          go_upto_region 5 with (fail)
          have hch := putB_ch w3 w.heap.size (h1 : Int) a
          obtain ⟨W4, hW4⟩ : ∃ W4, putB w3 w.heap.size (h1 : Int) a = W4 := ⟨_, rfl⟩
          rw [hW4] at hch
          unfold putB at hW4
          rw [hW4]
          have hq2 := HJ3.out.hq
          have b1 := (hch.block (s0 + 1) (by show ¬ s0 + 1 = _; omega)).trans HJ3.out.js.ct
          have b2 := (hch.block (s0 + 2) (by show ¬ s0 + 2 = _; omega)).trans HJ3.out.js.cp
          have c1 := cell_of_one b1
          have c2 := cell_of_one b2
          have g1 := free_of_one b1
          have g2 := free_of_one b2
          have hct : (t : Int) ≤ (cap : Int) := by have := HG.out.2.2.2.1; omega
          have hcu : (t : Int) ≤ (cu : Int) := by have := HG.out.2.2.2.2.1; omega
          clear q0 q1 f0 f1 e5 e6 e7 b1 b2
          have HW4 := hide hW4
          clear hW4
          go_region
          have HF : Hid (∀ W5, (W4.setCell ⟨s0 + 1, 0, none⟩ (.slice (some ⟨g, 0, none⟩) t cap)).setCell ⟨s0 + 2, 0, none⟩ (.slice (some ⟨gu, 0, none⟩) t cu) = W5 → JL w W5.drew s0 w.heap.size F h k (h' + 1) a (.slice (some ⟨g, 0, none⟩) t cap) (.slice (some ⟨gu, 0, none⟩) t cu)) := fun W5 h5 => (HUp.out w3 W5 HJ3.out (by rw [← h5, ← HW4.out, hh1]; rfl)).next (Below.refl _ _).drew
          have e8 : IntKind.i64.wrap ((t : Int) - 1) = (t : Int) - 1 := by have := HG.out.2.2.1; rw [IntKind.wrap_i64]; omega
          clear c1 c2 g1 g2 hch HUp hct hcu
          go_wp2
          go_roundg (41 - (h' + 1))
          case rel =>
            go_light
            exact ⟨h' + 1, a, _, _, HF.out _ rfl, rfl, by rw [HG.out.2.2.2.2.2.2], by rw [HG.out.2.2.2.2.2.1]⟩
          case measure => go_light; have := HG.out.1; omega
    · obtain ⟨a, rfl⟩ : ∃ a, k' = 2 * a := ⟨k' / 2, by omega⟩
      obtain ⟨C, hC⟩ : ∃ C, cov 0 (2 * a * pw h') = C := ⟨_, rfl⟩
      have hnx : cov 0 ((k + 1) * pw h) = C ++ [(h', 2 * a)] := by rw [← HJ.out.en, ← hC]; exact cov_odd h' a (by rw [HJ.out.en]; exact HX.out.1)
      have hhi : ∀ b ∈ C, h' < b.1 := by rw [← hC]; exact cov_even h' a b4
      have hjs := HJ.out.js
      rw [hC] at hjs b3
      rw [hC]
      obtain ⟨x1, hx1⟩ : ∃ x1, F h' (2 * a) = x1 := ⟨_, rfl⟩
      rw [hx1]
      have HN : Hid (∀ W v' u', JS W s0 v' u' (C ++ [(h', 2 * a)]) (dgF F C ++ [x1]) → JS W s0 v' u' (cov 0 ((k + 1) * pw h)) (dgF F (cov 0 ((k + 1) * pw h)))) := fun W v' u' h0 => by
        rw [hnx, dgF, List.map_append]
        show JS W s0 v' u' (C ++ [(h', 2 * a)]) (dgF F C ++ [F h' (2 * a)])
        rw [hx1]
        exact h0
      obtain ⟨P, hP⟩ : ∃ P, dgF F C = P := ⟨_, rfl⟩
      have hPl : P.length = C.length := by rw [← hP]; exact List.length_map ..
      rw [hP] at HN hjs
      obtain ⟨kk, hkk⟩ : ∃ kk : Nat, 2 * a = kk := ⟨_, rfl⟩
      have htw := HJ.out.tw
      have hvq := HJ.out.hv
      have huq := HJ.out.hu
      have hbe := HJ.out.be
      have hqq := HJ.out.hq
      rw [hkk] at HN htw hC b4 b2
      have HE : Hid (∀ W, Below wr.heap.size wr W → JS W s0 v u C P ∧ Tw W w.heap.size (h' : Int) kk ∧ Below (s0 + 1) w W) := fun W hW => ⟨hjs.next hW, htw.next hW, hbe.trans (hW.mono (by have := hjs.lt; omega))⟩
      have HG : Hid (C.length ≤ 40 ∧ P.length = C.length ∧ (∀ g, v.ownBlock = some g → g < w.heap.size) ∧ (∀ g, u.ownBlock = some g → g ≠ w.heap.size) ∧ s0 + 2 < w.heap.size) := ⟨b3, hPl, hvq, huq, hqq⟩
      have HBs : Hid (∀ W, Calls Tryz.prog 132 #[.agg #[.int .i64 (h' : Int), .int .u64 (kk : Int)]] W fun e w' => e = .returned (.agg #[.int .i64 (h' : Int), .int .u64 ((sb kk : Nat) : Int)]) ∧ Below W.heap.size W w') := fun W => beside_any W h' kk (by omega) _ rfl
      obtain ⟨av, nv, cv, rfl⟩ := Cv.own_slice hjs.ot
      obtain ⟨au, nu, cu, rfl⟩ := Cv.own_slice hjs.op
      have l1 := own_len hjs.ot
      have l2 := own_len hjs.op
      rw [Cv.zl_len] at l1
      subst l1 l2
      rcases List.eq_nil_or_concat C with hnil | ⟨C0, ⟨x, y⟩, hC0⟩
      · have hneg : ¬ (0 : Int) ≤ -1 := by decide
        have hm : ((C.length : Nat) : Int) - 1 = -1 := by rw [hnil]; rfl
        rw [hm]
        clear hjs htw hvq huq hbe hqq hkk hPl hP hnx hhi hC HJ b1 b2 b3 b4 HBs hx1 hpar
        go_upto_region 2 with (fail)
        refine wp_region_planI (by kernel_rfl) [11, 12, 13, 14, 15, 16, 17, 18, 19, 20, 21] [] [.int .i64 (-1), .bool false, .bool false, undef, undef, undef, undef, undef, undef, undef, .bool false] (by kernel_rfl) rfl (fun j hj => by cases hj) (fun _ W => Below wr.heap.size wr W) (fun W _ hb => hb) ?step ?fin
        case step =>
          refine ⟨?_, ?_, ?_, ?_, ?_, ?_, ?_, ?_, ?_, ?_, ?_, trivial⟩
          · intro L Ac Wc K hI hj hcl hsm dep hK
            have t7 : Ac.tmps.getD 7 undef = .int .i64 (-1) := hsm 7 rfl
            show Oper.wp _ _ Ac Wc K _
            go_simp
            exact hK _ _ (.inr rfl) hI
          · intro L Ac Wc K hI hj hcl hsm dep hK
            have t11 : Ac.tmps.getD 11 undef = .int .i64 (-1) := dep 0 rfl
            show Oper.wp _ _ Ac Wc K _
            go_simp
            exact hK _ _ (.inr rfl) hI
          · intro L Ac Wc K hI hj hcl hsm dep hK
            have t12 : Ac.tmps.getD 12 undef = .bool false := dep 1 rfl
            show Oper.wp _ _ Ac Wc K _
            go_simp
            exact hK _ _ (.inr rfl) hI
          · intro L Ac Wc K hI hj hcl hsm dep hK
            refine ⟨false, (show Ac.tmps.getD 13 undef = .bool false from dep 2 rfl), ?_⟩
            rw [if_neg (by decide)]
            exact hK _ _ (.inr rfl) hI
          · intro L Ac Wc K hI hj hcl hsm dep hK
            refine ⟨false, (show Ac.tmps.getD 13 undef = .bool false from dep 2 rfl), ?_⟩
            rw [if_neg (by decide)]
            exact hK _ _ (.inr rfl) hI
          · intro L Ac Wc K hI hj hcl hsm dep hK
            refine ⟨false, (show Ac.tmps.getD 13 undef = .bool false from dep 2 rfl), ?_⟩
            rw [if_neg (by decide)]
            exact hK _ _ (.inr rfl) hI
          · intro L Ac Wc K hI hj hcl hsm dep hK
            refine ⟨false, (show Ac.tmps.getD 13 undef = .bool false from dep 2 rfl), ?_⟩
            rw [if_neg (by decide)]
            exact hK _ _ (.inr rfl) hI
          · intro L Ac Wc K hI hj hcl hsm dep hK
            refine ⟨false, (show Ac.tmps.getD 13 undef = .bool false from dep 2 rfl), ?_⟩
            rw [if_neg (by decide)]
            exact hK _ _ (.inr rfl) hI
          · intro L Ac Wc K hI hj hcl hsm dep hK
            refine ⟨false, (show Ac.tmps.getD 13 undef = .bool false from dep 2 rfl), ?_⟩
            rw [if_neg (by decide)]
            exact hK _ _ (.inr rfl) hI
          · intro L Ac Wc K hI hj hcl hsm dep hK
            refine ⟨false, (show Ac.tmps.getD 13 undef = .bool false from dep 2 rfl), ?_⟩
            rw [if_neg (by decide)]
            exact hK _ _ (.inr rfl) hI
          · intro L Ac Wc K hI hj hcl hsm dep hK
            have t13 : Ac.tmps.getD 13 undef = .bool false := dep 2 rfl
            have t20 : Ac.tmps.getD 20 undef = undef := dep 9 rfl
            show Oper.wp _ _ Ac Wc K _
            go_simp
            exact hK _ _ (.inr rfl) hI
        case fin =>
          intro L W hall hW
          clear hall
          simp only [puts]
          go_simp
          clear hnil hm hneg
          have hj0 : J0 W s0 w.heap.size (.slice av C.length cv) (.slice au P.length cu) C P h' kk := ⟨(HE.out W hW).1, (HE.out W hW).2.1, fun g hg => by have := HG.out.2.2.1 g hg; omega, HG.out.2.2.2.2, by have := HG.out.1; omega, by have := HG.out.1; have := HG.out.2.1; omega⟩
          have HBe := hide (HE.out W hW).2.2
          clear HE hW
          go_upto_region 7 with (fail)
          refine wp_region_planJ (by kernel_rfl) (by kernel_rfl) (RF W s0 w.heap.size (.slice av C.length cv) (.slice au P.length cu) C P h' kk x1) (fun Z _ hZ => rf_start hj0 rfl rfl rfl rfl rfl rfl hZ) ⟨e0 rfl, e1, e2 rfl, e3 hj0 rfl rfl rfl rfl rfl, e4 rfl, e5, e6 rfl, e7 hj0 rfl rfl rfl rfl rfl, e8 hj0 rfl rfl rfl, e9 hj0 rfl rfl rfl, trivial⟩ ?_
          intro L a7 w7 hall hI
          obtain ⟨v', u', hjs, hb7⟩ := rf_end hI hall
          have HF : Hid ((∃ v' u', JS w7 s0 v' u' (cov 0 ((k + 1) * pw h)) (dgF F (cov 0 ((k + 1) * pw h)))) ∧ Below (s0 + 1) w w7) := ⟨⟨v', u', HN.out _ _ _ hjs⟩, HBe.out.trans hb7⟩
          exact bodyPost_end (results_none rfl a7.tmps Tryz.prog w7) hI.df ⟨rfl, HF.out⟩
      · rw [List.concat_eq_append] at hC0
        have hxh : h' < x := hhi (x, y) (by rw [hC0]; simp)
        have hjs2 : JS wr s0 (.slice av C.length cv) (.slice au P.length cu) (C0 ++ [(x, y)]) (dgF F C0 ++ [F x y]) := by
          have e : dgF F C0 ++ [F x y] = P := by rw [← hP, hC0]; show _ = List.map _ (C0 ++ [(x, y)]); rw [List.map_append]; rfl
          rw [e, ← hC0]
          exact hjs
        obtain ⟨g, cap2, gu, cu2, hv2, _, _, _, e1, e2, _⟩ := js_last hjs2
        obtain ⟨rfl, hln, rfl⟩ := Value.slice.inj hv2
        obtain ⟨t, ht⟩ : ∃ t, C0.length = t := ⟨_, rfl⟩
        rw [ht] at e1 e2 hln
        have hm : ((C.length : Nat) : Int) - 1 = (t : Int) := by omega
        rw [hm]
        have hz0 : (0 : Int) ≤ (t : Int) := Int.natCast_nonneg _
        have ht1 : (t : Int) < ((C.length : Nat) : Int) := by omega
        have hne : ((x : Int) == (h' : Int)) = false := beq_false_of_ne (by omega)
        have HE2 : Hid (∀ W, Below wr.heap.size wr W → W.cell? ⟨g, t * 2, none⟩ = some (.int .i64 (x : Int)) ∧ W.cell? ⟨g, t * 2 + 1, none⟩ = some (.int .u64 (y : Int))) := fun W hW =>
          ⟨(hW.cell (World.block_lt_of_cell? wr _ e1)).trans e1, (hW.cell (World.block_lt_of_cell? wr _ e2)).trans e2⟩
        clear hjs htw hvq huq hbe hqq hkk hPl hP hnx hhi hC HJ b1 b2 b3 b4 hx1 hpar hjs2 hv2 hC0 e1 e2 ht hm hxh hln
        go_upto_region 2 with (fail)
        refine wp_region_planI (by kernel_rfl) [11, 12, 13, 14, 15, 16, 17, 18, 19, 20, 21] [] [.int .i64 (t : Int), .bool true, .bool true, .slice (some ⟨g, 0, none⟩) C.length cv, .int .i64 (t : Int), .pointer (some ⟨g, t * 2, none⟩), .agg #[.int .i64 (x : Int), .int .u64 (y : Int)], .agg #[.int .i64 (h' : Int), .int .u64 (kk : Int)], .agg #[.int .i64 (h' : Int), .int .u64 ((sb kk : Nat) : Int)], .bool false, .bool false] (by kernel_rfl) rfl (fun j hj => by cases hj) (fun _ W => Below wr.heap.size wr W) (fun W _ hb => hb) ?step ?fin
        case step =>
          refine ⟨?_, ?_, ?_, ?_, ?_, ?_, ?_, ?_, ?_, ?_, ?_, trivial⟩
          · intro L Ac Wc K hI hj hcl hsm dep hK
            have t7 : Ac.tmps.getD 7 undef = .int .i64 (t : Int) := hsm 7 rfl
            show Oper.wp _ _ Ac Wc K _
            go_simp
            exact hK _ _ (.inr rfl) hI
          · intro L Ac Wc K hI hj hcl hsm dep hK
            have t11 : Ac.tmps.getD 11 undef = .int .i64 (t : Int) := dep 0 rfl
            show Oper.wp _ _ Ac Wc K _
            go_simp
            exact hK _ _ (.inr rfl) hI
          · intro L Ac Wc K hI hj hcl hsm dep hK
            have t12 : Ac.tmps.getD 12 undef = .bool true := dep 1 rfl
            show Oper.wp _ _ Ac Wc K _
            go_simp
            exact hK _ _ (.inr rfl) hI
          · intro L Ac Wc K hI hj hcl hsm dep hK
            have t2 : Ac.tmps.getD 2 undef = .pointer (some ⟨s0 + 1, 0, none⟩) := hsm 2 rfl
            refine ⟨true, (show Ac.tmps.getD 13 undef = .bool true from dep 2 rfl), ?_⟩
            rw [if_pos rfl]
            obtain ⟨j, jt, jb⟩ := HE.out Wc hI
            have c1 := cell_of_one j.ct
            go_simp
            exact hK _ _ (.inr rfl) hI
          · intro L Ac Wc K hI hj hcl hsm dep hK
            have t7 : Ac.tmps.getD 7 undef = .int .i64 (t : Int) := hsm 7 rfl
            refine ⟨true, (show Ac.tmps.getD 13 undef = .bool true from dep 2 rfl), ?_⟩
            rw [if_pos rfl]
            go_simp
            exact hK _ _ (.inr rfl) hI
          · intro L Ac Wc K hI hj hcl hsm dep hK
            have t14 : Ac.tmps.getD 14 undef = .slice (some ⟨g, 0, none⟩) C.length cv := dep 3 rfl
            have t15 : Ac.tmps.getD 15 undef = .int .i64 (t : Int) := dep 4 rfl
            refine ⟨true, (show Ac.tmps.getD 13 undef = .bool true from dep 2 rfl), ?_⟩
            rw [if_pos rfl]
            go_simp
            exact hK _ _ (.inr rfl) hI
          · intro L Ac Wc K hI hj hcl hsm dep hK
            have t16 : Ac.tmps.getD 16 undef = .pointer (some ⟨g, t * 2, none⟩) := dep 5 rfl
            refine ⟨true, (show Ac.tmps.getD 13 undef = .bool true from dep 2 rfl), ?_⟩
            rw [if_pos rfl]
            obtain ⟨e1, e2⟩ := HE2.out Wc hI
            go_simp
            exact hK _ _ (.inr rfl) hI
          · intro L Ac Wc K hI hj hcl hsm dep hK
            have t5 : Ac.tmps.getD 5 undef = .pointer (some ⟨w.heap.size, 0, none⟩) := hsm 5 rfl
            refine ⟨true, (show Ac.tmps.getD 13 undef = .bool true from dep 2 rfl), ?_⟩
            rw [if_pos rfl]
            obtain ⟨j, jt, jb⟩ := HE.out Wc hI
            obtain ⟨c1, c2⟩ := jt.cells
            go_simp
            exact hK _ _ (.inr rfl) hI
          · intro L Ac Wc K hI hj hcl hsm dep hK
            have t18 : Ac.tmps.getD 18 undef = .agg #[.int .i64 (h' : Int), .int .u64 (kk : Int)] := dep 7 rfl
            refine ⟨true, (show Ac.tmps.getD 13 undef = .bool true from dep 2 rfl), ?_⟩
            rw [if_pos rfl]
            go_simp
            refine (HBs.out Wc).mono ?_
            rintro e w' ⟨rfl, hb'⟩
            exact hK _ _ (.inr rfl) (bnext hI hb')
          · intro L Ac Wc K hI hj hcl hsm dep hK
            have t17 : Ac.tmps.getD 17 undef = .agg #[.int .i64 (x : Int), .int .u64 (y : Int)] := dep 6 rfl
            have t19 : Ac.tmps.getD 19 undef = .agg #[.int .i64 (h' : Int), .int .u64 ((sb kk : Nat) : Int)] := dep 8 rfl
            refine ⟨true, (show Ac.tmps.getD 13 undef = .bool true from dep 2 rfl), ?_⟩
            rw [if_pos rfl]
            go_simp
            exact hK _ _ (.inr rfl) hI
          · intro L Ac Wc K hI hj hcl hsm dep hK
            have t13 : Ac.tmps.getD 13 undef = .bool true := dep 2 rfl
            have t20 : Ac.tmps.getD 20 undef = .bool false := dep 9 rfl
            show Oper.wp _ _ Ac Wc K _
            go_simp
            exact hK _ _ (.inr rfl) hI
        case fin =>
          intro L W hall hW
          clear hall
          simp only [puts]
          go_simp
          clear hz0 ht1 hne HE2 HBs
          have hj0 : J0 W s0 w.heap.size (.slice (some ⟨g, 0, none⟩) C.length cv) (.slice au P.length cu) C P h' kk := ⟨(HE.out W hW).1, (HE.out W hW).2.1, fun g hg => by have := HG.out.2.2.1 g hg; omega, HG.out.2.2.2.2, by have := HG.out.1; omega, by have := HG.out.1; have := HG.out.2.1; omega⟩
          have HBe := hide (HE.out W hW).2.2
          clear HE hW
          go_upto_region 7 with (fail)
          refine wp_region_planJ (by kernel_rfl) (by kernel_rfl) (RF W s0 w.heap.size (.slice (some ⟨g, 0, none⟩) C.length cv) (.slice au P.length cu) C P h' kk x1) (fun Z _ hZ => rf_start hj0 rfl rfl rfl rfl rfl rfl hZ) ⟨e0 rfl, e1, e2 rfl, e3 hj0 rfl rfl rfl rfl rfl, e4 rfl, e5, e6 rfl, e7 hj0 rfl rfl rfl rfl rfl, e8 hj0 rfl rfl rfl, e9 hj0 rfl rfl rfl, trivial⟩ ?_
          intro L a7 w7 hall hI
          obtain ⟨v', u', hjs, hb7⟩ := rf_end hI hall
          have HF : Hid ((∃ v' u', JS w7 s0 v' u' (cov 0 ((k + 1) * pw h)) (dgF F (cov 0 ((k + 1) * pw h)))) ∧ Below (s0 + 1) w w7) := ⟨⟨v', u', HN.out _ _ _ hjs⟩, HBe.out.trans hb7⟩
          exact bodyPost_end (results_none rfl a7.tmps Tryz.prog w7) hI.df ⟨rfl, HF.out⟩
end Go.Proofs.YtdocjikpcbmcgaaGreatDoor
