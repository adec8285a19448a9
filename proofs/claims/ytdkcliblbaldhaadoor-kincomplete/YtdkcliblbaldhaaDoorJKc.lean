/-
  KinComplete: of every list, each two sizes of it. Own work.
-/
import Derived.Test.YtdkcliblbaldhaaDoorJAlive
namespace Go.Proofs.YtdkcliblbaldhaaDoor
open Go.RowKit
open Cv (RdC zl cU cov)
open Pl (pw ones)
attribute [local go_sem ↓] Go.wp_at_zero Go.wp_at_succ
theorem cov_len_kb (c : Nat) (T : List ByteArray) (m n : Nat) (hm : m ≤ n) (h40 : n ≤ 2 ^ 40) : (dgKn c T m n).length = ones 64 m + (cov m n).length ∧ (dgKn c T m n).length ≤ 120 := by
  rw [dgKn_len]
  refine ⟨?_, kb_len hm h40⟩
  rw [kb, List.length_append, Cv.cov_ones m (by omega)]
set_option maxRecDepth 100000 in
set_option maxHeartbeats 4000000 in
theorem complete_walk (w : World) (ht : Tb w) (k : Int) (ao : Option Addr) (b off len cap : Nat) (L : List ByteArray) (rd : RdS w ao b off len L) (hm : len ≤ 8796093022208) (step : Int) :
    Calls Tryd.prog 3 #[.int .i64 k, .slice ao len cap, .int .i64 step] w fun e w' => e = .returned (.bool true) ∧ Below w.heap.size w w' := by
  have HA := alive_any w ht
  obtain ⟨K, hK⟩ : ∃ K, stg k = K := ⟨_, rfl⟩
  have hK1 := stg_in k
  rw [hK] at hK1
  have HSg : Hid (∀ W, Calls Tryd.prog 9 #[.int .i64 k] W fun e w' => e = .returned (.int .i64 K) ∧ W = w') := fun W => strength_any W k K hK
  obtain ⟨T, hT⟩ : ∃ T, lst L = T := ⟨_, rfl⟩
  have hTl : T.length ≤ 70 := by rw [← hT]; exact lst_len L
  have hTs : ∀ s ∈ T, s.size ≤ 100 := by rw [← hT]; exact lst_size L
  have HFw : Hid (∀ W, Below w.heap.size w W → Calls Tryd.prog 10 #[.slice ao len cap] W fun e w' => ∃ av bv cv, e = .returned (.slice av T.length cv) ∧ RdS w' av bv 0 T.length T ∧ Below W.heap.size W w') := fun W hb => (few_any W ao b off len cap L (rd.next hb (Nat.le_refl _)) hm T hT).mono fun e w' ⟨v, e1, e2, e3⟩ => by
    obtain ⟨av, bv, cv, rfl, r, _, _⟩ := owns_rds e2 (fun s hs => by have := hTs s hs; omega)
    exact ⟨av, bv, cv, e1, r, e3⟩
  have HGr : Hid (∀ W av bv cv, Below w.heap.size w W → RdS W av bv 0 T.length T → Calls Tryd.prog 11 #[.int .i64 K, .slice av T.length cv] W fun e w' => e = .returned (.pointer (some ⟨W.heap.size + 1, 0, none⟩)) ∧ Frs w' W.heap.size K T ∧ Below W.heap.size W w') := fun W av bv cv hb hr => grown_any W (ht.next hb) K hK1.1 hK1.2 av bv 0 T.length cv T hr hTl hTs
  have HT : Hid (∀ W, Below w.heap.size w W → Tb W) := fun W hb => ht.next hb
  obtain ⟨x, hx⟩ : ∃ x, IntKind.u64.wrap step % 5 = x := ⟨_, rfl⟩
  have hx0 : 0 ≤ x := by rw [← hx]; exact Int.emod_nonneg _ (by decide)
  have hx1 : x < 5 := by rw [← hx]; exact Int.emod_lt_of_pos _ (by decide)
  have hxn : 0 ≤ IntKind.u64.wrap step := by rw [IntKind.wrap_u64]; omega
  have e1 : Int.tmod (IntKind.u64.wrap step) 5 = x := by rw [Int.tmod_eq_emod_of_nonneg hxn]; exact hx
  obtain ⟨b5, hb5⟩ : ∃ b5 : Nat, x + 1 = (b5 : Int) := ⟨(x + 1).toNat, by omega⟩
  have e2 : IntKind.u64.wrap x = x := u64_id _ hx0 (by omega)
  have e3 : IntKind.u64.wrap (x + 1) = (b5 : Int) := by rw [hb5]; exact u64_id _ (by omega) (by omega)
  have e4 : IntKind.u64.wrap (T.length : Int) = (T.length : Int) := u64_id _ (by omega) (by omega)
  have HN : Hid (1 ≤ b5 ∧ b5 ≤ 5 ∧ T.length ≤ 70 ∧ 1 ≤ K ∧ K ≤ 32) := ⟨by omega, by omega, hTl, hK1.1, hK1.2⟩
  clear ht rd hm hK hK1 hT hTl hTs hx hx0 hx1 hxn hb5
  go_enter Tryd.func3, Tryd.ntmps3
  go_upto_region 8 with (first
    | (go_at_call 8; with_reducible refine HA.mono ?_; rintro e w1 ⟨rfl, hb1⟩)
    | (go_at_call 9; with_reducible refine (HSg.out _).mono ?_; rintro e w2 ⟨rfl, rfl⟩)
    | (go_at_call 10; with_reducible refine (HFw.out _ hb1).mono ?_; rintro e w3 ⟨av, bv, cv, rfl, hR3, hb3⟩)
    | (go_at_call 11; with_reducible refine (HGr.out _ _ _ _ (bnext hb1 hb3) hR3).mono ?_; rintro e w4 ⟨rfl, hF4, hb4⟩))
  have hb04 := bnext (bnext hb1 hb3) hb4
  have HF4 := hide hF4
  generalize w3.heap.size = fm at *
  clear HA HSg HFw HGr hF4 hb4 hR3 hb3 hb1
  go_wp2
  go_loopg [11] (T.length + 1) (fun g i wr => ∃ n : Nat, n ≤ T.length + 1 ∧ g = T.length + 1 - n ∧ i = .int .u64 (n : Int) ∧ Hid (Frs wr fm K T ∧ Below w.heap.size w wr))
  case atStart =>
    go_light
    exact ⟨0, Nat.zero_le _, rfl, rfl, HF4.out, hb04⟩
  case round =>
    clear hb04 HF4
    obtain ⟨n, hn, rfl, rfl, HI⟩ := hrel
    by_cases hlt : n ≤ T.length
    · have hz : (n : Int) ≤ (T.length : Int) := by omega
      have hb0 : ¬ (b5 : Int) = 0 := by have := HN.out.1; omega
      obtain ⟨m0, hm0⟩ : ∃ m0 : Nat, n % b5 = m0 := ⟨_, rfl⟩
      have em : Int.tmod (n : Int) (b5 : Int) = (m0 : Int) := by rw [Int.tmod_eq_emod_of_nonneg (by omega), ← hm0]; exact (Int.natCast_emod n b5).symm
      have hm5 : m0 < 5 := by have h1 := Nat.mod_lt n (show 0 < b5 by have := HN.out.1; omega); have := HN.out.2.1; omega
      have em2 : IntKind.u64.wrap (m0 : Int) = (m0 : Int) := u64_id _ (by omega) (by omega)
      clear hm0
      go_wp2
      go_loopg [12] (n + 6 - m0) (fun g i wr => ∃ m : Nat, m ≤ n + 5 ∧ g = n + 6 - m ∧ i = .int .u64 (m : Int) ∧ Hid (Frs wr fm K T ∧ Below w.heap.size w wr))
      case atStart =>
        go_light
        exact ⟨m0, by omega, rfl, rfl, HI.out⟩
      case round =>
        clear HI hm5 em em2
        obtain ⟨m, hm, rfl, rfl, HI⟩ := hrel
        by_cases hmn : m ≤ n
        · have hzm : (m : Int) ≤ (n : Int) := by omega
          obtain ⟨D, hD⟩ : ∃ D, dgKn (clk K) T m n = D := ⟨_, rfl⟩
          obtain ⟨r1, hr1⟩ : ∃ r1, rtD (clk K) T m = r1 := ⟨_, rfl⟩
          obtain ⟨r2, hr2⟩ : ∃ r2, rtD (clk K) T n = r2 := ⟨_, rfl⟩
          have h70 := HN.out.2.2.1
          obtain ⟨hDl, hD1⟩ := cov_len_kb (clk K) T m n hmn (by omega)
          rw [hD] at hDl hD1
          obtain ⟨on, hon⟩ : ∃ on, ones 64 m = on := ⟨_, rfl⟩
          obtain ⟨rl, hrl⟩ : ∃ rl, (cov m n).length = rl := ⟨_, rfl⟩
          rw [hon, hrl] at hDl
          have HE : Hid (m = n → r1 = r2) := fun h => by rw [← hr1, ← hr2, h]
          have HPr := kprove_rd wr fm K T HI.out.1 (by omega) m n hlt hmn D hD
          have HRo : Hid (∀ W da db dc, Below w.heap.size w W → RdS W da db 0 D.length D → D.length ≤ dc → Calls Tryd.prog 13 #[.agg #[.int .i64 3, .int .i64 K, .int .u64 (m : Int), .int .u64 (n : Int), .slice none 0 0, .slice da D.length dc]] W fun e w' => e = .returned (.tuple #[.agg #[.int .u64 (m : Int), .string r1], .agg #[.int .u64 (n : Int), .string r2], .int .i64 0]) ∧ Below W.heap.size W w') := fun W da db dc hb hR hc => kroots_own W (HT.out W hb) K HN.out.2.2.2.1 HN.out.2.2.2.2 T (by omega) m n hlt hmn D hD none 0 da db 0 dc hR hc r1 r2 hr1 hr2
          have HFm : Hid (∀ W, Below wr.heap.size wr W → Calls Tryd.prog 14 #[.pointer (some ⟨fm + 1, 0, none⟩), .int .u64 (m : Int)] W fun e w' => e = .returned (.tuple #[.agg #[.int .u64 (m : Int), .string r1], .int .i64 0]) ∧ Below W.heap.size W w') := fun W hb => froot_ok W (HT.out W (bnext HI.out.2 hb)) fm K T (HI.out.1.next hb (Nat.le_refl _)) m (by omega) r1 (hide hr1)
          have HFn : Hid (∀ W, Below wr.heap.size wr W → Calls Tryd.prog 14 #[.pointer (some ⟨fm + 1, 0, none⟩), .int .u64 (n : Int)] W fun e w' => e = .returned (.tuple #[.agg #[.int .u64 (n : Int), .string r2], .int .i64 0]) ∧ Below W.heap.size W w') := fun W hb => froot_ok W (HT.out W (bnext HI.out.2 hb)) fm K T (HI.out.1.next hb (Nat.le_refl _)) n (by omega) r2 (hide hr2)
          have HRg : Hid (∀ W, Calls Tryd.prog 15 #[.int .u64 (m : Int), .int .u64 (n : Int), .int .u64 (n : Int)] W fun e w' => ∃ ao cap, e = .returned (.tuple #[.slice ao rl cap, .int .i64 0]) ∧ Below W.heap.size W w') := fun W => by
            have h := Cv.range_any m n n W
            rw [(range40 hmn (by omega)).1, (range40 hmn (by omega)).2] at h
            refine h.mono fun e w' ⟨v, e1, e2, e3⟩ => ?_
            obtain ⟨ao, n1, cap, rfl⟩ := Cv.own_slice e2
            have hl := own_len e2
            rw [Cv.zl_len, hrl] at hl
            subst hl
            exact ⟨ao, cap, e1, e3⟩
          have HOn : Hid (∀ W, Calls Tryd.prog 17 #[.int .u64 (m : Int)] W fun e w' => e = .returned (.int .i64 (on : Int)) ∧ W = w') := fun W => by
            have := Pl.ones_any m W (by omega)
            rw [hon] at this
            exact this.mono fun _ _ h => ⟨h.1, h.2.symm⟩
          have hDs : decide ((128 : Int) < (D.length : Int)) = false := decide_eq_false (by omega)
          have hwr : IntKind.i64.wrap ((on : Int) + (rl : Int)) = (D.length : Int) := by rw [IntKind.wrap_i64]; omega
          have HG : Hid (m ≤ n ∧ n ≤ 70) := ⟨hmn, by omega⟩
          clear hD hr1 hr2 h70 hDl hD1 hon hrl hz hm hn hlt hmn hb0
          go_upto_region 17 with (go_at_call 12; with_reducible refine HPr.mono ?_; rintro e w5 ⟨ad, bd, cd, rfl, hR5, hcd, _, _, hb5⟩)
          have x5 := six_new w5 (.int .i64 3) (.int .i64 K) (.int .u64 (m : Int)) (.int .u64 (n : Int)) (.slice none 0 0) (.slice ad D.length cd)
          have hb6 := bal hb5 (.cells #[.int .i64 3, .int .i64 K, .int .u64 (m : Int), .int .u64 (n : Int), .slice none 0 0, .slice ad D.length cd] 32)
          have hR6 := hR5.next (bal (Below.refl w5.heap.size w5) (.cells #[.int .i64 3, .int .i64 K, .int .u64 (m : Int), .int .u64 (n : Int), .slice none 0 0, .slice ad D.length cd] 32)) (Nat.le_refl _)
          obtain ⟨w6, hw6⟩ : ∃ w6, w5.alloc (.cells #[.int .i64 3, .int .i64 K, .int .u64 (m : Int), .int .u64 (n : Int), .slice none 0 0, .slice ad D.length cd] 32) = w6 := ⟨_, rfl⟩
          rw [hw6] at x5 hb6 hR6 ⊢
          obtain ⟨p0, p1, p2, p3, p4, p5⟩ := x5.cells
          clear hw6 hR5
          go_upto_region 18 with (go_at_call 13; with_reducible refine (HRo.out _ _ _ _ (bnext HI.out.2 hb6) hR6 hcd).mono ?_; rintro e w7 ⟨rfl, hb7⟩)
          have y1 := (rh_new w7 m r1).next (bal (Below.refl _ _) (.cells #[.int .u64 (n : Int), .string r2] 37))
          have y2 := rh_new (w7.alloc (.cells #[.int .u64 (m : Int), .string r1] 37)) n r2
          rw [World.size_alloc] at y2
          have hb68 := bal (bal hb7 (.cells #[.int .u64 (m : Int), .string r1] 37)) (.cells #[.int .u64 (n : Int), .string r2] 37)
          obtain ⟨w8, hw8⟩ : ∃ w8, (w7.alloc (.cells #[.int .u64 (m : Int), .string r1] 37)).alloc (.cells #[.int .u64 (n : Int), .string r2] 37) = w8 := ⟨_, rfl⟩
          rw [hw8] at y1 y2 hb68 ⊢
          have hb8 := bnext hb6 hb68
          clear hw8 hb7 p0 p1 p2 p3 p4 p5 HRo
          go_upto_region 21 with (first
            | (go_at_call 14; with_reducible refine (HFn.out _ (bnext hb8 (bal hb9 _))).mono ?_; rintro e w10 ⟨rfl, hb10⟩)
            | (go_at_call 14; with_reducible refine (HFm.out _ hb8).mono ?_; rintro e w9 ⟨rfl, hb9⟩)
            | (go_at_call 15; with_reducible refine (HRg.out _).mono ?_; rintro e w11 ⟨ar, cr, rfl, hb11⟩))
          have t3 := bal (Below.refl w10.heap.size w10) (.cells #[.int .u64 (n : Int), .string r2] 37)
          have t1 := bnext (bnext (bal hb9 (.cells #[.int .u64 (m : Int), .string r1] 37)) hb10) (bnext t3 hb11)
          have y3 := ((rh_new w9 m r1).next hb10).next (bnext t3 hb11)
          have y4 := (rh_new w10 n r2).next hb11
          have y1 := y1.next t1
          have y2 := y2.next t1
          have y5 := x5.next (bnext hb68 t1)
          have hbF := bnext hb8 t1
          generalize w5.heap.size = q5 at *
          generalize w7.heap.size = q7 at *
          generalize w9.heap.size = q9 at *
          generalize w10.heap.size = q10 at *
          have HC : Hid (∀ W, Below w11.heap.size w11 W → Rh W q7 m r1 ∧ Rh W (q7 + 1) n r2 ∧ Rh W q9 m r1 ∧ Rh W q10 n r2 ∧ W.cell? ⟨q5, 5, none⟩ = some (.slice ad D.length cd)) := fun W hb => ⟨y1.next hb, y2.next hb, y3.next hb, y4.next hb, (y5.next hb).cells.2.2.2.2.2⟩
          have HY : Hid (∀ W, Below w11.heap.size w11 W → Frs W fm K T ∧ Below w.heap.size w W) := fun W hb => ⟨HI.out.1.next (bnext hbF hb) (Nat.le_refl _), bnext HI.out.2 (bnext hbF hb)⟩
          clear t1 t3 y1 y2 y3 y4 y5 hbF hb5 hb6 hb68 hb8 hb9 hb10 hb11 hR6 x5 HFm HFn HRg HI HPr
          by_cases hq : m = n
          · have hqr := HE.out hq
            subst hq
            subst hqr
            refine wp_region_planI (by kernel_rfl) [88, 89, 90, 91, 92, 93, 94, 95, 96, 97, 98, 99, 100, 101, 102, 103, 104, 105, 106, 107, 108, 109, 110, 111, 112, 113, 114, 115, 116, 117, 118, 119, 120, 121, 122, 123, 124, 125, 126, 127, 128, 129, 130, 131, 132, 133, 134, 135, 136, 137] [] [.int .i64 0, .int .i64 0, .bool false, .bool false, .int .i64 0, .int .i64 0, .bool false, .bool false, .bool false, .int .i64 0, .int .i64 0, .bool false, .bool false, .bool false, .agg #[.int .u64 (m : Int), .string r1], .agg #[.int .u64 (m : Int), .string r1], .bool false, .bool false, .bool false, .agg #[.int .u64 (m : Int), .string r1], .agg #[.int .u64 (m : Int), .string r1], .bool false, .bool false, .bool false, .pointer (some ⟨q5, 5, none⟩), .slice ad D.length cd, .int .i64 (D.length : Int), .int .u64 (m : Int), .int .i64 (on : Int), .slice ar rl cr, .int .i64 (rl : Int), .int .i64 (D.length : Int), .bool false, .bool false, .bool false, .pointer (some ⟨q5, 5, none⟩), .slice ad D.length cd, .int .i64 (D.length : Int), .bool false, .bool false, .bool false, .int .u64 (m : Int), .int .u64 (m : Int), .bool true, .bool true, .agg #[.int .u64 (m : Int), .string r1], .agg #[.int .u64 (m : Int), .string r1], .bool false, .bool false, .bool false] (by kernel_rfl) rfl (fun j hj => by cases hj) (fun _ W => Below w11.heap.size w11 W) (fun W _ hb => hb) ?step ?fin
            case step =>
              refine ⟨?_, ?_, ?_, ?_, ?_, ?_, ?_, ?_, ?_, ?_, ?_, ?_, ?_, ?_, ?_, ?_, ?_, ?_, ?_, ?_, ?_, ?_, ?_, ?_, ?_, ?_, ?_, ?_, ?_, ?_, ?_, ?_, ?_, ?_, ?_, ?_, ?_, ?_, ?_, ?_, ?_, ?_, ?_, ?_, ?_, ?_, ?_, ?_, ?_, ?_, trivial⟩
              · intro L Ac Wc K hI hj hcl hsm dep hK
                have t14 : Ac.tmps.getD 14 undef = .int .i64 0 := hsm 14 rfl
                show Oper.wp _ _ Ac Wc K _
                go_simp
                exact hK _ _ (.inr rfl) hI
              · intro L Ac Wc K hI hj hcl hsm dep hK
                have t88 : Ac.tmps.getD 88 undef = .int .i64 0 := dep 0 rfl
                show Oper.wp _ _ Ac Wc K _
                go_simp
                refine (num_id _ _).mono ?_
                rintro e w' ⟨rfl, rfl⟩
                exact hK _ _ (.inr rfl) hI
              · intro L Ac Wc K hI hj hcl hsm dep hK
                have t89 : Ac.tmps.getD 89 undef = .int .i64 0 := dep 1 rfl
                show Oper.wp _ _ Ac Wc K _
                go_simp
                exact hK _ _ (.inr rfl) hI
              · intro L Ac Wc K hI hj hcl hsm dep hK
                have t90 : Ac.tmps.getD 90 undef = .bool false := dep 2 rfl
                show Oper.wp _ _ Ac Wc K _
                go_simp
                exact hK _ _ (.inr rfl) hI
              · intro L Ac Wc K hI hj hcl hsm dep hK
                have t17 : Ac.tmps.getD 17 undef = .int .i64 0 := hsm 17 rfl
                refine ⟨false, (show Ac.tmps.getD 91 undef = .bool false from dep 3 rfl), ?_⟩
                rw [if_pos rfl]
                go_simp
                exact hK _ _ (.inr rfl) hI
              · intro L Ac Wc K hI hj hcl hsm dep hK
                have t92 : Ac.tmps.getD 92 undef = .int .i64 0 := dep 4 rfl
                refine ⟨false, (show Ac.tmps.getD 91 undef = .bool false from dep 3 rfl), ?_⟩
                rw [if_pos rfl]
                go_simp
                refine (num_id _ _).mono ?_
                rintro e w' ⟨rfl, rfl⟩
                exact hK _ _ (.inr rfl) hI
              · intro L Ac Wc K hI hj hcl hsm dep hK
                have t93 : Ac.tmps.getD 93 undef = .int .i64 0 := dep 5 rfl
                refine ⟨false, (show Ac.tmps.getD 91 undef = .bool false from dep 3 rfl), ?_⟩
                rw [if_pos rfl]
                go_simp
                exact hK _ _ (.inr rfl) hI
              · intro L Ac Wc K hI hj hcl hsm dep hK
                have t91 : Ac.tmps.getD 91 undef = .bool false := dep 3 rfl
                have t94 : Ac.tmps.getD 94 undef = .bool false := dep 6 rfl
                show Oper.wp _ _ Ac Wc K _
                go_simp
                exact hK _ _ (.inr rfl) hI
              · intro L Ac Wc K hI hj hcl hsm dep hK
                have t95 : Ac.tmps.getD 95 undef = .bool false := dep 7 rfl
                show Oper.wp _ _ Ac Wc K _
                go_simp
                exact hK _ _ (.inr rfl) hI
              · intro L Ac Wc K hI hj hcl hsm dep hK
                have t23 : Ac.tmps.getD 23 undef = .int .i64 0 := hsm 23 rfl
                refine ⟨false, (show Ac.tmps.getD 96 undef = .bool false from dep 8 rfl), ?_⟩
                rw [if_pos rfl]
                go_simp
                exact hK _ _ (.inr rfl) hI
              · intro L Ac Wc K hI hj hcl hsm dep hK
                have t97 : Ac.tmps.getD 97 undef = .int .i64 0 := dep 9 rfl
                refine ⟨false, (show Ac.tmps.getD 96 undef = .bool false from dep 8 rfl), ?_⟩
                rw [if_pos rfl]
                go_simp
                refine (num_id _ _).mono ?_
                rintro e w' ⟨rfl, rfl⟩
                exact hK _ _ (.inr rfl) hI
              · intro L Ac Wc K hI hj hcl hsm dep hK
                have t98 : Ac.tmps.getD 98 undef = .int .i64 0 := dep 10 rfl
                refine ⟨false, (show Ac.tmps.getD 96 undef = .bool false from dep 8 rfl), ?_⟩
                rw [if_pos rfl]
                go_simp
                exact hK _ _ (.inr rfl) hI
              · intro L Ac Wc K hI hj hcl hsm dep hK
                have t96 : Ac.tmps.getD 96 undef = .bool false := dep 8 rfl
                have t99 : Ac.tmps.getD 99 undef = .bool false := dep 11 rfl
                show Oper.wp _ _ Ac Wc K _
                go_simp
                exact hK _ _ (.inr rfl) hI
              · intro L Ac Wc K hI hj hcl hsm dep hK
                have t100 : Ac.tmps.getD 100 undef = .bool false := dep 12 rfl
                show Oper.wp _ _ Ac Wc K _
                go_simp
                exact hK _ _ (.inr rfl) hI
              · intro L Ac Wc K hI hj hcl hsm dep hK
                have t15 : Ac.tmps.getD 15 undef = .pointer (some ⟨q7, 0, none⟩) := hsm 15 rfl
                refine ⟨false, (show Ac.tmps.getD 101 undef = .bool false from dep 13 rfl), ?_⟩
                rw [if_pos rfl]
                obtain ⟨y1, y2, y3, y4, y5⟩ := HC.out Wc hI
                obtain ⟨c1, c2⟩ := y1.cells
                go_simp
                exact hK _ _ (.inr rfl) hI
              · intro L Ac Wc K hI hj hcl hsm dep hK
                have t18 : Ac.tmps.getD 18 undef = .pointer (some ⟨q9, 0, none⟩) := hsm 18 rfl
                refine ⟨false, (show Ac.tmps.getD 101 undef = .bool false from dep 13 rfl), ?_⟩
                rw [if_pos rfl]
                obtain ⟨y1, y2, y3, y4, y5⟩ := HC.out Wc hI
                obtain ⟨c1, c2⟩ := y3.cells
                go_simp
                exact hK _ _ (.inr rfl) hI
              · intro L Ac Wc K hI hj hcl hsm dep hK
                have t102 : Ac.tmps.getD 102 undef = .agg #[.int .u64 (m : Int), .string r1] := dep 14 rfl
                have t103 : Ac.tmps.getD 103 undef = .agg #[.int .u64 (m : Int), .string r1] := dep 15 rfl
                refine ⟨false, (show Ac.tmps.getD 101 undef = .bool false from dep 13 rfl), ?_⟩
                rw [if_pos rfl]
                go_simp
                exact hK _ _ (.inr rfl) hI
              · intro L Ac Wc K hI hj hcl hsm dep hK
                have t101 : Ac.tmps.getD 101 undef = .bool false := dep 13 rfl
                have t104 : Ac.tmps.getD 104 undef = .bool false := dep 16 rfl
                show Oper.wp _ _ Ac Wc K _
                go_simp
                exact hK _ _ (.inr rfl) hI
              · intro L Ac Wc K hI hj hcl hsm dep hK
                have t105 : Ac.tmps.getD 105 undef = .bool false := dep 17 rfl
                show Oper.wp _ _ Ac Wc K _
                go_simp
                exact hK _ _ (.inr rfl) hI
              · intro L Ac Wc K hI hj hcl hsm dep hK
                have t16 : Ac.tmps.getD 16 undef = .pointer (some ⟨q7 + 1, 0, none⟩) := hsm 16 rfl
                refine ⟨false, (show Ac.tmps.getD 106 undef = .bool false from dep 18 rfl), ?_⟩
                rw [if_pos rfl]
                obtain ⟨y1, y2, y3, y4, y5⟩ := HC.out Wc hI
                obtain ⟨c1, c2⟩ := y2.cells
                go_simp
                exact hK _ _ (.inr rfl) hI
              · intro L Ac Wc K hI hj hcl hsm dep hK
                have t20 : Ac.tmps.getD 20 undef = .pointer (some ⟨q10, 0, none⟩) := hsm 20 rfl
                refine ⟨false, (show Ac.tmps.getD 106 undef = .bool false from dep 18 rfl), ?_⟩
                rw [if_pos rfl]
                obtain ⟨y1, y2, y3, y4, y5⟩ := HC.out Wc hI
                obtain ⟨c1, c2⟩ := y4.cells
                go_simp
                exact hK _ _ (.inr rfl) hI
              · intro L Ac Wc K hI hj hcl hsm dep hK
                have t107 : Ac.tmps.getD 107 undef = .agg #[.int .u64 (m : Int), .string r1] := dep 19 rfl
                have t108 : Ac.tmps.getD 108 undef = .agg #[.int .u64 (m : Int), .string r1] := dep 20 rfl
                refine ⟨false, (show Ac.tmps.getD 106 undef = .bool false from dep 18 rfl), ?_⟩
                rw [if_pos rfl]
                go_simp
                exact hK _ _ (.inr rfl) hI
              · intro L Ac Wc K hI hj hcl hsm dep hK
                have t106 : Ac.tmps.getD 106 undef = .bool false := dep 18 rfl
                have t109 : Ac.tmps.getD 109 undef = .bool false := dep 21 rfl
                show Oper.wp _ _ Ac Wc K _
                go_simp
                exact hK _ _ (.inr rfl) hI
              · intro L Ac Wc K hI hj hcl hsm dep hK
                have t110 : Ac.tmps.getD 110 undef = .bool false := dep 22 rfl
                show Oper.wp _ _ Ac Wc K _
                go_simp
                exact hK _ _ (.inr rfl) hI
              · intro L Ac Wc K hI hj hcl hsm dep hK
                have t13 : Ac.tmps.getD 13 undef = .pointer (some ⟨q5, 0, none⟩) := hsm 13 rfl
                refine ⟨false, (show Ac.tmps.getD 111 undef = .bool false from dep 23 rfl), ?_⟩
                rw [if_pos rfl]
                go_simp
                exact hK _ _ (.inr rfl) hI
              · intro L Ac Wc K hI hj hcl hsm dep hK
                have t112 : Ac.tmps.getD 112 undef = .pointer (some ⟨q5, 5, none⟩) := dep 24 rfl
                refine ⟨false, (show Ac.tmps.getD 111 undef = .bool false from dep 23 rfl), ?_⟩
                rw [if_pos rfl]
                obtain ⟨y1, y2, y3, y4, y5⟩ := HC.out Wc hI
                go_simp
                exact hK _ _ (.inr rfl) hI
              · intro L Ac Wc K hI hj hcl hsm dep hK
                have t113 : Ac.tmps.getD 113 undef = .slice ad D.length cd := dep 25 rfl
                refine ⟨false, (show Ac.tmps.getD 111 undef = .bool false from dep 23 rfl), ?_⟩
                rw [if_pos rfl]
                go_simp
                exact hK _ _ (.inr rfl) hI
              · intro L Ac Wc K hI hj hcl hsm dep hK
                have t12 : Ac.tmps.getD 12 undef = .int .u64 (m : Int) := hsm 12 rfl
                refine ⟨false, (show Ac.tmps.getD 111 undef = .bool false from dep 23 rfl), ?_⟩
                rw [if_pos rfl]
                go_simp
                exact hK _ _ (.inr rfl) hI
              · intro L Ac Wc K hI hj hcl hsm dep hK
                have t115 : Ac.tmps.getD 115 undef = .int .u64 (m : Int) := dep 27 rfl
                refine ⟨false, (show Ac.tmps.getD 111 undef = .bool false from dep 23 rfl), ?_⟩
                rw [if_pos rfl]
                go_simp
                refine (HOn.out Wc).mono ?_
                rintro e w' ⟨rfl, rfl⟩
                exact hK _ _ (.inr rfl) hI
              · intro L Ac Wc K hI hj hcl hsm dep hK
                have t22 : Ac.tmps.getD 22 undef = .slice ar rl cr := hsm 22 rfl
                refine ⟨false, (show Ac.tmps.getD 111 undef = .bool false from dep 23 rfl), ?_⟩
                rw [if_pos rfl]
                go_simp
                exact hK _ _ (.inr rfl) hI
              · intro L Ac Wc K hI hj hcl hsm dep hK
                have t117 : Ac.tmps.getD 117 undef = .slice ar rl cr := dep 29 rfl
                refine ⟨false, (show Ac.tmps.getD 111 undef = .bool false from dep 23 rfl), ?_⟩
                rw [if_pos rfl]
                go_simp
                exact hK _ _ (.inr rfl) hI
              · intro L Ac Wc K hI hj hcl hsm dep hK
                have t116 : Ac.tmps.getD 116 undef = .int .i64 (on : Int) := dep 28 rfl
                have t118 : Ac.tmps.getD 118 undef = .int .i64 (rl : Int) := dep 30 rfl
                refine ⟨false, (show Ac.tmps.getD 111 undef = .bool false from dep 23 rfl), ?_⟩
                rw [if_pos rfl]
                go_simp
                exact hK _ _ (.inr rfl) hI
              · intro L Ac Wc K hI hj hcl hsm dep hK
                have t114 : Ac.tmps.getD 114 undef = .int .i64 (D.length : Int) := dep 26 rfl
                have t119 : Ac.tmps.getD 119 undef = .int .i64 (D.length : Int) := dep 31 rfl
                refine ⟨false, (show Ac.tmps.getD 111 undef = .bool false from dep 23 rfl), ?_⟩
                rw [if_pos rfl]
                go_simp
                exact hK _ _ (.inr rfl) hI
              · intro L Ac Wc K hI hj hcl hsm dep hK
                have t111 : Ac.tmps.getD 111 undef = .bool false := dep 23 rfl
                have t120 : Ac.tmps.getD 120 undef = .bool false := dep 32 rfl
                show Oper.wp _ _ Ac Wc K _
                go_simp
                exact hK _ _ (.inr rfl) hI
              · intro L Ac Wc K hI hj hcl hsm dep hK
                have t121 : Ac.tmps.getD 121 undef = .bool false := dep 33 rfl
                show Oper.wp _ _ Ac Wc K _
                go_simp
                exact hK _ _ (.inr rfl) hI
              · intro L Ac Wc K hI hj hcl hsm dep hK
                have t13 : Ac.tmps.getD 13 undef = .pointer (some ⟨q5, 0, none⟩) := hsm 13 rfl
                refine ⟨false, (show Ac.tmps.getD 122 undef = .bool false from dep 34 rfl), ?_⟩
                rw [if_pos rfl]
                go_simp
                exact hK _ _ (.inr rfl) hI
              · intro L Ac Wc K hI hj hcl hsm dep hK
                have t123 : Ac.tmps.getD 123 undef = .pointer (some ⟨q5, 5, none⟩) := dep 35 rfl
                refine ⟨false, (show Ac.tmps.getD 122 undef = .bool false from dep 34 rfl), ?_⟩
                rw [if_pos rfl]
                obtain ⟨y1, y2, y3, y4, y5⟩ := HC.out Wc hI
                go_simp
                exact hK _ _ (.inr rfl) hI
              · intro L Ac Wc K hI hj hcl hsm dep hK
                have t124 : Ac.tmps.getD 124 undef = .slice ad D.length cd := dep 36 rfl
                refine ⟨false, (show Ac.tmps.getD 122 undef = .bool false from dep 34 rfl), ?_⟩
                rw [if_pos rfl]
                go_simp
                exact hK _ _ (.inr rfl) hI
              · intro L Ac Wc K hI hj hcl hsm dep hK
                have t125 : Ac.tmps.getD 125 undef = .int .i64 (D.length : Int) := dep 37 rfl
                refine ⟨false, (show Ac.tmps.getD 122 undef = .bool false from dep 34 rfl), ?_⟩
                rw [if_pos rfl]
                go_simp
                exact hK _ _ (.inr rfl) hI
              · intro L Ac Wc K hI hj hcl hsm dep hK
                have t122 : Ac.tmps.getD 122 undef = .bool false := dep 34 rfl
                have t126 : Ac.tmps.getD 126 undef = .bool false := dep 38 rfl
                show Oper.wp _ _ Ac Wc K _
                go_simp
                exact hK _ _ (.inr rfl) hI
              · intro L Ac Wc K hI hj hcl hsm dep hK
                have t127 : Ac.tmps.getD 127 undef = .bool false := dep 39 rfl
                show Oper.wp _ _ Ac Wc K _
                go_simp
                exact hK _ _ (.inr rfl) hI
              · intro L Ac Wc K hI hj hcl hsm dep hK
                have t12 : Ac.tmps.getD 12 undef = .int .u64 (m : Int) := hsm 12 rfl
                refine ⟨false, (show Ac.tmps.getD 128 undef = .bool false from dep 40 rfl), ?_⟩
                rw [if_pos rfl]
                go_simp
                exact hK _ _ (.inr rfl) hI
              · intro L Ac Wc K hI hj hcl hsm dep hK
                have t11 : Ac.tmps.getD 11 undef = .int .u64 (m : Int) := hsm 11 rfl
                refine ⟨false, (show Ac.tmps.getD 128 undef = .bool false from dep 40 rfl), ?_⟩
                rw [if_pos rfl]
                go_simp
                exact hK _ _ (.inr rfl) hI
              · intro L Ac Wc K hI hj hcl hsm dep hK
                have t129 : Ac.tmps.getD 129 undef = .int .u64 (m : Int) := dep 41 rfl
                have t130 : Ac.tmps.getD 130 undef = .int .u64 (m : Int) := dep 42 rfl
                refine ⟨false, (show Ac.tmps.getD 128 undef = .bool false from dep 40 rfl), ?_⟩
                rw [if_pos rfl]
                go_simp
                exact hK _ _ (.inr rfl) hI
              · intro L Ac Wc K hI hj hcl hsm dep hK
                have t131 : Ac.tmps.getD 131 undef = .bool true := dep 43 rfl
                refine ⟨false, (show Ac.tmps.getD 128 undef = .bool false from dep 40 rfl), ?_⟩
                rw [if_pos rfl]
                go_simp
                exact hK _ _ (.inr rfl) hI
              · intro L Ac Wc K hI hj hcl hsm dep hK
                have t15 : Ac.tmps.getD 15 undef = .pointer (some ⟨q7, 0, none⟩) := hsm 15 rfl
                refine ⟨true, (show Ac.tmps.getD 132 undef = .bool true from dep 44 rfl), ?_⟩
                rw [if_pos rfl]
                obtain ⟨y1, y2, y3, y4, y5⟩ := HC.out Wc hI
                obtain ⟨c1, c2⟩ := y1.cells
                go_simp
                exact hK _ _ (.inr rfl) hI
              · intro L Ac Wc K hI hj hcl hsm dep hK
                have t16 : Ac.tmps.getD 16 undef = .pointer (some ⟨q7 + 1, 0, none⟩) := hsm 16 rfl
                refine ⟨true, (show Ac.tmps.getD 132 undef = .bool true from dep 44 rfl), ?_⟩
                rw [if_pos rfl]
                obtain ⟨y1, y2, y3, y4, y5⟩ := HC.out Wc hI
                obtain ⟨c1, c2⟩ := y2.cells
                go_simp
                exact hK _ _ (.inr rfl) hI
              · intro L Ac Wc K hI hj hcl hsm dep hK
                have t133 : Ac.tmps.getD 133 undef = .agg #[.int .u64 (m : Int), .string r1] := dep 45 rfl
                have t134 : Ac.tmps.getD 134 undef = .agg #[.int .u64 (m : Int), .string r1] := dep 46 rfl
                refine ⟨true, (show Ac.tmps.getD 132 undef = .bool true from dep 44 rfl), ?_⟩
                rw [if_pos rfl]
                go_simp
                exact hK _ _ (.inr rfl) hI
              · intro L Ac Wc K hI hj hcl hsm dep hK
                have t132 : Ac.tmps.getD 132 undef = .bool true := dep 44 rfl
                have t135 : Ac.tmps.getD 135 undef = .bool false := dep 47 rfl
                refine ⟨false, (show Ac.tmps.getD 128 undef = .bool false from dep 40 rfl), ?_⟩
                rw [if_pos rfl]
                go_simp
                exact hK _ _ (.inr rfl) hI
              · intro L Ac Wc K hI hj hcl hsm dep hK
                have t128 : Ac.tmps.getD 128 undef = .bool false := dep 40 rfl
                have t136 : Ac.tmps.getD 136 undef = .bool false := dep 48 rfl
                show Oper.wp _ _ Ac Wc K _
                go_simp
                exact hK _ _ (.inr rfl) hI
            case fin =>
              intro L w12 hall hI
              clear hall
              have hY := HY.out w12 hI
              have hb1 := HN.out.1
              have hb2 := HN.out.2.1
              have hg := HG.out
              have ew : IntKind.u64.wrap ((m : Int) + (b5 : Int)) = ((m + b5 : Nat) : Int) := by rw [IntKind.wrap_u64]; omega
              have HZ := hide (And.intro hY (And.intro hb1 (And.intro hb2 hg)))
              clear hY hb1 hb2 hg HC HY hI HOn
              simp only [puts]
              go_simp
              go_wp2
              go_roundg (m + 6 - (m + b5))
              case rel =>
                go_light
                exact ⟨m + b5, by have := HZ.out.2.2.1; omega, rfl, rfl, HZ.out.1⟩
              case measure => go_light; have := HZ.out.2.1; omega
          · have hqz : ((m : Int) == (n : Int)) = false := beq_false_of_ne (by omega)
            refine wp_region_planI (by kernel_rfl) [88, 89, 90, 91, 92, 93, 94, 95, 96, 97, 98, 99, 100, 101, 102, 103, 104, 105, 106, 107, 108, 109, 110, 111, 112, 113, 114, 115, 116, 117, 118, 119, 120, 121, 122, 123, 124, 125, 126, 127, 128, 129, 130, 131, 132, 133, 134, 135, 136, 137] [] [.int .i64 0, .int .i64 0, .bool false, .bool false, .int .i64 0, .int .i64 0, .bool false, .bool false, .bool false, .int .i64 0, .int .i64 0, .bool false, .bool false, .bool false, .agg #[.int .u64 (m : Int), .string r1], .agg #[.int .u64 (m : Int), .string r1], .bool false, .bool false, .bool false, .agg #[.int .u64 (n : Int), .string r2], .agg #[.int .u64 (n : Int), .string r2], .bool false, .bool false, .bool false, .pointer (some ⟨q5, 5, none⟩), .slice ad D.length cd, .int .i64 (D.length : Int), .int .u64 (m : Int), .int .i64 (on : Int), .slice ar rl cr, .int .i64 (rl : Int), .int .i64 (D.length : Int), .bool false, .bool false, .bool false, .pointer (some ⟨q5, 5, none⟩), .slice ad D.length cd, .int .i64 (D.length : Int), .bool false, .bool false, .bool false, .int .u64 (m : Int), .int .u64 (n : Int), .bool false, .bool false, undef, undef, undef, .bool false, .bool false] (by kernel_rfl) rfl (fun j hj => by cases hj) (fun _ W => Below w11.heap.size w11 W) (fun W _ hb => hb) ?step ?fin
            case step =>
              refine ⟨?_, ?_, ?_, ?_, ?_, ?_, ?_, ?_, ?_, ?_, ?_, ?_, ?_, ?_, ?_, ?_, ?_, ?_, ?_, ?_, ?_, ?_, ?_, ?_, ?_, ?_, ?_, ?_, ?_, ?_, ?_, ?_, ?_, ?_, ?_, ?_, ?_, ?_, ?_, ?_, ?_, ?_, ?_, ?_, ?_, ?_, ?_, ?_, ?_, ?_, trivial⟩
              · intro L Ac Wc K hI hj hcl hsm dep hK
                have t14 : Ac.tmps.getD 14 undef = .int .i64 0 := hsm 14 rfl
                show Oper.wp _ _ Ac Wc K _
                go_simp
                exact hK _ _ (.inr rfl) hI
              · intro L Ac Wc K hI hj hcl hsm dep hK
                have t88 : Ac.tmps.getD 88 undef = .int .i64 0 := dep 0 rfl
                show Oper.wp _ _ Ac Wc K _
                go_simp
                refine (num_id _ _).mono ?_
                rintro e w' ⟨rfl, rfl⟩
                exact hK _ _ (.inr rfl) hI
              · intro L Ac Wc K hI hj hcl hsm dep hK
                have t89 : Ac.tmps.getD 89 undef = .int .i64 0 := dep 1 rfl
                show Oper.wp _ _ Ac Wc K _
                go_simp
                exact hK _ _ (.inr rfl) hI
              · intro L Ac Wc K hI hj hcl hsm dep hK
                have t90 : Ac.tmps.getD 90 undef = .bool false := dep 2 rfl
                show Oper.wp _ _ Ac Wc K _
                go_simp
                exact hK _ _ (.inr rfl) hI
              · intro L Ac Wc K hI hj hcl hsm dep hK
                have t17 : Ac.tmps.getD 17 undef = .int .i64 0 := hsm 17 rfl
                refine ⟨false, (show Ac.tmps.getD 91 undef = .bool false from dep 3 rfl), ?_⟩
                rw [if_pos rfl]
                go_simp
                exact hK _ _ (.inr rfl) hI
              · intro L Ac Wc K hI hj hcl hsm dep hK
                have t92 : Ac.tmps.getD 92 undef = .int .i64 0 := dep 4 rfl
                refine ⟨false, (show Ac.tmps.getD 91 undef = .bool false from dep 3 rfl), ?_⟩
                rw [if_pos rfl]
                go_simp
                refine (num_id _ _).mono ?_
                rintro e w' ⟨rfl, rfl⟩
                exact hK _ _ (.inr rfl) hI
              · intro L Ac Wc K hI hj hcl hsm dep hK
                have t93 : Ac.tmps.getD 93 undef = .int .i64 0 := dep 5 rfl
                refine ⟨false, (show Ac.tmps.getD 91 undef = .bool false from dep 3 rfl), ?_⟩
                rw [if_pos rfl]
                go_simp
                exact hK _ _ (.inr rfl) hI
              · intro L Ac Wc K hI hj hcl hsm dep hK
                have t91 : Ac.tmps.getD 91 undef = .bool false := dep 3 rfl
                have t94 : Ac.tmps.getD 94 undef = .bool false := dep 6 rfl
                show Oper.wp _ _ Ac Wc K _
                go_simp
                exact hK _ _ (.inr rfl) hI
              · intro L Ac Wc K hI hj hcl hsm dep hK
                have t95 : Ac.tmps.getD 95 undef = .bool false := dep 7 rfl
                show Oper.wp _ _ Ac Wc K _
                go_simp
                exact hK _ _ (.inr rfl) hI
              · intro L Ac Wc K hI hj hcl hsm dep hK
                have t23 : Ac.tmps.getD 23 undef = .int .i64 0 := hsm 23 rfl
                refine ⟨false, (show Ac.tmps.getD 96 undef = .bool false from dep 8 rfl), ?_⟩
                rw [if_pos rfl]
                go_simp
                exact hK _ _ (.inr rfl) hI
              · intro L Ac Wc K hI hj hcl hsm dep hK
                have t97 : Ac.tmps.getD 97 undef = .int .i64 0 := dep 9 rfl
                refine ⟨false, (show Ac.tmps.getD 96 undef = .bool false from dep 8 rfl), ?_⟩
                rw [if_pos rfl]
                go_simp
                refine (num_id _ _).mono ?_
                rintro e w' ⟨rfl, rfl⟩
                exact hK _ _ (.inr rfl) hI
              · intro L Ac Wc K hI hj hcl hsm dep hK
                have t98 : Ac.tmps.getD 98 undef = .int .i64 0 := dep 10 rfl
                refine ⟨false, (show Ac.tmps.getD 96 undef = .bool false from dep 8 rfl), ?_⟩
                rw [if_pos rfl]
                go_simp
                exact hK _ _ (.inr rfl) hI
              · intro L Ac Wc K hI hj hcl hsm dep hK
                have t96 : Ac.tmps.getD 96 undef = .bool false := dep 8 rfl
                have t99 : Ac.tmps.getD 99 undef = .bool false := dep 11 rfl
                show Oper.wp _ _ Ac Wc K _
                go_simp
                exact hK _ _ (.inr rfl) hI
              · intro L Ac Wc K hI hj hcl hsm dep hK
                have t100 : Ac.tmps.getD 100 undef = .bool false := dep 12 rfl
                show Oper.wp _ _ Ac Wc K _
                go_simp
                exact hK _ _ (.inr rfl) hI
              · intro L Ac Wc K hI hj hcl hsm dep hK
                have t15 : Ac.tmps.getD 15 undef = .pointer (some ⟨q7, 0, none⟩) := hsm 15 rfl
                refine ⟨false, (show Ac.tmps.getD 101 undef = .bool false from dep 13 rfl), ?_⟩
                rw [if_pos rfl]
                obtain ⟨y1, y2, y3, y4, y5⟩ := HC.out Wc hI
                obtain ⟨c1, c2⟩ := y1.cells
                go_simp
                exact hK _ _ (.inr rfl) hI
              · intro L Ac Wc K hI hj hcl hsm dep hK
                have t18 : Ac.tmps.getD 18 undef = .pointer (some ⟨q9, 0, none⟩) := hsm 18 rfl
                refine ⟨false, (show Ac.tmps.getD 101 undef = .bool false from dep 13 rfl), ?_⟩
                rw [if_pos rfl]
                obtain ⟨y1, y2, y3, y4, y5⟩ := HC.out Wc hI
                obtain ⟨c1, c2⟩ := y3.cells
                go_simp
                exact hK _ _ (.inr rfl) hI
              · intro L Ac Wc K hI hj hcl hsm dep hK
                have t102 : Ac.tmps.getD 102 undef = .agg #[.int .u64 (m : Int), .string r1] := dep 14 rfl
                have t103 : Ac.tmps.getD 103 undef = .agg #[.int .u64 (m : Int), .string r1] := dep 15 rfl
                refine ⟨false, (show Ac.tmps.getD 101 undef = .bool false from dep 13 rfl), ?_⟩
                rw [if_pos rfl]
                go_simp
                exact hK _ _ (.inr rfl) hI
              · intro L Ac Wc K hI hj hcl hsm dep hK
                have t101 : Ac.tmps.getD 101 undef = .bool false := dep 13 rfl
                have t104 : Ac.tmps.getD 104 undef = .bool false := dep 16 rfl
                show Oper.wp _ _ Ac Wc K _
                go_simp
                exact hK _ _ (.inr rfl) hI
              · intro L Ac Wc K hI hj hcl hsm dep hK
                have t105 : Ac.tmps.getD 105 undef = .bool false := dep 17 rfl
                show Oper.wp _ _ Ac Wc K _
                go_simp
                exact hK _ _ (.inr rfl) hI
              · intro L Ac Wc K hI hj hcl hsm dep hK
                have t16 : Ac.tmps.getD 16 undef = .pointer (some ⟨q7 + 1, 0, none⟩) := hsm 16 rfl
                refine ⟨false, (show Ac.tmps.getD 106 undef = .bool false from dep 18 rfl), ?_⟩
                rw [if_pos rfl]
                obtain ⟨y1, y2, y3, y4, y5⟩ := HC.out Wc hI
                obtain ⟨c1, c2⟩ := y2.cells
                go_simp
                exact hK _ _ (.inr rfl) hI
              · intro L Ac Wc K hI hj hcl hsm dep hK
                have t20 : Ac.tmps.getD 20 undef = .pointer (some ⟨q10, 0, none⟩) := hsm 20 rfl
                refine ⟨false, (show Ac.tmps.getD 106 undef = .bool false from dep 18 rfl), ?_⟩
                rw [if_pos rfl]
                obtain ⟨y1, y2, y3, y4, y5⟩ := HC.out Wc hI
                obtain ⟨c1, c2⟩ := y4.cells
                go_simp
                exact hK _ _ (.inr rfl) hI
              · intro L Ac Wc K hI hj hcl hsm dep hK
                have t107 : Ac.tmps.getD 107 undef = .agg #[.int .u64 (n : Int), .string r2] := dep 19 rfl
                have t108 : Ac.tmps.getD 108 undef = .agg #[.int .u64 (n : Int), .string r2] := dep 20 rfl
                refine ⟨false, (show Ac.tmps.getD 106 undef = .bool false from dep 18 rfl), ?_⟩
                rw [if_pos rfl]
                go_simp
                exact hK _ _ (.inr rfl) hI
              · intro L Ac Wc K hI hj hcl hsm dep hK
                have t106 : Ac.tmps.getD 106 undef = .bool false := dep 18 rfl
                have t109 : Ac.tmps.getD 109 undef = .bool false := dep 21 rfl
                show Oper.wp _ _ Ac Wc K _
                go_simp
                exact hK _ _ (.inr rfl) hI
              · intro L Ac Wc K hI hj hcl hsm dep hK
                have t110 : Ac.tmps.getD 110 undef = .bool false := dep 22 rfl
                show Oper.wp _ _ Ac Wc K _
                go_simp
                exact hK _ _ (.inr rfl) hI
              · intro L Ac Wc K hI hj hcl hsm dep hK
                have t13 : Ac.tmps.getD 13 undef = .pointer (some ⟨q5, 0, none⟩) := hsm 13 rfl
                refine ⟨false, (show Ac.tmps.getD 111 undef = .bool false from dep 23 rfl), ?_⟩
                rw [if_pos rfl]
                go_simp
                exact hK _ _ (.inr rfl) hI
              · intro L Ac Wc K hI hj hcl hsm dep hK
                have t112 : Ac.tmps.getD 112 undef = .pointer (some ⟨q5, 5, none⟩) := dep 24 rfl
                refine ⟨false, (show Ac.tmps.getD 111 undef = .bool false from dep 23 rfl), ?_⟩
                rw [if_pos rfl]
                obtain ⟨y1, y2, y3, y4, y5⟩ := HC.out Wc hI
                go_simp
                exact hK _ _ (.inr rfl) hI
              · intro L Ac Wc K hI hj hcl hsm dep hK
                have t113 : Ac.tmps.getD 113 undef = .slice ad D.length cd := dep 25 rfl
                refine ⟨false, (show Ac.tmps.getD 111 undef = .bool false from dep 23 rfl), ?_⟩
                rw [if_pos rfl]
                go_simp
                exact hK _ _ (.inr rfl) hI
              · intro L Ac Wc K hI hj hcl hsm dep hK
                have t12 : Ac.tmps.getD 12 undef = .int .u64 (m : Int) := hsm 12 rfl
                refine ⟨false, (show Ac.tmps.getD 111 undef = .bool false from dep 23 rfl), ?_⟩
                rw [if_pos rfl]
                go_simp
                exact hK _ _ (.inr rfl) hI
              · intro L Ac Wc K hI hj hcl hsm dep hK
                have t115 : Ac.tmps.getD 115 undef = .int .u64 (m : Int) := dep 27 rfl
                refine ⟨false, (show Ac.tmps.getD 111 undef = .bool false from dep 23 rfl), ?_⟩
                rw [if_pos rfl]
                go_simp
                refine (HOn.out Wc).mono ?_
                rintro e w' ⟨rfl, rfl⟩
                exact hK _ _ (.inr rfl) hI
              · intro L Ac Wc K hI hj hcl hsm dep hK
                have t22 : Ac.tmps.getD 22 undef = .slice ar rl cr := hsm 22 rfl
                refine ⟨false, (show Ac.tmps.getD 111 undef = .bool false from dep 23 rfl), ?_⟩
                rw [if_pos rfl]
                go_simp
                exact hK _ _ (.inr rfl) hI
              · intro L Ac Wc K hI hj hcl hsm dep hK
                have t117 : Ac.tmps.getD 117 undef = .slice ar rl cr := dep 29 rfl
                refine ⟨false, (show Ac.tmps.getD 111 undef = .bool false from dep 23 rfl), ?_⟩
                rw [if_pos rfl]
                go_simp
                exact hK _ _ (.inr rfl) hI
              · intro L Ac Wc K hI hj hcl hsm dep hK
                have t116 : Ac.tmps.getD 116 undef = .int .i64 (on : Int) := dep 28 rfl
                have t118 : Ac.tmps.getD 118 undef = .int .i64 (rl : Int) := dep 30 rfl
                refine ⟨false, (show Ac.tmps.getD 111 undef = .bool false from dep 23 rfl), ?_⟩
                rw [if_pos rfl]
                go_simp
                exact hK _ _ (.inr rfl) hI
              · intro L Ac Wc K hI hj hcl hsm dep hK
                have t114 : Ac.tmps.getD 114 undef = .int .i64 (D.length : Int) := dep 26 rfl
                have t119 : Ac.tmps.getD 119 undef = .int .i64 (D.length : Int) := dep 31 rfl
                refine ⟨false, (show Ac.tmps.getD 111 undef = .bool false from dep 23 rfl), ?_⟩
                rw [if_pos rfl]
                go_simp
                exact hK _ _ (.inr rfl) hI
              · intro L Ac Wc K hI hj hcl hsm dep hK
                have t111 : Ac.tmps.getD 111 undef = .bool false := dep 23 rfl
                have t120 : Ac.tmps.getD 120 undef = .bool false := dep 32 rfl
                show Oper.wp _ _ Ac Wc K _
                go_simp
                exact hK _ _ (.inr rfl) hI
              · intro L Ac Wc K hI hj hcl hsm dep hK
                have t121 : Ac.tmps.getD 121 undef = .bool false := dep 33 rfl
                show Oper.wp _ _ Ac Wc K _
                go_simp
                exact hK _ _ (.inr rfl) hI
              · intro L Ac Wc K hI hj hcl hsm dep hK
                have t13 : Ac.tmps.getD 13 undef = .pointer (some ⟨q5, 0, none⟩) := hsm 13 rfl
                refine ⟨false, (show Ac.tmps.getD 122 undef = .bool false from dep 34 rfl), ?_⟩
                rw [if_pos rfl]
                go_simp
                exact hK _ _ (.inr rfl) hI
              · intro L Ac Wc K hI hj hcl hsm dep hK
                have t123 : Ac.tmps.getD 123 undef = .pointer (some ⟨q5, 5, none⟩) := dep 35 rfl
                refine ⟨false, (show Ac.tmps.getD 122 undef = .bool false from dep 34 rfl), ?_⟩
                rw [if_pos rfl]
                obtain ⟨y1, y2, y3, y4, y5⟩ := HC.out Wc hI
                go_simp
                exact hK _ _ (.inr rfl) hI
              · intro L Ac Wc K hI hj hcl hsm dep hK
                have t124 : Ac.tmps.getD 124 undef = .slice ad D.length cd := dep 36 rfl
                refine ⟨false, (show Ac.tmps.getD 122 undef = .bool false from dep 34 rfl), ?_⟩
                rw [if_pos rfl]
                go_simp
                exact hK _ _ (.inr rfl) hI
              · intro L Ac Wc K hI hj hcl hsm dep hK
                have t125 : Ac.tmps.getD 125 undef = .int .i64 (D.length : Int) := dep 37 rfl
                refine ⟨false, (show Ac.tmps.getD 122 undef = .bool false from dep 34 rfl), ?_⟩
                rw [if_pos rfl]
                go_simp
                exact hK _ _ (.inr rfl) hI
              · intro L Ac Wc K hI hj hcl hsm dep hK
                have t122 : Ac.tmps.getD 122 undef = .bool false := dep 34 rfl
                have t126 : Ac.tmps.getD 126 undef = .bool false := dep 38 rfl
                show Oper.wp _ _ Ac Wc K _
                go_simp
                exact hK _ _ (.inr rfl) hI
              · intro L Ac Wc K hI hj hcl hsm dep hK
                have t127 : Ac.tmps.getD 127 undef = .bool false := dep 39 rfl
                show Oper.wp _ _ Ac Wc K _
                go_simp
                exact hK _ _ (.inr rfl) hI
              · intro L Ac Wc K hI hj hcl hsm dep hK
                have t12 : Ac.tmps.getD 12 undef = .int .u64 (m : Int) := hsm 12 rfl
                refine ⟨false, (show Ac.tmps.getD 128 undef = .bool false from dep 40 rfl), ?_⟩
                rw [if_pos rfl]
                go_simp
                exact hK _ _ (.inr rfl) hI
              · intro L Ac Wc K hI hj hcl hsm dep hK
                have t11 : Ac.tmps.getD 11 undef = .int .u64 (n : Int) := hsm 11 rfl
                refine ⟨false, (show Ac.tmps.getD 128 undef = .bool false from dep 40 rfl), ?_⟩
                rw [if_pos rfl]
                go_simp
                exact hK _ _ (.inr rfl) hI
              · intro L Ac Wc K hI hj hcl hsm dep hK
                have t129 : Ac.tmps.getD 129 undef = .int .u64 (m : Int) := dep 41 rfl
                have t130 : Ac.tmps.getD 130 undef = .int .u64 (n : Int) := dep 42 rfl
                refine ⟨false, (show Ac.tmps.getD 128 undef = .bool false from dep 40 rfl), ?_⟩
                rw [if_pos rfl]
                go_simp
                exact hK _ _ (.inr rfl) hI
              · intro L Ac Wc K hI hj hcl hsm dep hK
                have t131 : Ac.tmps.getD 131 undef = .bool false := dep 43 rfl
                refine ⟨false, (show Ac.tmps.getD 128 undef = .bool false from dep 40 rfl), ?_⟩
                rw [if_pos rfl]
                go_simp
                exact hK _ _ (.inr rfl) hI
              · intro L Ac Wc K hI hj hcl hsm dep hK
                refine ⟨false, (show Ac.tmps.getD 132 undef = .bool false from dep 44 rfl), ?_⟩
                rw [if_neg (by decide)]
                exact hK _ _ (.inr rfl) hI
              · intro L Ac Wc K hI hj hcl hsm dep hK
                refine ⟨false, (show Ac.tmps.getD 132 undef = .bool false from dep 44 rfl), ?_⟩
                rw [if_neg (by decide)]
                exact hK _ _ (.inr rfl) hI
              · intro L Ac Wc K hI hj hcl hsm dep hK
                refine ⟨false, (show Ac.tmps.getD 132 undef = .bool false from dep 44 rfl), ?_⟩
                rw [if_neg (by decide)]
                exact hK _ _ (.inr rfl) hI
              · intro L Ac Wc K hI hj hcl hsm dep hK
                have t132 : Ac.tmps.getD 132 undef = .bool false := dep 44 rfl
                have t135 : Ac.tmps.getD 135 undef = undef := dep 47 rfl
                refine ⟨false, (show Ac.tmps.getD 128 undef = .bool false from dep 40 rfl), ?_⟩
                rw [if_pos rfl]
                go_simp
                exact hK _ _ (.inr rfl) hI
              · intro L Ac Wc K hI hj hcl hsm dep hK
                have t128 : Ac.tmps.getD 128 undef = .bool false := dep 40 rfl
                have t136 : Ac.tmps.getD 136 undef = .bool false := dep 48 rfl
                show Oper.wp _ _ Ac Wc K _
                go_simp
                exact hK _ _ (.inr rfl) hI
            case fin =>
              intro L w12 hall hI
              clear hall
              have hY := HY.out w12 hI
              have hb1 := HN.out.1
              have hb2 := HN.out.2.1
              have hg := HG.out
              have ew : IntKind.u64.wrap ((m : Int) + (b5 : Int)) = ((m + b5 : Nat) : Int) := by rw [IntKind.wrap_u64]; omega
              have HZ := hide (And.intro hY (And.intro hb1 (And.intro hb2 hg)))
              clear hY hb1 hb2 hg HC HY hI HOn
              simp only [puts]
              go_simp
              go_wp2
              go_roundg (n + 6 - (m + b5))
              case rel =>
                go_light
                exact ⟨m + b5, by have := HZ.out.2.2.1; have := HZ.out.2.2.2; omega, rfl, rfl, HZ.out.1⟩
              case measure => go_light; have := HZ.out.2.1; have := HZ.out.2.2.2; omega
        · have hzm : ¬ (m : Int) ≤ (n : Int) := by omega
          have ew : IntKind.u64.wrap ((n : Int) + 1) = ((n + 1 : Nat) : Int) := by have := HN.out.2.2.1; rw [IntKind.wrap_u64]; omega
          go_wp2
          go_roundg (T.length + 1 - (n + 1))
          case rel =>
            go_light
            exact ⟨n + 1, by omega, rfl, rfl, HI.out⟩
          case measure => go_light; omega
    · have hz : ¬ (n : Int) ≤ (T.length : Int) := by omega
      have HB := hide HI.out.2
      clear HI
      go_wp2
      go_ret
      exact ⟨rfl, HB.out⟩
end Go.Proofs.YtdkcliblbaldhaaDoor
