/-
  The walk of HashBags. Own work.
-/
import Derived.Test.YtelbnmfdeibdaaaDoorHWalkD
import Derived.Test.YtelbnmfdeibdaaaDoorPlan
namespace Go.Proofs.YtelbnmfdeibdaaaDoor
open Go.RowKit
attribute [local go_sem ↓] Go.wp_at_zero Go.wp_at_succ
theorem RdS.drop {w : World} {ao : Option Addr} {b off len : Nat} {ss : List ByteArray} (h : RdS w ao b off len ss) (i : Nat) : RdS w (some ⟨b, off + i, none⟩) b (off + i) (len - i) (ss.drop i) := by
  refine ⟨by rw [List.length_drop, h.hl], fun _ => rfl, fun j v hv => ?_, fun s hs => h.sz s (List.mem_of_mem_drop hs)⟩
  rw [List.map_drop, List.getElem?_drop] at hv
  rw [Nat.add_assoc]
  exact h.rng (i + j) v hv
set_option maxRecDepth 100000 in
set_option maxHeartbeats 4000000 in
theorem bags_some (w : World) (ht : Tb w) (k : Int) (b off m cap : Nat) (ss : List ByteArray) (hr : RdS w (some ⟨b, off, none⟩) b off (m + 1) ss) (hsz : ∀ s ∈ ss, s.size ≤ 140737488351232) (hmx : m + 1 ≤ 8796093022208) (hcap : m + 1 ≤ cap) :
    Calls Tryd.prog 4 #[.int .i64 k, .slice (some ⟨b, off, none⟩) (m + 1) cap] w fun e w' => e = .returned (.bool true) ∧ Below w.heap.size w w' := by
  have HA : Hid (∀ W, Below w.heap.size w W → Calls Tryd.prog 8 #[] W fun e w' => e = .returned (.bool true) ∧ Below W.heap.size W w') := fun W hb => alive_any W (ht.next hb)
  have hne : ¬ ((m : Int) + 1 = 0) := by omega
  have hb := Below.refl w.heap.size w
  have HT : Hid (Tb w) := ht
  have HRw : Hid (RdS w (some ⟨b, off, none⟩) b off (m + 1) ss) := hr
  have HSz : Hid (∀ s ∈ ss, s.size ≤ 140737488351232) := hsz
  clear ht hr hsz
  go_enter Tryd.func4, Tryd.ntmps4
  go_wp2_with (go_at_call 8; with_reducible refine (HA.out _ hb).mono ?_; rintro e w1 ⟨rfl, hb1⟩; replace hb := bnext hb hb1; clear hb1)
  clear HA
  go_loopg [5] m (fun g i wr => ∃ j : Nat, j = g ∧ i = .int .i64 ((j : Int) - 1) ∧ j ≤ m ∧ Below w.heap.size w wr)
  case atStart =>
    go_light
    exact ⟨m, rfl, by go_num, Nat.le_refl _, hb⟩
  case round =>
    clear hb
    obtain ⟨j, hg, rfl, hj, hb⟩ := hrel
    subst hg
    have HR : Hid (∀ W, Below wr.heap.size wr W → RdS W (some ⟨b, off, none⟩) b off (m + 1) ss) := fun W h => HRw.out.next (bnext hb h) (Nat.le_refl _)
    have HTw : Hid (∀ W, Below wr.heap.size wr W → Tb W) := fun W h => HT.out.next (bnext hb h)
    have hc := clk_le k
    cases j with
    | zero =>
      have hz : ¬ ((0 : Int) ≤ -1) := by decide
      rw [show ((0 : Nat) : Int) - 1 = -1 from rfl]
      have hmc : (m : Int) ≤ (cap : Int) := by omega
      obtain ⟨C1, hC1⟩ : ∃ C1, cap - m = C1 := ⟨_, rfl⟩
      have hC0 : m ≠ cap := by omega
      obtain ⟨p, HP⟩ : ∃ p, Hid (ss.getD m ByteArray.empty = p) := ⟨_, rfl⟩
      obtain ⟨d, hd⟩ : ∃ d, bagL (clk k) ss = d := ⟨_, rfl⟩
      have zd : d.size ≤ 140737488351232 := by rw [← hd]; exact bagL_size hc (by decide) _ HSz.out
      obtain ⟨t, het⟩ : ∃ t, rootT 7 d = t := ⟨_, rfl⟩
      have zt : t.size = 9 + d.size := by rw [← het]; exact rootT_size 7 d
      obtain ⟨r, her⟩ : ∃ r, dg (clk k) t = r := ⟨_, rfl⟩
      have HB1 : Hid (∀ W, Below wr.heap.size wr W → Calls Tryd.prog 9 #[.int .i64 k, .slice (some ⟨b, off + m, none⟩) 1 C1] W fun e w' => e = .returned (.string p) ∧ Below W.heap.size W w') := fun W h => by
        have h1 := (HR.out W h).drop (m)
        rw [show m + 1 - m = 1 by omega] at h1
        have hl := bagL_last (clk k) ss (by rw [HRw.out.hl]; omega)
        rw [HRw.out.hl, show m + 1 - 1 = m by omega, HP.out] at hl
        exact bagged_any W (HTw.out W h) k _ b (off + m) 1 C1 _ h1 (fun s hs => HSz.out s (List.mem_of_mem_drop hs)) (by decide) p hl
      have HB2 : Hid (∀ W, Below wr.heap.size wr W → Calls Tryd.prog 9 #[.int .i64 k, .slice (some ⟨b, off, none⟩) (m + 1) cap] W fun e w' => e = .returned (.string d) ∧ Below W.heap.size W w') := fun W h => bagged_any W (HTw.out W h) k _ b off (m + 1) cap ss (HR.out W h) HSz.out hmx d hd
      have HRt : Hid (∀ W, Calls Tryd.prog 7 #[.int .u64 7, .string d] W fun e w' => e = .returned (.string t) ∧ Below W.heap.size W w') := fun W => roott_any W 7 d (by omega) t het
      have HO : Hid (∀ W, Below wr.heap.size wr W → Calls Tryd.prog 10 #[.int .i64 k, .string t] W fun e w' => e = .returned (.string r) ∧ Below W.heap.size W w') := fun W h => hof_any W (HTw.out W h) k t (by omega) r her
      have HRo : Hid (∀ W, Below wr.heap.size wr W → Calls Tryd.prog 12 #[.int .i64 k, .int .u64 7, .slice (some ⟨b, off, none⟩) (m + 1) cap] W fun e w' => e = .returned (.string r) ∧ Below W.heap.size W w') := fun W h => root_any W (HTw.out W h) k 7 _ b off (m + 1) cap ss (HR.out W h) HSz.out hmx r (by rw [hd, het, her])
      have HBw : Hid (Below w.heap.size w wr) := hb
      have el : m + 1 - m = 1 := by omega
      clear hd zd het zt her hb hc HT HRw HSz HTw
      go_upto_region 11 with (fail)
      refine wp_region_plan (by kernel_rfl) [47, 48, 49, 50, 51, 52, 53, 54, 55, 56, 57, 58, 59, 60, 61, 62, 63, 64, 65, 4] (by kernel_rfl) (planV [.int .i64 k, .slice (some ⟨b, off + m, none⟩) 1 C1, .string p, .slice (some ⟨b, off + m, none⟩) 1 C1, .pointer (some ⟨b, off + m, none⟩), .string p, .bool true, .bool true, .int .i64 k, .slice (some ⟨b, off, none⟩) (m + 1) cap, .string r, .int .i64 k, .int .i64 k, .slice (some ⟨b, off, none⟩) (m + 1) cap, .string d, .string t, .string r, .bool true, .bool true, .bool true]) (planV_mono _) ?step ?fin
      case fin =>
        intro A w2 hB2 hde hsi hsm hΦ
        have h6 : A.tmps.getD 4 undef = .bool true := hΦ 19 (by decide)
        have hr : (results Tryd.f4 A.tmps).run Tryd.prog w2 = .ok (.bool true) w2 := by rw [← h6]; exact results_tmp rfl _ _ _
        have HF : Hid (A.defers = [] ∧ Below w.heap.size w w2 ∧ (results Tryd.f4 A.tmps).run Tryd.prog w2 = .ok (.bool true) w2) := ⟨hde, bnext HBw.out hB2, hr⟩
        clear hr hde hsm hΦ h6 hB2 hsi
        go_wp2
        exact bodyPost_ret HF.out.2.2 HF.out.1 ⟨rfl, HF.out.2.1⟩
      case step =>
        refine ⟨?_, ?_, ?_, ?_, ?_, ?_, ?_, ?_, ?_, ?_, ?_, ?_, ?_, ?_, ?_, ?_, ?_, ?_, ?_, ?_, trivial⟩
        · intro Ac Wc K hB hsm dep hK
          have t0 : Ac.tmps.getD 0 undef = .int .i64 k := hsm 0 rfl
          show Oper.wp _ _ Ac Wc K _
          go_simp
          exact hK _ _ rfl (Below.refl _ _)
        · intro Ac Wc K hB hsm dep hK
          have t6 : Ac.tmps.getD 6 undef = .slice (some ⟨b, off + m, none⟩) 1 C1 := hsm 6 rfl
          show Oper.wp _ _ Ac Wc K _
          go_simp
          exact hK _ _ rfl (Below.refl _ _)
        · intro Ac Wc K hB hsm dep hK
          have t47 : Ac.tmps.getD 47 undef = .int .i64 k := dep 0 rfl
          have t48 : Ac.tmps.getD 48 undef = .slice (some ⟨b, off + m, none⟩) 1 C1 := dep 1 rfl
          show Oper.wp _ _ Ac Wc K _
          go_simp
          refine (HB1.out Wc hB).mono ?_
          rintro e w' ⟨rfl, hb⟩
          exact hK _ _ rfl hb
        · intro Ac Wc K hB hsm dep hK
          have t6 : Ac.tmps.getD 6 undef = .slice (some ⟨b, off + m, none⟩) 1 C1 := hsm 6 rfl
          show Oper.wp _ _ Ac Wc K _
          go_simp
          exact hK _ _ rfl (Below.refl _ _)
        · intro Ac Wc K hB hsm dep hK
          have t50 : Ac.tmps.getD 50 undef = .slice (some ⟨b, off + m, none⟩) 1 C1 := dep 3 rfl
          show Oper.wp _ _ Ac Wc K _
          go_simp
          exact hK _ _ rfl (Below.refl _ _)
        · intro Ac Wc K hB hsm dep hK
          have t51 : Ac.tmps.getD 51 undef = .pointer (some ⟨b, off + m, none⟩) := dep 4 rfl
          show Oper.wp _ _ Ac Wc K _
          have cj := (HR.out Wc hB).at (k := m) (by omega)
          rw [HP.out] at cj
          go_simp
          exact hK _ _ rfl (Below.refl _ _)
        · intro Ac Wc K hB hsm dep hK
          have t49 : Ac.tmps.getD 49 undef = .string p := dep 2 rfl
          have t52 : Ac.tmps.getD 52 undef = .string p := dep 5 rfl
          show Oper.wp _ _ Ac Wc K _
          go_simp
          exact hK _ _ rfl (Below.refl _ _)
        · intro Ac Wc K hB hsm dep hK
          have t53 : Ac.tmps.getD 53 undef = .bool true := dep 6 rfl
          show Oper.wp _ _ Ac Wc K _
          go_simp
          exact hK _ _ rfl (Below.refl _ _)
        · intro Ac Wc K hB hsm dep hK
          have t0 : Ac.tmps.getD 0 undef = .int .i64 k := hsm 0 rfl
          refine ⟨true, (show Ac.tmps.getD 54 undef = .bool true from dep 7 rfl), ?_⟩
          rw [if_pos rfl]
          go_simp
          exact hK _ _ rfl (Below.refl _ _)
        · intro Ac Wc K hB hsm dep hK
          have t1 : Ac.tmps.getD 1 undef = .slice (some ⟨b, off, none⟩) (m + 1) cap := hsm 1 rfl
          refine ⟨true, (show Ac.tmps.getD 54 undef = .bool true from dep 7 rfl), ?_⟩
          rw [if_pos rfl]
          go_simp
          exact hK _ _ rfl (Below.refl _ _)
        · intro Ac Wc K hB hsm dep hK
          have t55 : Ac.tmps.getD 55 undef = .int .i64 k := dep 8 rfl
          have t56 : Ac.tmps.getD 56 undef = .slice (some ⟨b, off, none⟩) (m + 1) cap := dep 9 rfl
          refine ⟨true, (show Ac.tmps.getD 54 undef = .bool true from dep 7 rfl), ?_⟩
          rw [if_pos rfl]
          go_simp
          refine (HRo.out Wc hB).mono ?_
          rintro e w' ⟨rfl, hb⟩
          exact hK _ _ rfl hb
        · intro Ac Wc K hB hsm dep hK
          have t0 : Ac.tmps.getD 0 undef = .int .i64 k := hsm 0 rfl
          refine ⟨true, (show Ac.tmps.getD 54 undef = .bool true from dep 7 rfl), ?_⟩
          rw [if_pos rfl]
          go_simp
          exact hK _ _ rfl (Below.refl _ _)
        · intro Ac Wc K hB hsm dep hK
          have t0 : Ac.tmps.getD 0 undef = .int .i64 k := hsm 0 rfl
          refine ⟨true, (show Ac.tmps.getD 54 undef = .bool true from dep 7 rfl), ?_⟩
          rw [if_pos rfl]
          go_simp
          exact hK _ _ rfl (Below.refl _ _)
        · intro Ac Wc K hB hsm dep hK
          have t1 : Ac.tmps.getD 1 undef = .slice (some ⟨b, off, none⟩) (m + 1) cap := hsm 1 rfl
          refine ⟨true, (show Ac.tmps.getD 54 undef = .bool true from dep 7 rfl), ?_⟩
          rw [if_pos rfl]
          go_simp
          exact hK _ _ rfl (Below.refl _ _)
        · intro Ac Wc K hB hsm dep hK
          have t59 : Ac.tmps.getD 59 undef = .int .i64 k := dep 12 rfl
          have t60 : Ac.tmps.getD 60 undef = .slice (some ⟨b, off, none⟩) (m + 1) cap := dep 13 rfl
          refine ⟨true, (show Ac.tmps.getD 54 undef = .bool true from dep 7 rfl), ?_⟩
          rw [if_pos rfl]
          go_simp
          refine (HB2.out Wc hB).mono ?_
          rintro e w' ⟨rfl, hb⟩
          exact hK _ _ rfl hb
        · intro Ac Wc K hB hsm dep hK
          have t61 : Ac.tmps.getD 61 undef = .string d := dep 14 rfl
          refine ⟨true, (show Ac.tmps.getD 54 undef = .bool true from dep 7 rfl), ?_⟩
          rw [if_pos rfl]
          go_simp
          refine (HRt.out Wc).mono ?_
          rintro e w' ⟨rfl, hb⟩
          exact hK _ _ rfl hb
        · intro Ac Wc K hB hsm dep hK
          have t58 : Ac.tmps.getD 58 undef = .int .i64 k := dep 11 rfl
          have t62 : Ac.tmps.getD 62 undef = .string t := dep 15 rfl
          refine ⟨true, (show Ac.tmps.getD 54 undef = .bool true from dep 7 rfl), ?_⟩
          rw [if_pos rfl]
          go_simp
          refine (HO.out Wc hB).mono ?_
          rintro e w' ⟨rfl, hb⟩
          exact hK _ _ rfl hb
        · intro Ac Wc K hB hsm dep hK
          have t57 : Ac.tmps.getD 57 undef = .string r := dep 10 rfl
          have t63 : Ac.tmps.getD 63 undef = .string r := dep 16 rfl
          refine ⟨true, (show Ac.tmps.getD 54 undef = .bool true from dep 7 rfl), ?_⟩
          rw [if_pos rfl]
          go_simp
          exact hK _ _ rfl (Below.refl _ _)
        · intro Ac Wc K hB hsm dep hK
          have t54 : Ac.tmps.getD 54 undef = .bool true := dep 7 rfl
          have t64 : Ac.tmps.getD 64 undef = .bool true := dep 17 rfl
          show Oper.wp _ _ Ac Wc K _
          go_simp
          exact hK _ _ rfl (Below.refl _ _)
        · intro Ac Wc K hB hsm dep hK
          have t65 : Ac.tmps.getD 65 undef = .bool true := dep 18 rfl
          show Oper.wp _ _ Ac Wc K _
          go_simp
          exact hK _ _ rfl (Below.refl _ _)
    | succ j =>
      have e1 : ((j + 1 : Nat) : Int) - 1 = (j : Int) := by omega
      have hz : (0 : Int) ≤ (j : Int) := by omega
      have hz2 : (j : Int) < (m : Int) + 1 := by omega
      have hz3 : (j : Int) ≤ (m : Int) + 1 := by omega
      have hz4 : (j : Int) + 1 ≤ (m : Int) + 1 := by omega
      have hz5 : (0 : Int) ≤ (j : Int) + 1 := by omega
      have hj1 : ¬ (cap = j) := by omega
      have hj2 : ¬ (cap = j + 1) := by omega
      have ew : IntKind.i64.wrap ((j : Int) + 1) = (j : Int) + 1 := wrap_id _ (by omega) (by omega)
      obtain ⟨L1, hL1⟩ : ∃ L, m + 1 - j = L := ⟨_, rfl⟩
      obtain ⟨C1, hC1⟩ : ∃ C, cap - j = C := ⟨_, rfl⟩
      obtain ⟨L2, hL2⟩ : ∃ L, m + 1 - (j + 1) = L := ⟨_, rfl⟩
      obtain ⟨C2, hC2⟩ : ∃ C, cap - (j + 1) = C := ⟨_, rfl⟩
      obtain ⟨p, HP⟩ : ∃ p, Hid (ss.getD j ByteArray.empty = p) := ⟨_, rfl⟩
      have zp : p.size ≤ 140737488351232 := by rw [← HP.out]; exact HSz.out _ (getD_mem (by rw [HRw.out.hl]; omega))
      obtain ⟨d2, hd2⟩ : ∃ d, bagL (clk k) (ss.drop (j + 1)) = d := ⟨_, rfl⟩
      have zd : d2.size ≤ 140737488351232 := by rw [← hd2]; exact bagL_size hc (by decide) _ (fun s hs => HSz.out s (List.mem_of_mem_drop hs))
      obtain ⟨t, het⟩ : ∃ t, bagT p d2 = t := ⟨_, rfl⟩
      have zt : t.size = 1 + p.size + d2.size := by rw [← het]; exact bagT_size p d2
      obtain ⟨d1, hd1⟩ : ∃ d, dg (clk k) t = d := ⟨_, rfl⟩
      have hdd : bagL (clk k) (ss.drop j) = d1 := by
        rw [bagL_drop _ _ _ (by rw [HRw.out.hl]; omega), HP.out, hd2, het, hd1]
      have HB1 : Hid (∀ W, Below wr.heap.size wr W → Calls Tryd.prog 9 #[.int .i64 k, .slice (some ⟨b, off + j, none⟩) L1 C1] W fun e w' => e = .returned (.string d1) ∧ Below W.heap.size W w') := fun W h => by
        have h1 := (HR.out W h).drop (j)
        rw [hL1] at h1
        exact bagged_any W (HTw.out W h) k _ b (off + j) L1 C1 _ h1 (fun s hs => HSz.out s (List.mem_of_mem_drop hs)) (by omega) d1 hdd
      have HB2 : Hid (∀ W, Below wr.heap.size wr W → Calls Tryd.prog 9 #[.int .i64 k, .slice (some ⟨b, off + (j + 1), none⟩) L2 C2] W fun e w' => e = .returned (.string d2) ∧ Below W.heap.size W w') := fun W h => by
        have h1 := (HR.out W h).drop (j + 1)
        rw [hL2] at h1
        exact bagged_any W (HTw.out W h) k _ b (off + (j + 1)) L2 C2 _ h1 (fun s hs => HSz.out s (List.mem_of_mem_drop hs)) (by omega) d2 hd2
      have HG : Hid (∀ W, Calls Tryd.prog 11 #[.string p, .string d2] W fun e w' => e = .returned (.string t) ∧ Below W.heap.size W w') := fun W => bagt_any W p d2 (by omega) (by omega) t het
      have HO : Hid (∀ W, Below wr.heap.size wr W → Calls Tryd.prog 10 #[.int .i64 k, .string t] W fun e w' => e = .returned (.string d1) ∧ Below W.heap.size W w') := fun W h => hof_any W (HTw.out W h) k t (by omega) d1 hd1
      have HBw : Hid (∀ W, Below wr.heap.size wr W → Below w.heap.size w W) := fun W h => bnext hb h
      rw [e1]
      clear hd1 hd2 zd het zt zp hdd hb hc HTw e1 hj
      go_upto_region 8 with (fail)
      refine wp_region_planV (by kernel_rfl) [23, 24, 25, 26, 27, 28, 29, 30, 31, 32, 33, 34, 35, 36, 37, 38, 39, 40, 41] [.int .i64 k, .slice (some ⟨b, off, none⟩) (m + 1) cap, .int .i64 (j : Int), .slice (some ⟨b, off + j, none⟩) L1 C1, .string d1, .int .i64 k, .slice (some ⟨b, off, none⟩) (m + 1) cap, .int .i64 (j : Int), .pointer (some ⟨b, off + j, none⟩), .string p, .int .i64 k, .slice (some ⟨b, off, none⟩) (m + 1) cap, .int .i64 (j : Int), .int .i64 ((j : Int) + 1), .slice (some ⟨b, off + (j + 1), none⟩) L2 C2, .string d2, .string t, .string d1, .bool false] (by kernel_rfl) rfl ?step ?fin
      case fin =>
        intro Wc hB
        have S2 := HBw.out Wc hB
        clear HB1 HB2 HG HO hB HBw HR
        simp only [puts]
        go_simp
        go_wp2
        go_roundg j
        case rel =>
          go_light
          exact ⟨j, rfl, by go_num, by omega, S2⟩
        case measure => go_light; omega
      case step =>
        refine ⟨?_, ?_, ?_, ?_, ?_, ?_, ?_, ?_, ?_, ?_, ?_, ?_, ?_, ?_, ?_, ?_, ?_, ?_, ?_, trivial⟩
        · intro Ac Wc K hB hsm dep hK
          have t0 : Ac.tmps.getD 0 undef = .int .i64 k := hsm 0 rfl
          show Oper.wp _ _ Ac Wc K _
          go_simp
          exact hK _ _ rfl (Below.refl _ _)
        · intro Ac Wc K hB hsm dep hK
          have t1 : Ac.tmps.getD 1 undef = .slice (some ⟨b, off, none⟩) (m + 1) cap := hsm 1 rfl
          show Oper.wp _ _ Ac Wc K _
          go_simp
          exact hK _ _ rfl (Below.refl _ _)
        · intro Ac Wc K hB hsm dep hK
          have t5 : Ac.tmps.getD 5 undef = .int .i64 (j : Int) := hsm 5 rfl
          show Oper.wp _ _ Ac Wc K _
          go_simp
          exact hK _ _ rfl (Below.refl _ _)
        · intro Ac Wc K hB hsm dep hK
          have t24 : Ac.tmps.getD 24 undef = .slice (some ⟨b, off, none⟩) (m + 1) cap := dep 1 rfl
          have t25 : Ac.tmps.getD 25 undef = .int .i64 (j : Int) := dep 2 rfl
          show Oper.wp _ _ Ac Wc K _
          go_simp
          exact hK _ _ rfl (Below.refl _ _)
        · intro Ac Wc K hB hsm dep hK
          have t23 : Ac.tmps.getD 23 undef = .int .i64 k := dep 0 rfl
          have t26 : Ac.tmps.getD 26 undef = .slice (some ⟨b, off + j, none⟩) L1 C1 := dep 3 rfl
          show Oper.wp _ _ Ac Wc K _
          go_simp
          refine (HB1.out Wc hB).mono ?_
          rintro e w' ⟨rfl, hb⟩
          exact hK _ _ rfl hb
        · intro Ac Wc K hB hsm dep hK
          have t0 : Ac.tmps.getD 0 undef = .int .i64 k := hsm 0 rfl
          show Oper.wp _ _ Ac Wc K _
          go_simp
          exact hK _ _ rfl (Below.refl _ _)
        · intro Ac Wc K hB hsm dep hK
          have t1 : Ac.tmps.getD 1 undef = .slice (some ⟨b, off, none⟩) (m + 1) cap := hsm 1 rfl
          show Oper.wp _ _ Ac Wc K _
          go_simp
          exact hK _ _ rfl (Below.refl _ _)
        · intro Ac Wc K hB hsm dep hK
          have t5 : Ac.tmps.getD 5 undef = .int .i64 (j : Int) := hsm 5 rfl
          show Oper.wp _ _ Ac Wc K _
          go_simp
          exact hK _ _ rfl (Below.refl _ _)
        · intro Ac Wc K hB hsm dep hK
          have t29 : Ac.tmps.getD 29 undef = .slice (some ⟨b, off, none⟩) (m + 1) cap := dep 6 rfl
          have t30 : Ac.tmps.getD 30 undef = .int .i64 (j : Int) := dep 7 rfl
          show Oper.wp _ _ Ac Wc K _
          go_simp
          exact hK _ _ rfl (Below.refl _ _)
        · intro Ac Wc K hB hsm dep hK
          have t31 : Ac.tmps.getD 31 undef = .pointer (some ⟨b, off + j, none⟩) := dep 8 rfl
          show Oper.wp _ _ Ac Wc K _
          have cj := (HR.out Wc hB).at (k := j) (by omega)
          rw [HP.out] at cj
          go_simp
          exact hK _ _ rfl (Below.refl _ _)
        · intro Ac Wc K hB hsm dep hK
          have t0 : Ac.tmps.getD 0 undef = .int .i64 k := hsm 0 rfl
          show Oper.wp _ _ Ac Wc K _
          go_simp
          exact hK _ _ rfl (Below.refl _ _)
        · intro Ac Wc K hB hsm dep hK
          have t1 : Ac.tmps.getD 1 undef = .slice (some ⟨b, off, none⟩) (m + 1) cap := hsm 1 rfl
          show Oper.wp _ _ Ac Wc K _
          go_simp
          exact hK _ _ rfl (Below.refl _ _)
        · intro Ac Wc K hB hsm dep hK
          have t5 : Ac.tmps.getD 5 undef = .int .i64 (j : Int) := hsm 5 rfl
          show Oper.wp _ _ Ac Wc K _
          go_simp
          exact hK _ _ rfl (Below.refl _ _)
        · intro Ac Wc K hB hsm dep hK
          have t35 : Ac.tmps.getD 35 undef = .int .i64 (j : Int) := dep 12 rfl
          show Oper.wp _ _ Ac Wc K _
          go_simp
          exact hK _ _ rfl (Below.refl _ _)
        · intro Ac Wc K hB hsm dep hK
          have t34 : Ac.tmps.getD 34 undef = .slice (some ⟨b, off, none⟩) (m + 1) cap := dep 11 rfl
          have t36 : Ac.tmps.getD 36 undef = .int .i64 ((j : Int) + 1) := dep 13 rfl
          show Oper.wp _ _ Ac Wc K _
          go_simp
          exact hK _ _ rfl (Below.refl _ _)
        · intro Ac Wc K hB hsm dep hK
          have t33 : Ac.tmps.getD 33 undef = .int .i64 k := dep 10 rfl
          have t37 : Ac.tmps.getD 37 undef = .slice (some ⟨b, off + (j + 1), none⟩) L2 C2 := dep 14 rfl
          show Oper.wp _ _ Ac Wc K _
          go_simp
          refine (HB2.out Wc hB).mono ?_
          rintro e w' ⟨rfl, hb⟩
          exact hK _ _ rfl hb
        · intro Ac Wc K hB hsm dep hK
          have t32 : Ac.tmps.getD 32 undef = .string p := dep 9 rfl
          have t38 : Ac.tmps.getD 38 undef = .string d2 := dep 15 rfl
          show Oper.wp _ _ Ac Wc K _
          go_simp
          refine (HG.out Wc).mono ?_
          rintro e w' ⟨rfl, hb⟩
          exact hK _ _ rfl hb
        · intro Ac Wc K hB hsm dep hK
          have t28 : Ac.tmps.getD 28 undef = .int .i64 k := dep 5 rfl
          have t39 : Ac.tmps.getD 39 undef = .string t := dep 16 rfl
          show Oper.wp _ _ Ac Wc K _
          go_simp
          refine (HO.out Wc hB).mono ?_
          rintro e w' ⟨rfl, hb⟩
          exact hK _ _ rfl hb
        · intro Ac Wc K hB hsm dep hK
          have t27 : Ac.tmps.getD 27 undef = .string d1 := dep 4 rfl
          have t40 : Ac.tmps.getD 40 undef = .string d1 := dep 17 rfl
          show Oper.wp _ _ Ac Wc K _
          go_simp
          exact hK _ _ rfl (Below.refl _ _)
theorem bags_row (w : World) (ht : Tb w) (k : Int) (ao : Option Addr) (b off len cap : Nat) (ss : List ByteArray) (hr : RdS w ao b off len ss) (hsz : ∀ s ∈ ss, s.size ≤ 140737488351232) (hmx : len ≤ 8796093022208) (hcap : len ≤ cap) :
    Calls Tryd.prog 4 #[.int .i64 k, .slice ao len cap] w fun e w' => e = .returned (.bool true) ∧ Below w.heap.size w w' := by
  by_cases h0 : len = 0
  · subst h0
    have hB := fun W (h : Below w.heap.size w W) => bagged_any W (ht.next h) k ao b off 0 cap ss (hr.next h (Nat.le_refl _)) hsz (by decide) ⟨#[]⟩ (by
      have : ss = [] := List.length_eq_zero_iff.1 hr.hl
      subst this; rfl)
    have HA : Hid (∀ W, Below w.heap.size w W → Calls Tryd.prog 8 #[] W fun e w' => e = .returned (.bool true) ∧ Below W.heap.size W w') := fun W hb => alive_any W (ht.next hb)
    have HBg := hide hB
    have hb := Below.refl w.heap.size w
    clear hB ht hr hsz
    go_enter Tryd.func4, Tryd.ntmps4
    go_wp2_with (first
      | (go_at_call 8; with_reducible refine (HA.out _ hb).mono ?_; rintro e w1 ⟨rfl, hb1⟩; replace hb := bnext hb hb1; clear hb1)
      | (go_at_call 9; with_reducible refine (HBg.out _ hb).mono ?_; rintro e w1 ⟨rfl, hb1⟩; replace hb := bnext hb hb1; clear hb1))
    go_ret
    exact ⟨rfl, hb⟩
  · obtain rfl := hr.ptr (by omega)
    obtain ⟨m, rfl⟩ : ∃ m, len = m + 1 := ⟨len - 1, by omega⟩
    exact bags_some w ht k b off m cap ss hr hsz hmx hcap
end Go.Proofs.YtelbnmfdeibdaaaDoor
