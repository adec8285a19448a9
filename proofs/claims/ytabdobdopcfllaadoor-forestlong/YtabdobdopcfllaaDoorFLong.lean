/-
  ForestLong: the walk. Own work.
-/
import Derived.Test.YtabdobdopcfllaaDoorFByt
namespace Go.Proofs.YtabdobdopcfllaaDoor
open Go.RowKit
attribute [local go_sem ↓] Go.wp_at_zero Go.wp_at_succ
set_option maxRecDepth 100000 in
set_option maxHeartbeats 4000000 in
theorem long_walk (w : World) (ht : Tb w) (k : Int) (over : Int) (f : Int) (hf0 : 0 ≤ f) (hf1 : f < 256) :
    Calls Tryd.prog 3 #[.int .i64 k, .int .i64 over, .int .u8 f] w fun e w' => e = .returned (.bool true) ∧ Below w.heap.size w w' := by
  obtain ⟨K, hK⟩ : ∃ K, stg k = K := ⟨_, rfl⟩
  obtain ⟨k1, k2⟩ := stg_in k
  rw [hK] at k1 k2
  obtain ⟨uz, hu⟩ : ∃ uz, IntKind.u64.wrap over % 3 = uz := ⟨_, rfl⟩
  have u0 : 0 ≤ uz := by rw [← hu]; exact Int.emod_nonneg _ (by decide)
  have u1 : uz < 3 := by rw [← hu]; exact Int.emod_lt_of_pos _ (by decide)
  have hn : 0 ≤ IntKind.u64.wrap over := by rw [IntKind.wrap_u64]; omega
  have e1 : Int.tmod (IntKind.u64.wrap over) 3 = uz := by rw [Int.tmod_eq_emod_of_nonneg hn]; exact hu
  have e2 : IntKind.u64.wrap uz = uz := u64_id _ u0 (by omega)
  have e3 : IntKind.i64.wrap uz = uz := by rw [IntKind.wrap_i64]; omega
  obtain ⟨N, hN⟩ : ∃ N : Nat, (N : Int) = 1048576 + uz - 1 := ⟨(1048576 + uz - 1).toNat, by omega⟩
  have hN1 : 1048575 ≤ N ∧ N ≤ 1048577 := by omega
  have HAl : Hid (Calls Tryd.prog 8 #[] w fun e w' => e = .returned (.bool true) ∧ Below w.heap.size w w') := alive_any w ht
  have HSt : Hid (∀ W, Calls Tryd.prog 9 #[.int .i64 k] W fun e w' => e = .returned (.int .i64 K) ∧ W = w') := fun W => strength_any W k K hK
  have HNw : Hid (∀ W, Calls Tryd.prog 10 #[.int .i64 K] W fun e w' => e = .returned (.tuple #[.pointer (some ⟨W.heap.size + 1, 0, none⟩), .int .i64 0]) ∧ Frs w' W.heap.size K [] ∧ Below W.heap.size W w') := fun W => fnew_ok W K k1 k2
  have hM : ∀ W : World, (Instr.makeSlice 30 (.int .i64 (N : Int)) (.int .i64 (N : Int))).run Tryd.prog W = .ok (.slice (some ⟨W.heap.size, 0, none⟩) N N) (W.alloc (.cells (madeCells #[.int .u8 0] N) 5)) := fun W =>
    run_make_row' 30 5 (.int .u8 0) 1 Tryd.underlying30 Tryd.infoY rfl .i64 .i64 N (by omega) (by omega) W
  obtain ⟨fb, hfb⟩ : ∃ fb : UInt8, f = (fb.toNat : Int) := ⟨UInt8.ofNat f.toNat, by simp; omega⟩
  have HT := hide ht
  have HFB := hide hfb
  clear hK hu hn ht hfb
  go_enter Tryd.func3, Tryd.ntmps3
  go_upto_region 8 with (first
    | (go_at_call 8; with_reducible refine HAl.out.mono ?_; rintro e w1 ⟨rfl, hb1⟩)
    | (go_at_call 9; with_reducible refine (HSt.out _).mono ?_; rintro e w' ⟨rfl, rfl⟩)
    | (go_at_call 11; with_reducible refine (num_id 0 _).mono ?_; rintro e wn ⟨rfl, rfl⟩)
    | (go_at_call 10; with_reducible refine (HNw.out _).mono ?_; rintro e w2 ⟨rfl, hF2, hb2⟩))
  have hJ2 : Below w.heap.size w w2 := bnext hb1 hb2
  rw [← hN]
  have HB2 := hide hJ2
  have HF2 := hide hF2
  have HLm : Hid (w.heap.size ≤ w1.heap.size ∧ w1.heap.size + 1 < w2.heap.size) := ⟨hb1.size, hF2.lt⟩
  have HM1 := hide hN1
  have h1M : (N : Int) ≤ 1048577 := by omega
  have hm := hM w2
  have HBy := byt_made w2 N
  have hzz : w2.heap.size < (w2.alloc (.cells (madeCells #[.int .u8 0] N) 5)).heap.size := by simp
  have HBe := bal (Below.refl w2.heap.size w2) (.cells (madeCells #[.int .u8 0] N) 5)
  clear hb1 hb2 hF2 hJ2 hM HAl HSt HNw e1 e2 e3 u0 u1 hN hN1
  go_upto_region 9 with (fail)
  generalize w2.alloc (.cells (madeCells #[.int .u8 0] N) 5) = w3 at *
  obtain ⟨g, hg⟩ : ∃ g, w2.heap.size = g := ⟨_, rfl⟩
  rw [hg] at HBy hzz
  rw [hg]
  have HBe2 := hide HBe
  obtain ⟨m, hm1⟩ : ∃ m, w1.heap.size = m := ⟨_, rfl⟩
  rw [hm1] at HF2 HLm
  rw [hm1]
  rw [hg] at HLm
  clear HBe hm
  go_wp2
  go_loopg [11] N (fun G i wr => ∃ j : Nat, j ≤ N ∧ G = N - j ∧ i = .int .i64 (j : Int) ∧ Hid (Byt wr g (List.replicate j fb ++ List.replicate (N - j) 0)) ∧ g < wr.heap.size ∧ Hid (Below g w2 wr))
  case atStart =>
    go_light
    exact ⟨0, Nat.zero_le _, rfl, rfl, (show Byt w3 g _ by simpa using HBy), hzz, by rw [← hg]; exact HBe2⟩
  case round =>
    clear HBy hzz HBe2
    obtain ⟨j, hj, rfl, rfl, HY, hlg, HB⟩ := hrel
    by_cases hlt : j < N
    · have hz : (j : Int) < (N : Int) := by omega
      have hz0 : (0 : Int) ≤ (j : Int) := Int.natCast_nonneg _
      have hll : j < (List.replicate j fb ++ List.replicate (N - j) (0 : UInt8)).length := by simp; omega
      have c0 := HY.out.at hll
      have f0 := HY.out.free hll
      have HY2 := HY.out.set j fb f HFB.out
      have hset : (List.replicate j fb ++ List.replicate (N - j) (0 : UInt8)).set j fb = List.replicate (j + 1) fb ++ List.replicate (N - (j + 1)) 0 := by
        rw [List.set_append_right _ _ (by simp), List.length_replicate, Nat.sub_self, show N - j = N - (j + 1) + 1 by omega, List.replicate_succ, List.set_cons_zero, List.replicate_succ' (n := j), List.append_assoc]
        rfl
      rw [hset] at HY2
      have HY3 := hide HY2
      have HB3 : Hid (Below g w2 (wr.setCell ⟨g, j, none⟩ (.int .u8 f))) := HB.out.setCell (p := ⟨g, j, none⟩) (Nat.le_refl _) _
      clear hlt hll HY HY2 hset HB
      go_wp2
      go_roundg (N - (j + 1))
      case rel =>
        go_light
        exact ⟨j + 1, by omega, rfl, by go_num, HY3, by simpa using hlg, HB3⟩
      case measure => go_light; omega
    · obtain rfl : j = N := by omega
      have hz : ¬ ((j : Int) < (j : Int)) := by omega
      obtain ⟨L, hL⟩ : ∃ L, List.replicate j fb = L := ⟨_, rfl⟩
      have hLl : L.length = j := by rw [← hL]; simp
      have HY1 : Byt wr g L := by have := HY.out; rw [Nat.sub_self, List.replicate_zero, List.append_nil, hL] at this; exact this
      obtain ⟨s, hs⟩ : ∃ s : ByteArray, (⟨L.toArray⟩ : ByteArray) = s := ⟨_, rfl⟩
      have hss : s.size = j := by rw [← hs, ← hLl]; rfl
      have HCv : Hid (∀ W, (∀ q, q = g → W.heap[q]? = wr.heap[q]?) → (convert 30 9 (.slice (some ⟨g, 0, none⟩) j j)).run Tryd.prog W = .ok (.string s) W) := fun W hW => by
        have hY : Byt W g L := by
          have e := hW g rfl
          refine ⟨fun q v hv => ?_, fun q hq => ?_⟩
          · rw [← HY1.rng q v hv]; simp only [World.cell?, e]
          · have := HY1.thr q hq
            simp only [World.cell?, World.frozen?, e] at this ⊢
            exact this
        rw [← hs]
        exact conv_any W g j L j hLl hY
      have hcv := HCv.out wr (fun q _ => rfl)
      have hFw : Frs wr m K [] := HF2.out.same (HB.out.block _ (by have := HF2.out.lt; omega)) (HB.out.block _ (by have := HF2.out.lt; omega))
      have hbw : Below w.heap.size w wr := HB2.out.trans (HB.out.mono (by rw [← hg]; exact HB2.out.size))
      have HBw := hide hbw
      clear hL hLl HY1 HY hlt hs
      by_cases hbig : 1048576 < j
      · have HAp : Hid (∀ W, Calls Tryd.prog 12 #[.pointer (some ⟨m + 1, 0, none⟩), .string s] W fun e w' => e = .returned (.tuple #[.slice none 0 0, .int .i64 100]) ∧ W = w') := fun W =>
          (fappend_long W m s (by omega)).mono fun _ _ h => ⟨h.1, h.2.symm⟩
        have hd : decide ((1048576 : Int) < (j : Int)) = true := decide_eq_true (by omega)
        have HSz : Hid (∀ W, Frs W m K [] → Calls Tryd.prog 13 #[.pointer (some ⟨m + 1, 0, none⟩)] W fun e w' => e = .returned (.int .u64 0) ∧ W = w') := fun W h => (fsize_any W m K [] h).mono fun _ _ h => ⟨h.1, h.2.symm⟩
        clear hbig HCv hbw HB hss
        go_wp2_with (first
          | (go_at_call 12; with_reducible refine (HAp.out _).mono ?_; rintro e w4 ⟨rfl, rfl⟩)
          | (go_at_call 11; with_reducible refine (num_id 100 _).mono ?_; rintro e wn ⟨rfl, rfl⟩)
          | (go_at_call 13; with_reducible refine (HSz.out _ hFw).mono ?_; rintro e w4 ⟨rfl, rfl⟩))
        go_ret
        exact ⟨rfl, HBw.out⟩
      · have hd : decide ((1048576 : Int) < (j : Int)) = false := decide_eq_false (by omega)
        obtain ⟨d0, hd0⟩ : ∃ d0, dg (clk K) (leafT s) = d0 := ⟨_, rfl⟩
        have HAp : Hid (Calls Tryd.prog 12 #[.pointer (some ⟨m + 1, 0, none⟩), .string s] wr fun e w' => ∃ g' c', e = .returned (.tuple #[.slice (some ⟨g', 0, none⟩) 1 c', .int .i64 0]) ∧ OwnS w' wr.heap.size (.slice (some ⟨g', 0, none⟩) 1 c') [d0] ∧ Frs w' m K [s] ∧ Chf m wr w') :=
          (fappend_ok wr (HT.out.next hbw) m K [] hFw s (by omega) (by decide) 0 (by decide)).mono fun e w' ⟨v, e1, e2, e3, e4⟩ => by
            rw [List.nil_append] at e2 e3
            rw [nw_one, hd0] at e3
            obtain ⟨g', c', rfl, _⟩ := own_form e3 (Nat.succ_pos _)
            exact ⟨g', c', e1, e3, e2, e4⟩
        go_upto_region 16 with (go_at_call 12; with_reducible refine HAp.out.mono ?_; rintro e w4 ⟨g', c', rfl, ho4, hF4, hc4⟩)
        have HK : Hid (∀ W, Below w4.heap.size w4 W → W.cell? ⟨g', 0, none⟩ = some (.string d0) ∧ Frs W m K [s] ∧ Below w.heap.size w W ∧ (convert 30 9 (.slice (some ⟨g, 0, none⟩) j j)).run Tryd.prog W = .ok (.string s) W) := fun W h => by
          refine ⟨(own_cell (own_next ho4 h (Nat.le_refl _)) (j := 0) (Nat.succ_pos _)).1, hF4.next h (Nat.le_refl _), bnext (hbw.trans (hc4.below.mono HLm.out.1)) h, HCv.out W fun q hq => ?_⟩
          subst hq
          have hl := HLm.out.2
          exact (h.block q (Nat.lt_of_lt_of_le hlg hc4.size)).trans (hc4.block q hlg (by omega) (by omega))
        have HLf : Hid (∀ W, Below w.heap.size w W → Calls Tryd.prog 14 #[.int .i64 K, .string s] W fun e w' => e = .returned (.string d0) ∧ Below W.heap.size W w') := fun W h => leaf_any W (HT.out.next h) K s (by omega) d0 hd0
        clear ho4 hF4 hc4 hFw hbw HB HCv hcv HAp hbig hd0
        refine wp_region_plan (by kernel_rfl) [69, 70, 71, 72, 73, 74, 75, 76, 77, 78, 79, 80, 81, 82, 83, 84, 85, 86, 87, 88, 89, 90, 91, 6] (by kernel_rfl) (planV [.int .i64 0, .int .i64 0, .bool true, .bool true, .slice (some ⟨g', 0, none⟩) 1 c', .int .i64 1, .bool true, .bool true, .bool true, .slice (some ⟨g', 0, none⟩) 1 c', .pointer (some ⟨g', 0, none⟩), .string d0, .int .i64 K, .slice (some ⟨g, 0, none⟩) j j, .string s, .string d0, .bool true, .bool true, .bool true, .pointer (some ⟨m + 1, 0, none⟩), .int .u64 1, .bool true, .bool true, .bool true]) (planV_mono _) ?step ?fin
        case fin =>
          intro Ax w2 hB2 hde hsi hsm hΦ
          have h6 : Ax.tmps.getD 6 undef = .bool true := hΦ 23 (by decide)
          have hr : (results Tryd.f3 Ax.tmps).run Tryd.prog w2 = .ok (.bool true) w2 := by rw [← h6]; exact results_tmp rfl _ _ _
          have HF : Hid (Ax.defers = [] ∧ Below w.heap.size w w2 ∧ (results Tryd.f3 Ax.tmps).run Tryd.prog w2 = .ok (.bool true) w2) := ⟨hde, (HK.out _ hB2).2.2.1, hr⟩
          clear hr hde hsm hΦ h6 hB2 hsi
          go_wp2
          exact bodyPost_ret HF.out.2.2 HF.out.1 ⟨rfl, HF.out.2.1⟩
        case step =>
          refine ⟨?_, ?_, ?_, ?_, ?_, ?_, ?_, ?_, ?_, ?_, ?_, ?_, ?_, ?_, ?_, ?_, ?_, ?_, ?_, ?_, ?_, ?_, ?_, ?_, trivial⟩
          · intro Ac Wc Kc hB hsm dep hK
            have t13 : Ac.tmps.getD 13 undef = .int .i64 0 := hsm 13 rfl
            show Oper.wp _ _ Ac Wc Kc _
            go_simp
            exact hK _ _ rfl (Below.refl _ _)
          · intro Ac Wc Kc hB hsm dep hK
            have t69 : Ac.tmps.getD 69 undef = .int .i64 0 := dep 0 rfl
            show Oper.wp _ _ Ac Wc Kc _
            go_simp
            refine (num_any Wc 0).mono ?_
            rintro e w' ⟨rfl, hb⟩
            exact hK _ _ rfl hb
          · intro Ac Wc Kc hB hsm dep hK
            have t70 : Ac.tmps.getD 70 undef = .int .i64 0 := dep 1 rfl
            show Oper.wp _ _ Ac Wc Kc _
            go_simp
            exact hK _ _ rfl (Below.refl _ _)
          · intro Ac Wc Kc hB hsm dep hK
            have t71 : Ac.tmps.getD 71 undef = .bool true := dep 2 rfl
            show Oper.wp _ _ Ac Wc Kc _
            go_simp
            exact hK _ _ rfl (Below.refl _ _)
          · intro Ac Wc Kc hB hsm dep hK
            have t12 : Ac.tmps.getD 12 undef = .slice (some ⟨g', 0, none⟩) 1 c' := hsm 12 rfl
            refine ⟨true, (show Ac.tmps.getD 72 undef = .bool true from dep 3 rfl), ?_⟩
            rw [if_pos rfl]
            go_simp
            exact hK _ _ rfl (Below.refl _ _)
          · intro Ac Wc Kc hB hsm dep hK
            have t73 : Ac.tmps.getD 73 undef = .slice (some ⟨g', 0, none⟩) 1 c' := dep 4 rfl
            refine ⟨true, (show Ac.tmps.getD 72 undef = .bool true from dep 3 rfl), ?_⟩
            rw [if_pos rfl]
            go_simp
            exact hK _ _ rfl (Below.refl _ _)
          · intro Ac Wc Kc hB hsm dep hK
            have t74 : Ac.tmps.getD 74 undef = .int .i64 1 := dep 5 rfl
            refine ⟨true, (show Ac.tmps.getD 72 undef = .bool true from dep 3 rfl), ?_⟩
            rw [if_pos rfl]
            go_simp
            exact hK _ _ rfl (Below.refl _ _)
          · intro Ac Wc Kc hB hsm dep hK
            have t72 : Ac.tmps.getD 72 undef = .bool true := dep 3 rfl
            have t75 : Ac.tmps.getD 75 undef = .bool true := dep 6 rfl
            show Oper.wp _ _ Ac Wc Kc _
            go_simp
            exact hK _ _ rfl (Below.refl _ _)
          · intro Ac Wc Kc hB hsm dep hK
            have t76 : Ac.tmps.getD 76 undef = .bool true := dep 7 rfl
            show Oper.wp _ _ Ac Wc Kc _
            go_simp
            exact hK _ _ rfl (Below.refl _ _)
          · intro Ac Wc Kc hB hsm dep hK
            have t12 : Ac.tmps.getD 12 undef = .slice (some ⟨g', 0, none⟩) 1 c' := hsm 12 rfl
            refine ⟨true, (show Ac.tmps.getD 77 undef = .bool true from dep 8 rfl), ?_⟩
            rw [if_pos rfl]
            go_simp
            exact hK _ _ rfl (Below.refl _ _)
          · intro Ac Wc Kc hB hsm dep hK
            have t78 : Ac.tmps.getD 78 undef = .slice (some ⟨g', 0, none⟩) 1 c' := dep 9 rfl
            refine ⟨true, (show Ac.tmps.getD 77 undef = .bool true from dep 8 rfl), ?_⟩
            rw [if_pos rfl]
            go_simp
            exact hK _ _ rfl (Below.refl _ _)
          · intro Ac Wc Kc hB hsm dep hK
            have t79 : Ac.tmps.getD 79 undef = .pointer (some ⟨g', 0, none⟩) := dep 10 rfl
            refine ⟨true, (show Ac.tmps.getD 77 undef = .bool true from dep 8 rfl), ?_⟩
            rw [if_pos rfl]
            have c0 := (HK.out Wc hB).1
            go_simp
            exact hK _ _ rfl (Below.refl _ _)
          · intro Ac Wc Kc hB hsm dep hK
            have t0 : Ac.tmps.getD 0 undef = .int .i64 K := hsm 0 rfl
            refine ⟨true, (show Ac.tmps.getD 77 undef = .bool true from dep 8 rfl), ?_⟩
            rw [if_pos rfl]
            go_simp
            exact hK _ _ rfl (Below.refl _ _)
          · intro Ac Wc Kc hB hsm dep hK
            have t10 : Ac.tmps.getD 10 undef = .slice (some ⟨g, 0, none⟩) j j := hsm 10 rfl
            refine ⟨true, (show Ac.tmps.getD 77 undef = .bool true from dep 8 rfl), ?_⟩
            rw [if_pos rfl]
            go_simp
            exact hK _ _ rfl (Below.refl _ _)
          · intro Ac Wc Kc hB hsm dep hK
            have t82 : Ac.tmps.getD 82 undef = .slice (some ⟨g, 0, none⟩) j j := dep 13 rfl
            refine ⟨true, (show Ac.tmps.getD 77 undef = .bool true from dep 8 rfl), ?_⟩
            rw [if_pos rfl]
            have c0 := (HK.out Wc hB).2.2.2
            go_simp
            exact hK _ _ rfl (Below.refl _ _)
          · intro Ac Wc Kc hB hsm dep hK
            have t81 : Ac.tmps.getD 81 undef = .int .i64 K := dep 12 rfl
            have t83 : Ac.tmps.getD 83 undef = .string s := dep 14 rfl
            refine ⟨true, (show Ac.tmps.getD 77 undef = .bool true from dep 8 rfl), ?_⟩
            rw [if_pos rfl]
            go_simp
            refine (HLf.out Wc (HK.out Wc hB).2.2.1).mono ?_
            rintro e w' ⟨rfl, hb⟩
            exact hK _ _ rfl hb
          · intro Ac Wc Kc hB hsm dep hK
            have t80 : Ac.tmps.getD 80 undef = .string d0 := dep 11 rfl
            have t84 : Ac.tmps.getD 84 undef = .string d0 := dep 15 rfl
            refine ⟨true, (show Ac.tmps.getD 77 undef = .bool true from dep 8 rfl), ?_⟩
            rw [if_pos rfl]
            go_simp
            exact hK _ _ rfl (Below.refl _ _)
          · intro Ac Wc Kc hB hsm dep hK
            have t77 : Ac.tmps.getD 77 undef = .bool true := dep 8 rfl
            have t85 : Ac.tmps.getD 85 undef = .bool true := dep 16 rfl
            show Oper.wp _ _ Ac Wc Kc _
            go_simp
            exact hK _ _ rfl (Below.refl _ _)
          · intro Ac Wc Kc hB hsm dep hK
            have t86 : Ac.tmps.getD 86 undef = .bool true := dep 17 rfl
            show Oper.wp _ _ Ac Wc Kc _
            go_simp
            exact hK _ _ rfl (Below.refl _ _)
          · intro Ac Wc Kc hB hsm dep hK
            have t7 : Ac.tmps.getD 7 undef = .pointer (some ⟨m + 1, 0, none⟩) := hsm 7 rfl
            refine ⟨true, (show Ac.tmps.getD 87 undef = .bool true from dep 18 rfl), ?_⟩
            rw [if_pos rfl]
            go_simp
            exact hK _ _ rfl (Below.refl _ _)
          · intro Ac Wc Kc hB hsm dep hK
            have t88 : Ac.tmps.getD 88 undef = .pointer (some ⟨m + 1, 0, none⟩) := dep 19 rfl
            refine ⟨true, (show Ac.tmps.getD 87 undef = .bool true from dep 18 rfl), ?_⟩
            rw [if_pos rfl]
            go_simp
            refine (fsize_b Wc m K [s] (HK.out Wc hB).2.1).mono ?_
            rintro e w' ⟨rfl, hb⟩
            exact hK _ _ rfl hb
          · intro Ac Wc Kc hB hsm dep hK
            have t89 : Ac.tmps.getD 89 undef = .int .u64 1 := dep 20 rfl
            refine ⟨true, (show Ac.tmps.getD 87 undef = .bool true from dep 18 rfl), ?_⟩
            rw [if_pos rfl]
            go_simp
            exact hK _ _ rfl (Below.refl _ _)
          · intro Ac Wc Kc hB hsm dep hK
            have t87 : Ac.tmps.getD 87 undef = .bool true := dep 18 rfl
            have t90 : Ac.tmps.getD 90 undef = .bool true := dep 21 rfl
            show Oper.wp _ _ Ac Wc Kc _
            go_simp
            exact hK _ _ rfl (Below.refl _ _)
          · intro Ac Wc Kc hB hsm dep hK
            have t91 : Ac.tmps.getD 91 undef = .bool true := dep 22 rfl
            show Oper.wp _ _ Ac Wc Kc _
            go_simp
            exact hK _ _ rfl (Below.refl _ _)
theorem u8_wf {a : Int} (h : (Lit.int .u8 a).wf = true) : 0 ≤ a ∧ a < 256 := by
  simp [Lit.wf, IntKind.min, IntKind.max, IntKind.signed, IntKind.bits] at h
  omega
theorem long_row (w : World) (ht : Tb w) (k : Int) (over : Int) (f : Int) (hw : (Lit.int .u8 f).wf = true) :
    Calls Tryd.prog 3 #[.int .i64 k, .int .i64 over, .int .u8 f] w fun e w' => e = .returned (.bool true) ∧ Below w.heap.size w w' := long_walk w ht k over f (u8_wf hw).1 (u8_wf hw).2
end Go.Proofs.YtabdobdopcfllaaDoor
