/-
  One call at the program's forest and at the reference's: plays, of Digest and Digests. Own work.
-/
import Derived.Test.YtabdobdopcfllaaDoorFScrC
namespace Go.Proofs.YtabdobdopcfllaaDoor
open Go.RowKit
attribute [local go_sem ↓] Go.wp_at_zero Go.wp_at_succ
set_option maxRecDepth 100000 in
set_option maxHeartbeats 2000000 in
theorem play_digest (W0 w : World) (hb0 : Below W0.heap.size W0 w) (m q : Nat) (K : Int) (LL : List ByteArray) (gB cB : Nat) (us : List Value) (hP : Pair w W0.heap.size m q K LL gB cB us) (at' : Int) (s : ByteArray) (n : Nat) (ao : Option Addr) (g off cap : Nat) (Bs : List (Int × Nat)) (hr : RdB W0 ao g off Bs.length Bs) (hmx : Bs.length ≤ 8796093021952) :
    Calls Tryd.prog 29 #[.pointer (some ⟨m + 1, 0, none⟩), .pointer (some ⟨q, 0, none⟩), .agg #[.int .i64 3, .int .i64 at', .string s, .int .u64 (n : Int), .slice ao Bs.length cap]] w fun e w' => e = .returned (.bool true) ∧ Plyd w w' W0.heap.size m q K gB us := by
  obtain ⟨w0, hw0⟩ : ∃ w0, w.alloc (.cells #[.int .i64 3, .int .i64 at', .string s, .int .u64 (n : Int), .slice ao Bs.length cap] 74) = w0 := ⟨_, rfl⟩
  have b0 : Below w.heap.size w w0 := by rw [← hw0]; exact bal (Below.refl w.heap.size w) _
  have HC : Hid (∀ W, Below w0.heap.size w0 W → _) := fun W hb => op_cells (w := w) (W := W) (kd := 3) (at' := at') (s := s) (n := n) (x := .slice ao Bs.length cap) (by rw [opC, hw0]; exact hb.block _ (by rw [← hw0]; simp))
  have HG0 : Hid (∀ W, Below w0.heap.size w0 W → St w W W0.heap.size m q K gB us LL gB cB us) := fun W hb => ((St.refl hP).next b0).next hb
  have HR : Hid (∀ W, Below w0.heap.size w0 W → RdB W ao g off Bs.length Bs) := fun W hb => hr.below (bnext hb0 (bnext b0 hb))
  have hbz := Below.refl w0.heap.size w0
  obtain ⟨z0, _, _, _⟩ := HC.out w0 hbz
  have h63 : (Bs.length : Int) ≤ 8796093021952 := by omega
  clear hP b0 hb0 hr hmx
  go_enter Tryd.func29, Tryd.ntmps29
  go_upto_region 17 with (fail)
  have HBz := hide hbz
  clear z0 hbz
  go_wp2
  go_loopg [16] Bs.length (fun gk i wr => ∃ j : Nat, j ≤ Bs.length ∧ gk = Bs.length - j ∧ i = .int .i64 (j : Int) ∧ Hid (Below w0.heap.size w0 wr))
  case atStart =>
    go_light
    exact ⟨0, Nat.zero_le _, rfl, rfl, HBz.out⟩
  case round =>
    obtain ⟨j, hj, rfl, rfl, HI⟩ := hrel
    have hz0 : (0 : Int) ≤ (j : Int) := Int.natCast_nonneg _
    obtain ⟨_, _, _, z4⟩ := HC.out wr HI.out
    by_cases hlt : j < Bs.length
    · have hz : (j : Int) < (Bs.length : Int) := by omega
      by_cases h20 : j < 20
      · have hz2 : (j : Int) < 20 := by omega
        obtain rfl := (HR.out wr HI.out).addr (by omega)
        have hfit := (HR.out wr HI.out).fit (Bs.getD j (0, 0)) (by rw [List.getD_eq_getElem?_getD, List.getElem?_eq_getElem hlt]; exact List.getElem_mem _)
        have HX : Hid (∀ W, Below w0.heap.size w0 W → W.cell? ⟨g, off + j * 2, none⟩ = some (.int .i64 (Bs.getD j (0, 0)).1) ∧ W.cell? ⟨g, off + j * 2 + 1, none⟩ = some (.int .u64 ((Bs.getD j (0, 0)).2 : Nat)) ∧ W.cell? ⟨w.heap.size, 4, none⟩ = some (.slice (some ⟨g, off, none⟩) Bs.length cap)) := fun W hb => ⟨((HR.out W hb).cell j hlt).1, ((HR.out W hb).cell j hlt).2, (HC.out W hb).2.2.2⟩
        generalize Bs.getD j (0, 0) = x at *
        obtain ⟨h, k⟩ := x
        obtain ⟨d, hd⟩ : ∃ d, (ff (clk K) LL h k).getD ByteArray.empty = d := ⟨_, rfl⟩
        obtain ⟨ok, hok⟩ : ∃ ok, (ff (clk K) LL h k).isSome = ok := ⟨_, rfl⟩
        have H1 : Hid (∀ W, Below w0.heap.size w0 W → Calls Tryd.prog 20 #[.pointer (some ⟨m + 1, 0, none⟩), .agg #[.int .i64 h, .int .u64 (k : Int)]] W fun e w' => e = .returned (.tuple #[.string d, .bool ok]) ∧ Below W.heap.size W w') := fun W hb => (fdigest_any W m K LL (HG0.out W hb).pr.fr h k hfit d ok ⟨hd, hok⟩).mono fun e w' hh => ⟨hh.1, by first | (rw [hh.2]; exact Below.refl _ _) | (rw [← hh.2]; exact Below.refl _ _) | exact hh.2⟩
        have H2 : Hid (∀ W, Below w0.heap.size w0 W → Calls Tryd.prog 47 #[.pointer (some ⟨q, 0, none⟩), .agg #[.int .i64 h, .int .u64 (k : Int)]] W fun e w' => e = .returned (.tuple #[.string d, .bool ok]) ∧ Below W.heap.size W w') := fun W hb => (refdigest_any W _ q K LL gB cB us (HG0.out W hb).pr.rf h k hfit d ok ⟨hd, hok⟩).mono fun e w' hh => ⟨hh.1, by first | (rw [hh.2]; exact Below.refl _ _) | (rw [← hh.2]; exact Below.refl _ _) | exact hh.2⟩
        obtain ⟨c0, c1, _⟩ := HX.out wr HI.out
        clear hd hok hfit HR HC
        go_wp2_with (first
          | (go_at_call 20; with_reducible refine (H1.out _ HI.out).mono ?_; rintro e w1 ⟨rfl, hb1⟩; obtain ⟨y0, y1, y4⟩ := HX.out w1 (bnext HI.out hb1))
          | (go_at_call 47; with_reducible refine (H2.out _ (bnext HI.out hb1)).mono ?_; rintro e w2 ⟨rfl, hb2⟩))
        have HN := hide (bnext (bnext HI.out hb1) hb2)
        clear hb1 hb2 c0 c1 y0 y1 y4 z4 H1 H2 HX HI
        go_roundg (Bs.length - (j + 1))
        case rel =>
          go_light
          exact ⟨j + 1, by omega, rfl, by go_num, HN.out⟩
        case measure => go_light; omega
      · have hz2 : ¬ ((j : Int) < 20) := by omega
        have HG : Hid (∀ W, Below wr.heap.size wr W → St w W W0.heap.size m q K gB us LL gB cB us) := fun W hb => HG0.out W (bnext HI.out hb)
        clear HG0 HI HR HC hlt h20
        go_upto_region 39 with (fail)
        refine wp_region_plan (by kernel_rfl) [203, 204, 205, 206, 207, 208, 209, 210, 211, 212, 213, 214, 215, 216, 6] (by kernel_rfl) (planG [.pointer (some ⟨m + 1, 0, none⟩), .int .u64 (LL.length : Int), .pointer (some ⟨q, 0, none⟩), .int .u64 (LL.length : Int), .bool true, .bool true, .pointer (some ⟨m + 1, 0, none⟩), .int .i64 K, .pointer (some ⟨q, 0, none⟩), .pointer (some ⟨q, 0, none⟩), .pointer (some ⟨q, 0, none⟩), .int .i64 K, .bool true, .bool true, .bool true] []) (planG_mono _ _) ?step ?fin
        case fin =>
          intro Ax wx hBx hde hsi hsm hΦ
          have h6 : Ax.tmps.getD 6 undef = .bool true := hΦ 14 (by decide)
          have hr : (results Tryd.f29 Ax.tmps).run Tryd.prog wx = .ok (.bool true) wx := by rw [← h6]; exact results_tmp rfl _ _ _
          have HF : Hid (Ax.defers = [] ∧ _ ∧ (results Tryd.f29 Ax.tmps).run Tryd.prog wx = .ok (.bool true) wx) := ⟨hde, HG.out _ hBx, hr⟩
          clear hr hde hsm hΦ h6 hBx hsi
          go_wp2
          exact bodyPost_ret HF.out.2.2 HF.out.1 ⟨rfl, _, _, _, _, HF.out.2.1⟩
        case step =>
          refine ⟨?_, ?_, ?_, ?_, ?_, ?_, ?_, ?_, ?_, ?_, ?_, ?_, ?_, ?_, ?_, trivial⟩
          · intro Ac Wc Kc hB hsm dep hK
            have t0 : Ac.tmps.getD 0 undef = .pointer (some ⟨m + 1, 0, none⟩) := hsm 0 rfl
            show Oper.wp _ _ Ac Wc Kc _
            go_simp
            exact hK _ _ rfl (Below.refl _ _)
          · intro Ac Wc Kc hB hsm dep hK
            have t203 : Ac.tmps.getD 203 undef = .pointer (some ⟨m + 1, 0, none⟩) := dep 0 rfl
            show Oper.wp _ _ Ac Wc Kc _
            go_simp
            refine (fsize_b Wc m K LL (HG.out Wc hB).pr.fr).mono ?_
            rintro e w' ⟨rfl, hb⟩
            exact hK _ _ rfl hb
          · intro Ac Wc Kc hB hsm dep hK
            have t1 : Ac.tmps.getD 1 undef = .pointer (some ⟨q, 0, none⟩) := hsm 1 rfl
            show Oper.wp _ _ Ac Wc Kc _
            go_simp
            exact hK _ _ rfl (Below.refl _ _)
          · intro Ac Wc Kc hB hsm dep hK
            have t205 : Ac.tmps.getD 205 undef = .pointer (some ⟨q, 0, none⟩) := dep 2 rfl
            show Oper.wp _ _ Ac Wc Kc _
            go_simp
            refine (refsize_any Wc _ q K LL gB cB us (HG.out Wc hB).pr.rf).mono ?_
            rintro e w' ⟨rfl, hb⟩
            exact hK _ _ rfl hb
          · intro Ac Wc Kc hB hsm dep hK
            have t204 : Ac.tmps.getD 204 undef = .int .u64 (LL.length : Int) := dep 1 rfl
            have t206 : Ac.tmps.getD 206 undef = .int .u64 (LL.length : Int) := dep 3 rfl
            show Oper.wp _ _ Ac Wc Kc _
            go_simp
            exact hK _ _ rfl (Below.refl _ _)
          · intro Ac Wc Kc hB hsm dep hK
            have t207 : Ac.tmps.getD 207 undef = .bool true := dep 4 rfl
            show Oper.wp _ _ Ac Wc Kc _
            go_simp
            exact hK _ _ rfl (Below.refl _ _)
          · intro Ac Wc Kc hB hsm dep hK
            have t0 : Ac.tmps.getD 0 undef = .pointer (some ⟨m + 1, 0, none⟩) := hsm 0 rfl
            refine ⟨true, (show Ac.tmps.getD 208 undef = .bool true from dep 5 rfl), ?_⟩
            rw [if_pos rfl]
            go_simp
            exact hK _ _ rfl (Below.refl _ _)
          · intro Ac Wc Kc hB hsm dep hK
            have t209 : Ac.tmps.getD 209 undef = .pointer (some ⟨m + 1, 0, none⟩) := dep 6 rfl
            refine ⟨true, (show Ac.tmps.getD 208 undef = .bool true from dep 5 rfl), ?_⟩
            rw [if_pos rfl]
            go_simp
            refine (fstrength_b Wc m K LL (HG.out Wc hB).pr.fr).mono ?_
            rintro e w' ⟨rfl, hb⟩
            exact hK _ _ rfl hb
          · intro Ac Wc Kc hB hsm dep hK
            have t1 : Ac.tmps.getD 1 undef = .pointer (some ⟨q, 0, none⟩) := hsm 1 rfl
            refine ⟨true, (show Ac.tmps.getD 208 undef = .bool true from dep 5 rfl), ?_⟩
            rw [if_pos rfl]
            go_simp
            exact hK _ _ rfl (Below.refl _ _)
          · intro Ac Wc Kc hB hsm dep hK
            have t211 : Ac.tmps.getD 211 undef = .pointer (some ⟨q, 0, none⟩) := dep 8 rfl
            refine ⟨true, (show Ac.tmps.getD 208 undef = .bool true from dep 5 rfl), ?_⟩
            rw [if_pos rfl]
            go_simp
            exact hK _ _ rfl (Below.refl _ _)
          · intro Ac Wc Kc hB hsm dep hK
            have t212 : Ac.tmps.getD 212 undef = .pointer (some ⟨q, 0, none⟩) := dep 9 rfl
            refine ⟨true, (show Ac.tmps.getD 208 undef = .bool true from dep 5 rfl), ?_⟩
            rw [if_pos rfl]
            go_simp
            exact hK _ _ rfl (Below.refl _ _)
          · intro Ac Wc Kc hB hsm dep hK
            have t213 : Ac.tmps.getD 213 undef = .pointer (some ⟨q, 0, none⟩) := dep 10 rfl
            refine ⟨true, (show Ac.tmps.getD 208 undef = .bool true from dep 5 rfl), ?_⟩
            rw [if_pos rfl]
            have c0 := (HG.out Wc hB).pr.rf.lv.cells.1
            go_simp
            exact hK _ _ rfl (Below.refl _ _)
          · intro Ac Wc Kc hB hsm dep hK
            have t210 : Ac.tmps.getD 210 undef = .int .i64 K := dep 7 rfl
            have t214 : Ac.tmps.getD 214 undef = .int .i64 K := dep 11 rfl
            refine ⟨true, (show Ac.tmps.getD 208 undef = .bool true from dep 5 rfl), ?_⟩
            rw [if_pos rfl]
            go_simp
            exact hK _ _ rfl (Below.refl _ _)
          · intro Ac Wc Kc hB hsm dep hK
            have t208 : Ac.tmps.getD 208 undef = .bool true := dep 5 rfl
            have t215 : Ac.tmps.getD 215 undef = .bool true := dep 12 rfl
            show Oper.wp _ _ Ac Wc Kc _
            go_simp
            exact hK _ _ rfl (Below.refl _ _)
          · intro Ac Wc Kc hB hsm dep hK
            have t216 : Ac.tmps.getD 216 undef = .bool true := dep 13 rfl
            show Oper.wp _ _ Ac Wc Kc _
            go_simp
            exact hK _ _ rfl (Below.refl _ _)
    · have hz : ¬ ((j : Int) < (Bs.length : Int)) := by omega
      have HG : Hid (∀ W, Below wr.heap.size wr W → St w W W0.heap.size m q K gB us LL gB cB us) := fun W hb => HG0.out W (bnext HI.out hb)
      clear HG0 HI HR HC hlt
      go_upto_region 39 with (fail)
      refine wp_region_plan (by kernel_rfl) [203, 204, 205, 206, 207, 208, 209, 210, 211, 212, 213, 214, 215, 216, 6] (by kernel_rfl) (planG [.pointer (some ⟨m + 1, 0, none⟩), .int .u64 (LL.length : Int), .pointer (some ⟨q, 0, none⟩), .int .u64 (LL.length : Int), .bool true, .bool true, .pointer (some ⟨m + 1, 0, none⟩), .int .i64 K, .pointer (some ⟨q, 0, none⟩), .pointer (some ⟨q, 0, none⟩), .pointer (some ⟨q, 0, none⟩), .int .i64 K, .bool true, .bool true, .bool true] []) (planG_mono _ _) ?step ?fin
      case fin =>
        intro Ax wx hBx hde hsi hsm hΦ
        have h6 : Ax.tmps.getD 6 undef = .bool true := hΦ 14 (by decide)
        have hr : (results Tryd.f29 Ax.tmps).run Tryd.prog wx = .ok (.bool true) wx := by rw [← h6]; exact results_tmp rfl _ _ _
        have HF : Hid (Ax.defers = [] ∧ _ ∧ (results Tryd.f29 Ax.tmps).run Tryd.prog wx = .ok (.bool true) wx) := ⟨hde, HG.out _ hBx, hr⟩
        clear hr hde hsm hΦ h6 hBx hsi
        go_wp2
        exact bodyPost_ret HF.out.2.2 HF.out.1 ⟨rfl, _, _, _, _, HF.out.2.1⟩
      case step =>
        refine ⟨?_, ?_, ?_, ?_, ?_, ?_, ?_, ?_, ?_, ?_, ?_, ?_, ?_, ?_, ?_, trivial⟩
        · intro Ac Wc Kc hB hsm dep hK
          have t0 : Ac.tmps.getD 0 undef = .pointer (some ⟨m + 1, 0, none⟩) := hsm 0 rfl
          show Oper.wp _ _ Ac Wc Kc _
          go_simp
          exact hK _ _ rfl (Below.refl _ _)
        · intro Ac Wc Kc hB hsm dep hK
          have t203 : Ac.tmps.getD 203 undef = .pointer (some ⟨m + 1, 0, none⟩) := dep 0 rfl
          show Oper.wp _ _ Ac Wc Kc _
          go_simp
          refine (fsize_b Wc m K LL (HG.out Wc hB).pr.fr).mono ?_
          rintro e w' ⟨rfl, hb⟩
          exact hK _ _ rfl hb
        · intro Ac Wc Kc hB hsm dep hK
          have t1 : Ac.tmps.getD 1 undef = .pointer (some ⟨q, 0, none⟩) := hsm 1 rfl
          show Oper.wp _ _ Ac Wc Kc _
          go_simp
          exact hK _ _ rfl (Below.refl _ _)
        · intro Ac Wc Kc hB hsm dep hK
          have t205 : Ac.tmps.getD 205 undef = .pointer (some ⟨q, 0, none⟩) := dep 2 rfl
          show Oper.wp _ _ Ac Wc Kc _
          go_simp
          refine (refsize_any Wc _ q K LL gB cB us (HG.out Wc hB).pr.rf).mono ?_
          rintro e w' ⟨rfl, hb⟩
          exact hK _ _ rfl hb
        · intro Ac Wc Kc hB hsm dep hK
          have t204 : Ac.tmps.getD 204 undef = .int .u64 (LL.length : Int) := dep 1 rfl
          have t206 : Ac.tmps.getD 206 undef = .int .u64 (LL.length : Int) := dep 3 rfl
          show Oper.wp _ _ Ac Wc Kc _
          go_simp
          exact hK _ _ rfl (Below.refl _ _)
        · intro Ac Wc Kc hB hsm dep hK
          have t207 : Ac.tmps.getD 207 undef = .bool true := dep 4 rfl
          show Oper.wp _ _ Ac Wc Kc _
          go_simp
          exact hK _ _ rfl (Below.refl _ _)
        · intro Ac Wc Kc hB hsm dep hK
          have t0 : Ac.tmps.getD 0 undef = .pointer (some ⟨m + 1, 0, none⟩) := hsm 0 rfl
          refine ⟨true, (show Ac.tmps.getD 208 undef = .bool true from dep 5 rfl), ?_⟩
          rw [if_pos rfl]
          go_simp
          exact hK _ _ rfl (Below.refl _ _)
        · intro Ac Wc Kc hB hsm dep hK
          have t209 : Ac.tmps.getD 209 undef = .pointer (some ⟨m + 1, 0, none⟩) := dep 6 rfl
          refine ⟨true, (show Ac.tmps.getD 208 undef = .bool true from dep 5 rfl), ?_⟩
          rw [if_pos rfl]
          go_simp
          refine (fstrength_b Wc m K LL (HG.out Wc hB).pr.fr).mono ?_
          rintro e w' ⟨rfl, hb⟩
          exact hK _ _ rfl hb
        · intro Ac Wc Kc hB hsm dep hK
          have t1 : Ac.tmps.getD 1 undef = .pointer (some ⟨q, 0, none⟩) := hsm 1 rfl
          refine ⟨true, (show Ac.tmps.getD 208 undef = .bool true from dep 5 rfl), ?_⟩
          rw [if_pos rfl]
          go_simp
          exact hK _ _ rfl (Below.refl _ _)
        · intro Ac Wc Kc hB hsm dep hK
          have t211 : Ac.tmps.getD 211 undef = .pointer (some ⟨q, 0, none⟩) := dep 8 rfl
          refine ⟨true, (show Ac.tmps.getD 208 undef = .bool true from dep 5 rfl), ?_⟩
          rw [if_pos rfl]
          go_simp
          exact hK _ _ rfl (Below.refl _ _)
        · intro Ac Wc Kc hB hsm dep hK
          have t212 : Ac.tmps.getD 212 undef = .pointer (some ⟨q, 0, none⟩) := dep 9 rfl
          refine ⟨true, (show Ac.tmps.getD 208 undef = .bool true from dep 5 rfl), ?_⟩
          rw [if_pos rfl]
          go_simp
          exact hK _ _ rfl (Below.refl _ _)
        · intro Ac Wc Kc hB hsm dep hK
          have t213 : Ac.tmps.getD 213 undef = .pointer (some ⟨q, 0, none⟩) := dep 10 rfl
          refine ⟨true, (show Ac.tmps.getD 208 undef = .bool true from dep 5 rfl), ?_⟩
          rw [if_pos rfl]
          have c0 := (HG.out Wc hB).pr.rf.lv.cells.1
          go_simp
          exact hK _ _ rfl (Below.refl _ _)
        · intro Ac Wc Kc hB hsm dep hK
          have t210 : Ac.tmps.getD 210 undef = .int .i64 K := dep 7 rfl
          have t214 : Ac.tmps.getD 214 undef = .int .i64 K := dep 11 rfl
          refine ⟨true, (show Ac.tmps.getD 208 undef = .bool true from dep 5 rfl), ?_⟩
          rw [if_pos rfl]
          go_simp
          exact hK _ _ rfl (Below.refl _ _)
        · intro Ac Wc Kc hB hsm dep hK
          have t208 : Ac.tmps.getD 208 undef = .bool true := dep 5 rfl
          have t215 : Ac.tmps.getD 215 undef = .bool true := dep 12 rfl
          show Oper.wp _ _ Ac Wc Kc _
          go_simp
          exact hK _ _ rfl (Below.refl _ _)
        · intro Ac Wc Kc hB hsm dep hK
          have t216 : Ac.tmps.getD 216 undef = .bool true := dep 13 rfl
          show Oper.wp _ _ Ac Wc Kc _
          go_simp
          exact hK _ _ rfl (Below.refl _ _)
set_option maxRecDepth 100000 in
set_option maxHeartbeats 2000000 in
theorem play_digests (W0 w : World) (hb0 : Below W0.heap.size W0 w) (m q : Nat) (K : Int) (LL : List ByteArray) (gB cB : Nat) (us : List Value) (hP : Pair w W0.heap.size m q K LL gB cB us) (at' : Int) (s : ByteArray) (n : Nat) (ao : Option Addr) (g off cap : Nat) (Bs : List (Int × Nat)) (hr : RdB W0 ao g off Bs.length Bs) (hmx : Bs.length ≤ 8796093021952) (hno : ao = none → cap = 0) :
    Calls Tryd.prog 29 #[.pointer (some ⟨m + 1, 0, none⟩), .pointer (some ⟨q, 0, none⟩), .agg #[.int .i64 4, .int .i64 at', .string s, .int .u64 (n : Int), .slice ao Bs.length cap]] w fun e w' => e = .returned (.bool true) ∧ Plyd w w' W0.heap.size m q K gB us := by
  obtain ⟨w0, hw0⟩ : ∃ w0, w.alloc (.cells #[.int .i64 4, .int .i64 at', .string s, .int .u64 (n : Int), .slice ao Bs.length cap] 74) = w0 := ⟨_, rfl⟩
  have b0 : Below w.heap.size w w0 := by rw [← hw0]; exact bal (Below.refl w.heap.size w) _
  have HC : Hid (∀ W, Below w0.heap.size w0 W → _) := fun W hb => op_cells (w := w) (W := W) (kd := 4) (at' := at') (s := s) (n := n) (x := .slice ao Bs.length cap) (by rw [opC, hw0]; exact hb.block _ (by rw [← hw0]; simp))
  have HG0 : Hid (∀ W, Below w0.heap.size w0 W → St w W W0.heap.size m q K gB us LL gB cB us) := fun W hb => ((St.refl hP).next b0).next hb
  have HR : Hid (∀ W, Below w0.heap.size w0 W → RdB W ao g off Bs.length Bs) := fun W hb => hr.below (bnext hb0 (bnext b0 hb))
  have HP := hide hP
  have hbz := Below.refl w0.heap.size w0
  obtain ⟨z0, _, _, z4⟩ := HC.out w0 hbz
  have HM : Hid (Bs.length ≤ 8796093021952 ∧ (ao = none → cap = 0) ∧ (∀ b ∈ Bs, Fitb b.1 b.2) ∧ w.heap.size ≤ w0.heap.size) := ⟨hmx, hno, hr.fit, b0.size⟩
  obtain ⟨A, hA⟩ : ∃ A, (dgs (clk K) LL Bs).getD [] = A := ⟨_, rfl⟩
  obtain ⟨ok, hok⟩ : ∃ ok, (dgs (clk K) LL Bs).isSome = ok := ⟨_, rfl⟩
  have HD : Hid ((dgs (clk K) LL Bs).getD [] = A ∧ (dgs (clk K) LL Bs).isSome = ok) := ⟨hA, hok⟩
  obtain ⟨zA, lA⟩ := dgs_max K LL Bs
  rw [hA] at zA lA
  have HZ : Hid ((∀ x ∈ A, x.size ≤ 9223372036854775807) ∧ A.length ≤ 8796093022208) := ⟨zA, by omega⟩
  have hA6 : (A.length : Int) ≤ 8796093021952 := by omega
  clear hP b0 hb0 hr hmx hno hA hok zA lA
  go_enter Tryd.func29, Tryd.ntmps29
  go_upto_region 28 with (first
    | (go_at_call 48; with_reducible refine (lent_any w0 ao g off Bs.length cap Bs (HR.out w0 hbz) HM.out.1 HM.out.2.1).mono ?_; rintro e w1 ⟨gm, cm, rfl, hm1, hc1, hb1⟩)
    | (go_at_call 23; with_reducible refine (fdigests_all w1 m K LL (HG0.out w1 hb1).pr.fr (some ⟨gm, 0, none⟩) gm 0 cm Bs (room_rdb hm1 HM.out.2.2.1) HM.out.1 A ok HD).mono ?_; rintro e w2 ⟨v, rfl, ho2, hb2⟩; obtain ⟨_, _, _, y4⟩ := HC.out w2 (bnext hb1 hb2))
    | (go_at_call 49; with_reducible refine (rdigests_all w2 _ q K LL gB cB us (HG0.out w2 (bnext hb1 hb2)).pr.rf ao g off cap Bs (HR.out w2 (bnext hb1 hb2)) HM.out.1 A ok HD).mono ?_; rintro e w3 ⟨u, rfl, ho3, hb3⟩))
  have HB3 := hide (bnext (bnext hb1 hb2) hb3)
  have HV3 := hide (own_next ho2 hb3 (Nat.le_refl _))
  have HU3 := hide ho3
  have HM3 := hide (Cv.ownB_next (Cv.ownB_next hm1 hb2) hb3)
  have HL1 : Hid (Bs.length + 1 ≤ cm ∧ w0.heap.size ≤ w1.heap.size) := ⟨hc1, hb1.size⟩
  clear hb1 hb2 hb3 ho2 ho3 hm1 hc1 y4 z0 z4 HD
  go_upto_region 30 with (first
    | (go_at_call 24; with_reducible refine (same_own w3 v u _ _ A HV3.out HU3.out HZ.out.1 HZ.out.2).mono ?_; rintro e w4 ⟨rfl, hb4⟩; obtain ⟨_, _, _, y4⟩ := HC.out w4 (bnext HB3.out hb4))
    | (go_at_call 50; with_reducible refine (kept_any w4 _ gm cm Bs ao g off cap (Cv.ownB_next HM3.out hb4) HL1.out.1 (HR.out w4 (bnext HB3.out hb4)) HM.out.1).mono ?_; rintro e w5 ⟨rfl, hb5⟩))
  obtain ⟨ao1, n1, c1, rfl⟩ := Mm.own_slice HV3.out
  obtain rfl : A.length = n1 := Mm.ownS_len HV3.out
  have HO5 := hide (own_next (own_next HV3.out hb4 (Nat.le_refl _)) hb5 (Nat.le_refl _))
  have HS5 := hide (HG0.out w5 (bnext (bnext HB3.out hb4) hb5))
  have HV : Hid (∀ g', (Value.slice ao1 A.length c1).ownBlock = some g' → w.heap.size ≤ g' ∧ ¬ Foot q gB us g') := fun g' hg => by
    have h1 := (Mm.owns_lt HO5.out g' hg).1
    have h2 := HL1.out.2
    have h3 := HM.out.2.2.2
    exact ⟨by omega, fun hf => by have := (HP.out.lt (.inr (.inr hf))).2; omega⟩
  clear hb4 hb5 y4 HV3 HU3 HM3 HB3 HR HC
  go_wp2
  go_loopg [26] A.length (fun gk i wr => ∃ j : Nat, j ≤ A.length ∧ gk = A.length - j ∧ i = .int .i64 (j : Int) ∧ Hid (∃ C : List ByteArray, C.length = A.length ∧ OwnS wr w1.heap.size (.slice ao1 A.length c1) C ∧ St w wr W0.heap.size m q K gB us LL gB cB us))
  case atStart =>
    go_light
    exact ⟨0, Nat.zero_le _, rfl, rfl, A, rfl, HO5.out, HS5.out⟩
  case round =>
    obtain ⟨j, hj, rfl, rfl, HI⟩ := hrel
    by_cases hlt : j < A.length
    · have hz : (j : Int) < (A.length : Int) := by omega
      have hz0 : (0 : Int) ≤ (j : Int) := Int.natCast_nonneg _
      obtain ⟨C, hC, hOC, hSC⟩ := HI.out
      obtain ⟨g', rfl⟩ := Mm.ownS_some hOC (by omega)
      obtain ⟨cc, cf⟩ := own_cell hOC (j := j) (by omega)
      have HN : Hid (∃ C' : List ByteArray, C'.length = A.length ∧ OwnS (wr.setCell ⟨g', j, none⟩ (.string ⟨#[33]⟩)) w1.heap.size (.slice (some ⟨g', 0, none⟩) A.length c1) C' ∧ St w (wr.setCell ⟨g', j, none⟩ (.string ⟨#[33]⟩)) W0.heap.size m q K gB us LL gB cB us) :=
        ⟨C.set j ⟨#[33]⟩, by rw [List.length_set]; exact hC, Mm.ownS_set hOC _, hSC.set HP.out j _ (HV.out g' rfl).1 (HV.out g' rfl).2⟩
      clear hC hOC hSC HI
      go_wp2
      go_roundg (A.length - (j + 1))
      case rel =>
        go_light
        exact ⟨j + 1, by omega, rfl, by go_num, HN.out⟩
      case measure => go_light; omega
    · obtain rfl : j = A.length := by omega
      have hz : ¬ ((A.length : Int) < (A.length : Int)) := by omega
      obtain ⟨C, _, _, hSC⟩ := HI.out
      have HG : Hid (∀ W, Below wr.heap.size wr W → St w W W0.heap.size m q K gB us LL gB cB us) := fun W hb => hSC.next hb
      clear hSC HI hlt HG0
      go_upto_region 39 with (fail)
      refine wp_region_plan (by kernel_rfl) [203, 204, 205, 206, 207, 208, 209, 210, 211, 212, 213, 214, 215, 216, 6] (by kernel_rfl) (planG [.pointer (some ⟨m + 1, 0, none⟩), .int .u64 (LL.length : Int), .pointer (some ⟨q, 0, none⟩), .int .u64 (LL.length : Int), .bool true, .bool true, .pointer (some ⟨m + 1, 0, none⟩), .int .i64 K, .pointer (some ⟨q, 0, none⟩), .pointer (some ⟨q, 0, none⟩), .pointer (some ⟨q, 0, none⟩), .int .i64 K, .bool true, .bool true, .bool true] []) (planG_mono _ _) ?step ?fin
      case fin =>
        intro Ax wx hBx hde hsi hsm hΦ
        have h6 : Ax.tmps.getD 6 undef = .bool true := hΦ 14 (by decide)
        have hr : (results Tryd.f29 Ax.tmps).run Tryd.prog wx = .ok (.bool true) wx := by rw [← h6]; exact results_tmp rfl _ _ _
        have HF : Hid (Ax.defers = [] ∧ _ ∧ (results Tryd.f29 Ax.tmps).run Tryd.prog wx = .ok (.bool true) wx) := ⟨hde, HG.out _ hBx, hr⟩
        clear hr hde hsm hΦ h6 hBx hsi
        go_wp2
        exact bodyPost_ret HF.out.2.2 HF.out.1 ⟨rfl, _, _, _, _, HF.out.2.1⟩
      case step =>
        refine ⟨?_, ?_, ?_, ?_, ?_, ?_, ?_, ?_, ?_, ?_, ?_, ?_, ?_, ?_, ?_, trivial⟩
        · intro Ac Wc Kc hB hsm dep hK
          have t0 : Ac.tmps.getD 0 undef = .pointer (some ⟨m + 1, 0, none⟩) := hsm 0 rfl
          show Oper.wp _ _ Ac Wc Kc _
          go_simp
          exact hK _ _ rfl (Below.refl _ _)
        · intro Ac Wc Kc hB hsm dep hK
          have t203 : Ac.tmps.getD 203 undef = .pointer (some ⟨m + 1, 0, none⟩) := dep 0 rfl
          show Oper.wp _ _ Ac Wc Kc _
          go_simp
          refine (fsize_b Wc m K LL (HG.out Wc hB).pr.fr).mono ?_
          rintro e w' ⟨rfl, hb⟩
          exact hK _ _ rfl hb
        · intro Ac Wc Kc hB hsm dep hK
          have t1 : Ac.tmps.getD 1 undef = .pointer (some ⟨q, 0, none⟩) := hsm 1 rfl
          show Oper.wp _ _ Ac Wc Kc _
          go_simp
          exact hK _ _ rfl (Below.refl _ _)
        · intro Ac Wc Kc hB hsm dep hK
          have t205 : Ac.tmps.getD 205 undef = .pointer (some ⟨q, 0, none⟩) := dep 2 rfl
          show Oper.wp _ _ Ac Wc Kc _
          go_simp
          refine (refsize_any Wc _ q K LL gB cB us (HG.out Wc hB).pr.rf).mono ?_
          rintro e w' ⟨rfl, hb⟩
          exact hK _ _ rfl hb
        · intro Ac Wc Kc hB hsm dep hK
          have t204 : Ac.tmps.getD 204 undef = .int .u64 (LL.length : Int) := dep 1 rfl
          have t206 : Ac.tmps.getD 206 undef = .int .u64 (LL.length : Int) := dep 3 rfl
          show Oper.wp _ _ Ac Wc Kc _
          go_simp
          exact hK _ _ rfl (Below.refl _ _)
        · intro Ac Wc Kc hB hsm dep hK
          have t207 : Ac.tmps.getD 207 undef = .bool true := dep 4 rfl
          show Oper.wp _ _ Ac Wc Kc _
          go_simp
          exact hK _ _ rfl (Below.refl _ _)
        · intro Ac Wc Kc hB hsm dep hK
          have t0 : Ac.tmps.getD 0 undef = .pointer (some ⟨m + 1, 0, none⟩) := hsm 0 rfl
          refine ⟨true, (show Ac.tmps.getD 208 undef = .bool true from dep 5 rfl), ?_⟩
          rw [if_pos rfl]
          go_simp
          exact hK _ _ rfl (Below.refl _ _)
        · intro Ac Wc Kc hB hsm dep hK
          have t209 : Ac.tmps.getD 209 undef = .pointer (some ⟨m + 1, 0, none⟩) := dep 6 rfl
          refine ⟨true, (show Ac.tmps.getD 208 undef = .bool true from dep 5 rfl), ?_⟩
          rw [if_pos rfl]
          go_simp
          refine (fstrength_b Wc m K LL (HG.out Wc hB).pr.fr).mono ?_
          rintro e w' ⟨rfl, hb⟩
          exact hK _ _ rfl hb
        · intro Ac Wc Kc hB hsm dep hK
          have t1 : Ac.tmps.getD 1 undef = .pointer (some ⟨q, 0, none⟩) := hsm 1 rfl
          refine ⟨true, (show Ac.tmps.getD 208 undef = .bool true from dep 5 rfl), ?_⟩
          rw [if_pos rfl]
          go_simp
          exact hK _ _ rfl (Below.refl _ _)
        · intro Ac Wc Kc hB hsm dep hK
          have t211 : Ac.tmps.getD 211 undef = .pointer (some ⟨q, 0, none⟩) := dep 8 rfl
          refine ⟨true, (show Ac.tmps.getD 208 undef = .bool true from dep 5 rfl), ?_⟩
          rw [if_pos rfl]
          go_simp
          exact hK _ _ rfl (Below.refl _ _)
        · intro Ac Wc Kc hB hsm dep hK
          have t212 : Ac.tmps.getD 212 undef = .pointer (some ⟨q, 0, none⟩) := dep 9 rfl
          refine ⟨true, (show Ac.tmps.getD 208 undef = .bool true from dep 5 rfl), ?_⟩
          rw [if_pos rfl]
          go_simp
          exact hK _ _ rfl (Below.refl _ _)
        · intro Ac Wc Kc hB hsm dep hK
          have t213 : Ac.tmps.getD 213 undef = .pointer (some ⟨q, 0, none⟩) := dep 10 rfl
          refine ⟨true, (show Ac.tmps.getD 208 undef = .bool true from dep 5 rfl), ?_⟩
          rw [if_pos rfl]
          have c0 := (HG.out Wc hB).pr.rf.lv.cells.1
          go_simp
          exact hK _ _ rfl (Below.refl _ _)
        · intro Ac Wc Kc hB hsm dep hK
          have t210 : Ac.tmps.getD 210 undef = .int .i64 K := dep 7 rfl
          have t214 : Ac.tmps.getD 214 undef = .int .i64 K := dep 11 rfl
          refine ⟨true, (show Ac.tmps.getD 208 undef = .bool true from dep 5 rfl), ?_⟩
          rw [if_pos rfl]
          go_simp
          exact hK _ _ rfl (Below.refl _ _)
        · intro Ac Wc Kc hB hsm dep hK
          have t208 : Ac.tmps.getD 208 undef = .bool true := dep 5 rfl
          have t215 : Ac.tmps.getD 215 undef = .bool true := dep 12 rfl
          show Oper.wp _ _ Ac Wc Kc _
          go_simp
          exact hK _ _ rfl (Below.refl _ _)
        · intro Ac Wc Kc hB hsm dep hK
          have t216 : Ac.tmps.getD 216 undef = .bool true := dep 13 rfl
          show Oper.wp _ _ Ac Wc Kc _
          go_simp
          exact hK _ _ rfl (Below.refl _ _)
end Go.Proofs.YtabdobdopcfllaaDoor
