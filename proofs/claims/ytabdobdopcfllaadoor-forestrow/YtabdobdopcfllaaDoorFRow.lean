/-
  ForestRow: the walk. Own work.
-/
import Derived.Test.YtabdobdopcfllaaDoorFRowJ
namespace Go.Proofs.YtabdobdopcfllaaDoor
open Go.RowKit
attribute [local go_sem ↓] Go.wp_at_zero Go.wp_at_succ
theorem rt_size {c : Nat} (hc : c ≤ 32) (M : List ByteArray) (n : Nat) : (rtD c M n).size = c := by rw [rtD, dg_size hc]
theorem clk_in {K : Int} (h1 : 1 ≤ K) (h2 : K ≤ 32) : (clk K : Int) = K := by
  unfold clk
  rw [if_neg (by omega), if_neg (by omega)]
  omega
set_option maxRecDepth 100000 in
set_option maxHeartbeats 4000000 in
theorem row_walk (w : World) (ht : Tb w) (k : Int) (ao : Option Addr) (b off len cap : Nat) (ss : List ByteArray) (hr : RdS w ao b off len ss) (hc : len ≤ cap) :
    Calls Tryd.prog 4 #[.int .i64 k, .slice ao len cap] w fun e w' => e = .returned (.bool true) ∧ Below w.heap.size w w' := by
  obtain ⟨K, hK⟩ : ∃ K, stg k = K := ⟨_, rfl⟩
  obtain ⟨k1, k2⟩ := stg_in k
  rw [hK] at k1 k2
  obtain ⟨n0, hn0⟩ : ∃ n, min len 70 = n := ⟨_, rfl⟩
  obtain ⟨S, hS⟩ : ∃ S, ss.take n0 = S := ⟨_, rfl⟩
  have hr0 := hr.take (n := n0) (by omega)
  rw [hS] at hr0
  obtain rfl := hr0.hl
  obtain ⟨r0, hr0'⟩ : ∃ r0, Hid (rtD (clk K) [] 0 = r0) := ⟨_, rfl⟩
  have HAl : Hid (Calls Tryd.prog 8 #[] w fun e w' => e = .returned (.bool true) ∧ Below w.heap.size w w') := alive_any w ht
  have HSt : Hid (∀ W, Calls Tryd.prog 9 #[.int .i64 k] W fun e w' => e = .returned (.int .i64 K) ∧ W = w') := fun W => strength_any W k K hK
  have HFw : Hid (∀ W, Calls Tryd.prog 15 #[.slice ao len cap] W fun e w' => e = .returned (.slice ao S.length cap) ∧ W = w') := fun W => few_any W ao len cap hc S.length hn0
  have HN : Hid (∀ W, Calls Tryd.prog 10 #[.int .i64 K] W fun e w' => e = .returned (.tuple #[.pointer (some ⟨W.heap.size + 1, 0, none⟩), .int .i64 0]) ∧ Frs w' W.heap.size K [] ∧ Below W.heap.size W w') := fun W => fnew_ok W K k1 k2
  have HR0 : Hid (∀ W m, Tb W → Frs W m K [] → Calls Tryd.prog 16 #[.pointer (some ⟨m + 1, 0, none⟩), .int .u64 0] W fun e w' => e = .returned (.tuple #[.agg #[.int .u64 0, .string r0], .int .i64 0]) ∧ Below W.heap.size W w') := fun W m hT hF => froot_ok W hT m K [] hF 0 (Nat.le_refl _) r0 hr0'
  have HT := hide ht
  have HS70 : Hid (S.length ≤ 70) := by show _ ≤ _; omega
  have hl70 : (S.length : Int) ≤ 70 := by omega
  have HRd : Hid (∀ W, Below w.heap.size w W → RdS W ao b off S.length S) := fun W hb => hr0.next hb (Nat.le_refl _)
  have HKK := hide (And.intro k1 k2)
  have HKz := hide (clk_in k1 k2)
  clear ht hr hc hK k1 k2 hn0 hS hr0
  go_enter Tryd.func4, Tryd.ntmps4
  go_upto_region 13 with (first
    | (go_at_call 8; with_reducible refine HAl.out.mono ?_; rintro e w1 ⟨rfl, hb1⟩)
    | (go_at_call 9; with_reducible refine (HSt.out _).mono ?_; rintro e w' ⟨rfl, rfl⟩)
    | (go_at_call 15; with_reducible refine (HFw.out _).mono ?_; rintro e w' ⟨rfl, rfl⟩)
    | (go_at_call 10; with_reducible refine (HN.out _).mono ?_; rintro e w2 ⟨rfl, hF2, hb2⟩)
    | (go_at_call 11; with_reducible refine (num_id 0 _).mono ?_; rintro e wn ⟨rfl, rfl⟩)
    | (go_at_call 16; with_reducible refine (HR0.out _ _ (HT.out.next (bnext hb1 hb2)) hF2).mono ?_; rintro e w3 ⟨rfl, hb3⟩))
  have hF3 := hF2.next hb3 (Nat.le_refl _)
  have hJ : RJ w1 (w3.alloc (.cells #[.int .u64 0, .string r0] 41)) w1.heap.size w3.heap.size K [] [] [] (.slice none 0 0) (.slice none 0 0) :=
    ⟨hF3.next (bal (Below.refl _ _) _) (Nat.le_refl _), owns_nil _ _, World.ownsRow_nil _ _ _ _, ⟨0, r0, heap_alloc_new w3 _⟩, hF3.lt, bal (bnext hb2 hb3) _⟩
  have HB1 := hide hb1
  have HW : Hid (∀ W M R P v7 v8, RJ w1 W w1.heap.size w3.heap.size K M R P v7 v8 → Below w.heap.size w W ∧ Tb W) := fun W M R P v7 v8 h => by
    have hB := bnext HB1.out h.bel
    exact ⟨hB, HT.out.next hB⟩
  have hz3 : w3.heap.size < (w3.alloc (.cells #[.int .u64 0, .string r0] 41)).heap.size := hJ.lt
  obtain ⟨q0, q1⟩ : (w3.alloc (.cells #[.int .u64 0, .string r0] 41)).cell? ⟨w3.heap.size, 0, none⟩ = some (.int .u64 0) ∧ (w3.alloc (.cells #[.int .u64 0, .string r0] 41)).cell? ⟨w3.heap.size, 1, none⟩ = some (.string r0) := ⟨by simp, by simp⟩
  have HJ := hide hJ
  clear hb1 hb2 hF2 hF3 hb3 hJ HAl HSt HFw HN HR0
  generalize w3.alloc (.cells #[.int .u64 0, .string r0] 41) = w4 at *
  generalize w3.heap.size = gc at *
  generalize hm1 : w1.heap.size = m at *
  go_upto_region 15 with (at_builtin; refine wpList_append_R _ rfl _ _ rfl (gc + 1) _ [] rfl (Cv.ownB_next HJ.out.rts (bal (Below.refl _ _) _)) _ [(0, r0)] rfl (rdc_root w4 0 r0 _) (by simp) (by simp; omega) ?_; intro v5 w5 ho5 hg5)
  have HJ5 : Hid (RJ w1 w5 m gc K [] (Rw (clk K) []) (rts (clk K) []) (.slice none 0 0) v5) := by
    have := (HJ.out.next (bal (Below.refl _ _) _)).growR ho5 hg5
    rw [Rw_nil, rts_nil, hr0'.out]
    exact this
  clear HJ hz3 q0 q1 ho5 hg5 hr0'
  go_wp2
  go_loopg [7, 8, 11] S.length (fun g v7 v8 i wr => ∃ j : Nat, j ≤ S.length ∧ g = S.length - j ∧ i = .int .i64 (j : Int) ∧ Hid (RJ w1 wr m gc K (tk (S.take j)) (Rw (clk K) (tk (S.take j))) (rts (clk K) (tk (S.take j))) v7 v8))
  case atStart =>
    go_light
    exact ⟨0, Nat.zero_le _, rfl, rfl, HJ5⟩
  case round =>
    clear HJ5
    obtain ⟨j, hj, rfl, rfl, HA⟩ := hrel
    by_cases hlt : j < S.length
    · have hz : (j : Int) < (S.length : Int) := by omega
      have hz0 : (0 : Int) ≤ (j : Int) := Int.natCast_nonneg _
      have hbw := (HW.out _ _ _ _ _ _ HA.out).1
      obtain rfl := (HRd.out wr hbw).ptr (by omega)
      have cj := (HRd.out wr hbw).at hlt
      obtain ⟨x, hx⟩ : ∃ x, S.getD j ByteArray.empty = x := ⟨_, rfl⟩
      have HC : Hid (∀ W, Below w.heap.size w W → W.cell? ⟨b, off + j, none⟩ = some (.string x)) := fun W h => by rw [← hx]; exact (HRd.out W h).at hlt
      have htn := take_next hlt
      rw [hx] at cj htn
      by_cases hs : x.size ≤ 1048576
      · have htk := tk_yes (S.take j) x hs
        rw [← htn] at htk
        have hL : (tk (S.take j)).length ≤ 70 := by have h1 := tk_len (S.take j); have := HS70.out; rw [List.length_take] at h1; omega
        obtain ⟨t, hT⟩ : ∃ t, tr 64 ((tk (S.take j)).length + 1) = t := ⟨_, rfl⟩
        have ht16 : t ≤ 16 := by rw [← hT]; exact tr_small (by omega) (by omega)
        obtain ⟨M, hM⟩ : ∃ M, tk (S.take j) = M := ⟨_, rfl⟩
        rw [hM] at htk hL hT HA
        obtain ⟨r, hr⟩ : ∃ r, Hid (rtD (clk K) (M ++ [x]) (M.length + 1) = r) := ⟨_, rfl⟩
        have hrz : (r.size : Int) = K := by rw [← hr.out, rt_size (clk_le K)]; exact HKz.out
        have HAp : Hid (Calls Tryd.prog 12 #[.pointer (some ⟨m + 1, 0, none⟩), .string x] wr fun e w' => ∃ vl, e = .returned (.tuple #[vl, .int .i64 0]) ∧ RJ w1 w' m gc K (M ++ [x]) (Rw (clk K) M) (rts (clk K) M) u7 u8 ∧ Cv.RdC w' vl (nw (clk K) (M ++ [x]) t).length ((nw (clk K) (M ++ [x]) t).map Value.string)) :=
          (fappend_ok wr (HW.out _ _ _ _ _ _ HA.out).2 m K M HA.out.frs x hs (by omega) t hT).mono fun e w' ⟨v, e1, e2, e3, e4⟩ => ⟨v, e1, HA.out.chf e4 e2, Cv.rdc_own e3⟩
        have HSz : Hid (∀ W, Frs W m K (M ++ [x]) → Calls Tryd.prog 13 #[.pointer (some ⟨m + 1, 0, none⟩)] W fun e w' => e = .returned (.int .u64 ((M.length + 1 : Nat) : Int)) ∧ W = w') := fun W h => by
          have := fsize_any W _ K _ h
          rw [List.length_append, List.length_singleton] at this
          exact this.mono fun _ _ h => ⟨h.1, h.2.symm⟩
        have HRt : Hid (∀ W, Tb W → Frs W m K (M ++ [x]) → Calls Tryd.prog 16 #[.pointer (some ⟨m + 1, 0, none⟩), .int .u64 ((M.length + 1 : Nat) : Int)] W fun e w' => e = .returned (.tuple #[.agg #[.int .u64 ((M.length + 1 : Nat) : Int), .string r], .int .i64 0]) ∧ Below W.heap.size W w') := fun W hT hF =>
          froot_ok W hT m K (M ++ [x]) hF (M.length + 1) (by simp) r hr
        have HG : Hid (tk (S.take (j + 1)) = M ++ [x] ∧ M.length ≤ 70 ∧ Rw (clk K) (M ++ [x]) = Rw (clk K) M ++ nw (clk K) (M ++ [x]) t ∧ (Rw (clk K) M).length + (nw (clk K) (M ++ [x]) t).length ≤ 1048576 ∧ rts (clk K) (M ++ [x]) = rts (clk K) M ++ [(M.length + 1, r)] ∧ (rts (clk K) M).length ≤ 80) := by
          refine ⟨htk, hL, Rw_next _ _ _ _ (by omega) hT, ?_, ?_, by rw [rts_len]; omega⟩
          · rw [Rw_len, nw_len]; have := Pl.N_eq M.length; omega
          · rw [rts_next, hr.out]
        obtain ⟨n1, hn1⟩ : ∃ n1, M.length + 1 = n1 := ⟨_, rfl⟩
        rw [hn1] at HSz HRt HG
        clear hx htn hM hL hT htk hs ht16 hn1 hr hbw
        go_upto_region 23 with (first
          | (go_at_call 12; with_reducible refine HAp.out.mono ?_; rintro e w2 ⟨vl, rfl, hJ2, hrd2⟩)
          | (go_at_call 11; with_reducible refine (num_id 0 _).mono ?_; rintro e wn ⟨rfl, rfl⟩)
          | (at_builtin; refine wpList_append_G _ rfl _ _ rfl (gc + 1) _ _ rfl hJ2.row _ _ rfl hrd2 HG.out.2.2.2.1 hJ2.lt ?_; intro v3 w6 ho3 hg3; have hJ3 := hJ2.growS ho3 hg3)
          | (go_at_call 13; with_reducible refine (HSz.out _ hJ3.frs).mono ?_; rintro e w4' ⟨rfl, rfl⟩)
          | (go_at_call 16; with_reducible refine (HRt.out _ (HW.out _ _ _ _ _ _ hJ3).2 hJ3.frs).mono ?_; rintro e w7 ⟨rfl, hb7⟩; have hJ7 := hJ3.next hb7; obtain ⟨a7, d7, y0, y1⟩ := hJ7.cells; have f0 := hJ7.fr 0; have f1 := hJ7.fr 1))
        obtain ⟨hJ8, hc8⟩ := hJ7.set (n1 : Int) r
        obtain ⟨w8, hw8⟩ : ∃ w8, (w7.setCell ⟨gc, 0, none⟩ (.int .u64 (n1 : Int))).setCell ⟨gc, 1, none⟩ (.string r) = w8 := ⟨_, rfl⟩
        rw [hw8] at hJ8 hc8
        rw [hw8]
        have HK : Hid (∀ W, Below w8.heap.size w8 W → RJ w1 W m gc K (M ++ [x]) (Rw (clk K) M ++ nw (clk K) (M ++ [x]) t) (rts (clk K) M) v3 u8 ∧ W.cell? ⟨gc, 0, none⟩ = some (.int .u64 (n1 : Int)) ∧ W.cell? ⟨gc, 1, none⟩ = some (.string r) ∧ gc < W.heap.size) := fun W h => by
          obtain ⟨z0, z1⟩ := two_cells ((h.block gc hJ8.lt).trans hc8)
          exact ⟨hJ8.next h, z0, z1, (hJ8.next h).lt⟩
        clear hJ2 hrd2 ho3 hg3 hJ3 hb7 hJ7 y0 y1 f0 f1 hJ8 hc8 hw8 HAp HRt cj
        refine wp_region_planV (by kernel_rfl) [99, 100, 101, 102, 103, 104, 105, 106, 107, 108, 109, 110, 111, 112, 113, 114, 115] [.int .i64 0, .int .i64 0, .bool false, .bool false, .pointer (some ⟨gc, 0, none⟩), .int .u64 (n1 : Int), .pointer (some ⟨m + 1, 0, none⟩), .int .u64 (n1 : Int), .bool false, .bool false, .bool false, .pointer (some ⟨gc, 1, none⟩), .string r, .int .i64 K, .int .i64 K, .bool false, .bool false] (by kernel_rfl) rfl ?step ?fin
        case step =>
          refine ⟨?_, ?_, ?_, ?_, ?_, ?_, ?_, ?_, ?_, ?_, ?_, ?_, ?_, ?_, ?_, ?_, ?_, trivial⟩
          · intro Ac Wc Kc hB hsm dep hK
            have t10 : Ac.tmps.getD 10 undef = .int .i64 0 := hsm 10 rfl
            show Oper.wp _ _ Ac Wc Kc _
            go_simp
            exact hK _ _ rfl (Below.refl _ _)
          · intro Ac Wc Kc hB hsm dep hK
            have t99 : Ac.tmps.getD 99 undef = .int .i64 0 := dep 0 rfl
            show Oper.wp _ _ Ac Wc Kc _
            go_simp
            refine (num_any Wc 0).mono ?_
            rintro e w' ⟨rfl, hb⟩
            exact hK _ _ rfl hb
          · intro Ac Wc Kc hB hsm dep hK
            have t100 : Ac.tmps.getD 100 undef = .int .i64 0 := dep 1 rfl
            show Oper.wp _ _ Ac Wc Kc _
            go_simp
            exact hK _ _ rfl (Below.refl _ _)
          · intro Ac Wc Kc hB hsm dep hK
            have t101 : Ac.tmps.getD 101 undef = .bool false := dep 2 rfl
            show Oper.wp _ _ Ac Wc Kc _
            go_simp
            exact hK _ _ rfl (Below.refl _ _)
          · intro Ac Wc Kc hB hsm dep hK
            have t9 : Ac.tmps.getD 9 undef = .pointer (some ⟨gc, 0, none⟩) := hsm 9 rfl
            refine ⟨false, (show Ac.tmps.getD 102 undef = .bool false from dep 3 rfl), ?_⟩
            rw [if_pos rfl]
            go_simp
            exact hK _ _ rfl (Below.refl _ _)
          · intro Ac Wc Kc hB hsm dep hK
            have t103 : Ac.tmps.getD 103 undef = .pointer (some ⟨gc, 0, none⟩) := dep 4 rfl
            refine ⟨false, (show Ac.tmps.getD 102 undef = .bool false from dep 3 rfl), ?_⟩
            rw [if_pos rfl]
            have c0 := (HK.out Wc hB).2.1
            go_simp
            exact hK _ _ rfl (Below.refl _ _)
          · intro Ac Wc Kc hB hsm dep hK
            have t5 : Ac.tmps.getD 5 undef = .pointer (some ⟨m + 1, 0, none⟩) := hsm 5 rfl
            refine ⟨false, (show Ac.tmps.getD 102 undef = .bool false from dep 3 rfl), ?_⟩
            rw [if_pos rfl]
            go_simp
            exact hK _ _ rfl (Below.refl _ _)
          · intro Ac Wc Kc hB hsm dep hK
            have t105 : Ac.tmps.getD 105 undef = .pointer (some ⟨m + 1, 0, none⟩) := dep 6 rfl
            refine ⟨false, (show Ac.tmps.getD 102 undef = .bool false from dep 3 rfl), ?_⟩
            rw [if_pos rfl]
            go_simp
            refine ((HSz.out Wc (HK.out Wc hB).1.frs).mono fun e w' h => (show e = .returned (.int .u64 (n1 : Int)) ∧ Below Wc.heap.size Wc w' from ⟨h.1, by rw [← h.2]; exact Below.refl _ _⟩)).mono ?_
            rintro e w' ⟨rfl, hb⟩
            exact hK _ _ rfl hb
          · intro Ac Wc Kc hB hsm dep hK
            have t104 : Ac.tmps.getD 104 undef = .int .u64 (n1 : Int) := dep 5 rfl
            have t106 : Ac.tmps.getD 106 undef = .int .u64 (n1 : Int) := dep 7 rfl
            refine ⟨false, (show Ac.tmps.getD 102 undef = .bool false from dep 3 rfl), ?_⟩
            rw [if_pos rfl]
            go_simp
            exact hK _ _ rfl (Below.refl _ _)
          · intro Ac Wc Kc hB hsm dep hK
            have t102 : Ac.tmps.getD 102 undef = .bool false := dep 3 rfl
            have t107 : Ac.tmps.getD 107 undef = .bool false := dep 8 rfl
            show Oper.wp _ _ Ac Wc Kc _
            go_simp
            exact hK _ _ rfl (Below.refl _ _)
          · intro Ac Wc Kc hB hsm dep hK
            have t108 : Ac.tmps.getD 108 undef = .bool false := dep 9 rfl
            show Oper.wp _ _ Ac Wc Kc _
            go_simp
            exact hK _ _ rfl (Below.refl _ _)
          · intro Ac Wc Kc hB hsm dep hK
            have t9 : Ac.tmps.getD 9 undef = .pointer (some ⟨gc, 0, none⟩) := hsm 9 rfl
            refine ⟨false, (show Ac.tmps.getD 109 undef = .bool false from dep 10 rfl), ?_⟩
            rw [if_pos rfl]
            go_simp
            exact hK _ _ rfl (Below.refl _ _)
          · intro Ac Wc Kc hB hsm dep hK
            have t110 : Ac.tmps.getD 110 undef = .pointer (some ⟨gc, 1, none⟩) := dep 11 rfl
            refine ⟨false, (show Ac.tmps.getD 109 undef = .bool false from dep 10 rfl), ?_⟩
            rw [if_pos rfl]
            have c0 := (HK.out Wc hB).2.2.1
            go_simp
            exact hK _ _ rfl (Below.refl _ _)
          · intro Ac Wc Kc hB hsm dep hK
            have t111 : Ac.tmps.getD 111 undef = .string r := dep 12 rfl
            refine ⟨false, (show Ac.tmps.getD 109 undef = .bool false from dep 10 rfl), ?_⟩
            rw [if_pos rfl]
            have z0 := hrz
            go_simp
            exact hK _ _ rfl (Below.refl _ _)
          · intro Ac Wc Kc hB hsm dep hK
            have t0 : Ac.tmps.getD 0 undef = .int .i64 K := hsm 0 rfl
            refine ⟨false, (show Ac.tmps.getD 109 undef = .bool false from dep 10 rfl), ?_⟩
            rw [if_pos rfl]
            go_simp
            exact hK _ _ rfl (Below.refl _ _)
          · intro Ac Wc Kc hB hsm dep hK
            have t112 : Ac.tmps.getD 112 undef = .int .i64 K := dep 13 rfl
            have t113 : Ac.tmps.getD 113 undef = .int .i64 K := dep 14 rfl
            refine ⟨false, (show Ac.tmps.getD 109 undef = .bool false from dep 10 rfl), ?_⟩
            rw [if_pos rfl]
            go_simp
            exact hK _ _ rfl (Below.refl _ _)
          · intro Ac Wc Kc hB hsm dep hK
            have t109 : Ac.tmps.getD 109 undef = .bool false := dep 10 rfl
            have t114 : Ac.tmps.getD 114 undef = .bool false := dep 15 rfl
            show Oper.wp _ _ Ac Wc Kc _
            go_simp
            exact hK _ _ rfl (Below.refl _ _)
        case fin =>
          intro w9 hb9
          obtain ⟨hJ9, y0, y1, hz9⟩ := HK.out w9 hb9
          have HJ9 := hide hJ9
          clear hb9 HK HSz HC
          simp only [puts]
          go_simp
          go_wp2_with (at_builtin; refine wpList_append_R _ rfl _ _ rfl (gc + 1) _ (rts (clk K) M) rfl (Cv.ownB_next HJ9.out.rts (bal (Below.refl _ _) _)) _ [(n1, r)] rfl (rdc_root w9 n1 r _) ?c1 ?c2 ?_)
          case c1 => have := HG.out.2.2.2.2.2; simp; omega
          case c2 => simp; omega
          intro v5 w10 ho5 hg5
          have HJ10 : Hid (RJ w1 w10 m gc K (M ++ [x]) (Rw (clk K) (M ++ [x])) (rts (clk K) (M ++ [x])) v3 v5) := by
            have := (HJ9.out.next (bal (Below.refl _ _) _)).growR ho5 hg5
            rw [HG.out.2.2.1, HG.out.2.2.2.2.1]
            exact this
          clear ho5 hg5 hJ9 HJ9 y0 y1 hz9
          go_wp2
          go_roundg (S.length - (j + 1))
          case rel =>
            go_light
            exact ⟨j + 1, by omega, rfl, by go_num, by rw [HG.out.1]; exact HJ10⟩
          case measure => go_light; omega
      · have htk := tk_no (S.take j) x (by omega)
        rw [← htn] at htk
        have HAp : Hid (∀ W, Calls Tryd.prog 12 #[.pointer (some ⟨m + 1, 0, none⟩), .string x] W fun e w' => e = .returned (.tuple #[.slice none 0 0, .int .i64 100]) ∧ W = w') := fun W =>
          (fappend_long W m x (by omega)).mono fun _ _ h => ⟨h.1, h.2.symm⟩
        have HG : Hid (tk (S.take (j + 1)) = tk (S.take j)) := htk
        have hs1 : decide ((x.size : Int) ≤ 1048576) = false := decide_eq_false (by omega)
        clear hx htn htk hs hbw
        go_wp2_with (first
          | (go_at_call 12; with_reducible refine (HAp.out _).mono ?_; rintro e w2 ⟨rfl, rfl⟩)
          | (go_at_call 11; with_reducible refine (num_id 100 _).mono ?_; rintro e w3 ⟨rfl, rfl⟩))
        go_roundg (S.length - (j + 1))
        case rel =>
          go_light
          exact ⟨j + 1, by omega, rfl, by go_num, by rw [HG.out]; exact HA⟩
        case measure => go_light; omega
    · obtain rfl : j = S.length := by omega
      have hz : ¬ ((S.length : Int) < (S.length : Int)) := by omega
      obtain ⟨T, hT⟩ : ∃ T, tk (S.take S.length) = T := ⟨_, rfl⟩
      have hTl : T.length ≤ 70 := by rw [← hT, List.take_length]; exact Nat.le_trans (tk_len _) HS70.out
      rw [hT] at HA
      obtain ⟨Nn, hNn⟩ : ∃ n, Pl.N T.length = n := ⟨_, rfl⟩
      have hNl : Nn ≤ 140 := by have := Pl.N_eq T.length; omega
      have HSz : Hid (∀ W, Frs W m K T → Calls Tryd.prog 13 #[.pointer (some ⟨m + 1, 0, none⟩)] W fun e w' => e = .returned (.int .u64 (T.length : Int)) ∧ W = w') := fun W h => (fsize_any W m K T h).mono fun _ _ h => ⟨h.1, h.2.symm⟩
      have HNd : Hid (∀ W, Calls Tryd.prog 17 #[.int .u64 (T.length : Int)] W fun e w' => e = .returned (.tuple #[.int .u64 (Nn : Int), .bool true]) ∧ W = w') := fun W => by
        have := Pl.nodes_yes T.length W (by omega)
        rw [hNn] at this
        exact this.mono fun _ _ h => ⟨h.1, h.2.symm⟩
      obtain ⟨ar, cr, hv7⟩ : ∃ ao c, u7 = .slice ao Nn c := by
        rcases HA.out.row.2 with ⟨h2, h3⟩ | ⟨g, c, cur, h2, _⟩
        · exact ⟨none, 0, by rw [h2]; rw [Rw_len, hNn] at h3; rw [h3]⟩
        · exact ⟨_, c, by rw [h2, Rw_len, hNn]⟩
      obtain ⟨gr, cq, hv8, _⟩ := ownR_at HA.out.rts (j := 0) (n := 0) (d := rtD (clk K) T 0) (rts_at _ _ (by omega))
      rw [rts_len] at hv8
      subst hv7 hv8
      have ew : IntKind.u64.wrap (Nn : Int) = (Nn : Int) := u64_id _ (by omega) (by omega)
      have ew2 : IntKind.i64.wrap (T.length : Int) = (T.length : Int) := by rw [IntKind.wrap_i64]; omega
      have ew3 : IntKind.i64.wrap ((T.length : Int) + 1) = (T.length : Int) + 1 := by rw [IntKind.wrap_i64]; omega
      have hJA := HA.out.frs
      have eN1 : ((T.length + 1 : Nat) : Int) = (T.length : Int) + 1 := by omega
      obtain ⟨T1, hT1⟩ : ∃ n, T.length + 1 = n := ⟨_, rfl⟩
      rw [hT1] at eN1
      clear hT hlt
      go_upto_region 29 with (first
        | (go_at_call 13; with_reducible refine (HSz.out _ hJA).mono ?_; rintro e w4' ⟨rfl, rfl⟩)
        | (go_at_call 17; with_reducible refine (HNd.out _).mono ?_; rintro e w4' ⟨rfl, rfl⟩))
      obtain ⟨wA, HKA, HBA⟩ : ∃ wA, Hid (∀ W, Below wA.heap.size wA W → RJ w1 W m gc K T (Rw (clk K) T) (rts (clk K) T) (.slice ar Nn cr) (.slice (some ⟨gr, 0, none⟩) T1 cq) ∧ Tb W ∧ Below w.heap.size w W) ∧ Hid (Below wA.heap.size wA wr) :=
        ⟨wr, fun W h => by
          have h2 := HA.out.next h
          exact ⟨by rw [← hT1]; exact h2, (HW.out _ _ _ _ _ _ h2).2, (HW.out _ _ _ _ _ _ h2).1⟩, Below.refl _ _⟩
      have hT9 : (T.length : Int) ≤ 70 := by omega
      have hN9 : (Nn : Int) ≤ 140 := by omega
      have HT1 := hide hT1
      clear HA hJA ew2 ew3 hz HRd HNd hT1 eN1
      go_wp2
      go_loopg [16] Nn (fun g i wr => ∃ p : Nat, p ≤ Nn ∧ g = Nn - p ∧ i = .int .i64 (p : Int) ∧ Below wA.heap.size wA wr)
      case atStart =>
        go_light
        exact ⟨0, Nat.zero_le _, rfl, rfl, HBA.out⟩
      case round =>
        clear HBA
        obtain ⟨p, hp, rfl, rfl, hb⟩ := hrel
        by_cases hlp : p < Nn
        · have hz : (p : Int) < (Nn : Int) := by omega
          have hz0 : (0 : Int) ≤ (p : Int) := Int.natCast_nonneg _
          have hpN : p < Pl.N T.length := by rw [hNn]; exact hlp
          obtain ⟨hmost, hin⟩ := blk_in (by omega) hpN
          have hRp := Rw_at (clk K) T hpN
          have HBl := fun W => Pl.block_yes p W hmost
          obtain ⟨h, hh⟩ : ∃ h, (Pl.blk p).1 = h := ⟨_, rfl⟩
          obtain ⟨q, hq⟩ : ∃ q, (Pl.blk p).2 = q := ⟨_, rfl⟩
          rw [hh, hq] at hin hRp HBl
          unfold Pl.bv at HBl
          have hfit : Fitb (h : Int) q := small_fit (b := (h, q)) hin (by omega)
          have hq9 : q + 1 ≤ 70 := Nat.le_trans (Nat.le_mul_of_pos_right _ (Nat.two_pow_pos h)) (Nat.le_trans hin hTl)
          have hh9 : h ≤ 40 := by rw [← hh]; exact (Pl.blk_at p hmost).1
          obtain ⟨d, hd⟩ : ∃ d, nd (clk K) T h q = d := ⟨_, rfl⟩
          rw [hd] at hRp
          have hdz : (d.size : Int) = K := by rw [← hd, nd_size (clk_le K)]; exact HKz.out
          have HNo : Hid (∀ W, Below wA.heap.size wA W → Calls Tryd.prog 18 #[.pointer (some ⟨m + 1, 0, none⟩), .int .u64 (p : Int)] W fun e w' => e = .returned (.tuple #[.string d, .bool true]) ∧ Below W.heap.size W w') := fun W hW =>
            fnode_any W m K T (HKA.out W hW).1.frs p (some d) d true (by show _ = _; rw [if_pos hmost, hh, hq, ff_nat _ _ _ _ hin, hd]) ⟨rfl, rfl⟩
          have HDg : Hid (∀ W, Below wA.heap.size wA W → Calls Tryd.prog 20 #[.pointer (some ⟨m + 1, 0, none⟩), .agg #[.int .i64 (h : Int), .int .u64 (q : Int)]] W fun e w' => e = .returned (.tuple #[.string d, .bool true]) ∧ Below W.heap.size W w') := fun W hW =>
            fdigest_any W m K T (HKA.out W hW).1.frs h q hfit d true (by show _ ∧ _; rw [ff_nat _ _ _ _ hin, hd]; exact ⟨rfl, rfl⟩)
          obtain ⟨g7, hg7⟩ : ∃ g7, ar = some ⟨g7, 0, none⟩ := by
            obtain ⟨g, c, e, _⟩ := own_form (HKA.out wr hb).1.row (by rw [Rw_len]; omega)
            injection e with e1 _ _
            exact ⟨g, e1⟩
          subst hg7
          have HC7 : Hid (∀ W, Below wA.heap.size wA W → W.cell? ⟨g7, p, none⟩ = some (.string d)) := fun W hW => by
            have := (own_cell (HKA.out W hW).1.row (j := p) (by rw [Rw_len]; exact hpN)).1
            rw [hRp] at this
            exact this
          have ewp : IntKind.u64.wrap (p : Int) = (p : Int) := u64_id _ (by omega) (by omega)
          have hq8 : (q : Int) ≤ 70 := by omega
          have hh8 : (h : Int) ≤ 40 := by omega
          have hq0 : (0 : Int) ≤ (q : Int) := Int.natCast_nonneg _
          by_cases h0 : h = 0
          · subst h0
            have hpos : decide ((0 : Int) < ((0 : Nat) : Int)) = false := rfl
            clear hlp hpN hmost hin hRp hh hq hfit hq9 hh9 hd
            generalize ((0 : Nat) : Int) = hi at *
            go_wp2_with (first
              | (go_at_call 18; with_reducible refine (HNo.out _ hb).mono ?_; rintro e w2 ⟨rfl, hb2⟩; have b2 := bnext hb hb2)
              | (go_at_call 19; with_reducible refine (HBl _).mono ?_; rintro e w3 ⟨rfl, hb3⟩; have b3 := bal (bnext b2 hb3) (.cells #[.int .i64 hi, .int .u64 (q : Int)] 49))
              | (go_at_call 20; with_reducible refine (HDg.out _ b3).mono ?_; rintro e w4 ⟨rfl, hb4⟩; have b4 := bnext b3 hb4; have c4 := HC7.out w4 b4; have x0 : w4.cell? ⟨w3.heap.size, 0, none⟩ = some (.int .i64 hi) := (hb4.cell (p := ⟨w3.heap.size, 0, none⟩) (by simp)).trans (by simp); have x1 : w4.cell? ⟨w3.heap.size, 1, none⟩ = some (.int .u64 (q : Int)) := (hb4.cell (p := ⟨w3.heap.size, 1, none⟩) (by simp)).trans (by simp)))
            go_roundg (Nn - (p + 1))
            case rel =>
              go_light
              exact ⟨p + 1, by omega, rfl, by go_num, b4⟩
            case measure => go_light; omega
          · obtain ⟨h', rfl⟩ : ∃ h', h = h' + 1 := ⟨h - 1, by omega⟩
            have hpos : decide ((0 : Int) < ((h' + 1 : Nat) : Int)) = true := decide_eq_true (by omega)
            have hp1 : (1 : Int) ≤ ((h' + 1 : Nat) : Int) := by omega
            have i1 : (2 * q + 1) * 2 ^ h' ≤ T.length ∧ (2 * q + 1 + 1) * 2 ^ h' ≤ T.length := by
              have e : (q + 1) * 2 ^ (h' + 1) = (2 * q + 1 + 1) * 2 ^ h' := by rw [Nat.pow_succ, Nat.mul_comm (2 ^ h'), ← Nat.mul_assoc, show (q + 1) * 2 = 2 * q + 1 + 1 by omega]
              rw [e] at hin
              exact ⟨Nat.le_trans (Nat.mul_le_mul_right _ (by omega)) hin, hin⟩
            obtain ⟨y, hy⟩ : ∃ y, nd (clk K) T h' (2 * q) = y := ⟨_, rfl⟩
            obtain ⟨z, hz2⟩ : ∃ z, nd (clk K) T h' (2 * q + 1) = z := ⟨_, rfl⟩
            have zy : y.size = clk K := by rw [← hy]; exact nd_size (clk_le K) _ _ _
            have zz : z.size = clk K := by rw [← hz2]; exact nd_size (clk_le K) _ _ _
            have hcl := clk_le K
            have hdd : dg (clk K) (nodeT y z) = d := by rw [← hd, nd, hy, hz2]
            have ef : ((h' + 1 : Nat) : Int) - 1 = (h' : Int) := by omega
            have HD1 : Hid (∀ W, Below wA.heap.size wA W → Calls Tryd.prog 20 #[.pointer (some ⟨m + 1, 0, none⟩), .agg #[.int .i64 (((h' + 1 : Nat) : Int) - 1), .int .u64 (2 * (q : Int))]] W fun e w' => e = .returned (.tuple #[.string y, .bool true]) ∧ Below W.heap.size W w') := fun W hW => by
              have := fdigest_any W m K T (HKA.out W hW).1.frs (h' : Int) (2 * q) ⟨⟨by omega, by omega⟩, by omega⟩ y true (by show _ ∧ _; rw [ff_nat _ _ _ _ i1.1, hy]; exact ⟨rfl, rfl⟩)
              rw [ef, show 2 * (q : Int) = ((2 * q : Nat) : Int) by omega]
              exact this
            have HD2 : Hid (∀ W, Below wA.heap.size wA W → Calls Tryd.prog 20 #[.pointer (some ⟨m + 1, 0, none⟩), .agg #[.int .i64 (((h' + 1 : Nat) : Int) - 1), .int .u64 (2 * (q : Int) + 1)]] W fun e w' => e = .returned (.tuple #[.string z, .bool true]) ∧ Below W.heap.size W w') := fun W hW => by
              have := fdigest_any W m K T (HKA.out W hW).1.frs (h' : Int) (2 * q + 1) ⟨⟨by omega, by omega⟩, by omega⟩ z true (by show _ ∧ _; rw [ff_nat _ _ _ _ i1.2, hz2]; exact ⟨rfl, rfl⟩)
              rw [ef, show 2 * (q : Int) + 1 = ((2 * q + 1 : Nat) : Int) by omega]
              exact this
            have HNd : Hid (∀ W, Below wA.heap.size wA W → Calls Tryd.prog 21 #[.int .i64 K, .string y, .string z] W fun e w' => e = .returned (.string d) ∧ Below W.heap.size W w') := fun W hW => node_any W (HKA.out W hW).2.1 K y z (by omega) (by omega) d hdd
            clear hlp hpN hmost hin hRp hh hq hfit hq9 hh9 hd i1 hy hz2 zy zz hdd hcl ef h0
            generalize ((h' + 1 : Nat) : Int) = hi at *
            go_upto_region 38 with (first
              | (go_at_call 18; with_reducible refine (HNo.out _ hb).mono ?_; rintro e w2 ⟨rfl, hb2⟩; have b2 := bnext hb hb2)
              | (go_at_call 19; with_reducible refine (HBl _).mono ?_; rintro e w3 ⟨rfl, hb3⟩; have b3 := bal (bnext b2 hb3) (.cells #[.int .i64 hi, .int .u64 (q : Int)] 49))
              | (go_at_call 20; with_reducible refine (HDg.out _ b3).mono ?_; rintro e w4 ⟨rfl, hb4⟩; have b4 := bnext b3 hb4; have c4 := HC7.out w4 b4; have x0 : w4.cell? ⟨w3.heap.size, 0, none⟩ = some (.int .i64 hi) := (hb4.cell (p := ⟨w3.heap.size, 0, none⟩) (by simp)).trans (by simp); have x1 : w4.cell? ⟨w3.heap.size, 1, none⟩ = some (.int .u64 (q : Int)) := (hb4.cell (p := ⟨w3.heap.size, 1, none⟩) (by simp)).trans (by simp)))
            go_upto_region 39 with (go_at_call 20; with_reducible refine (HD1.out _ b4).mono ?_; rintro e w5 ⟨rfl, hb5⟩)
            have b5 := bnext b4 hb5
            have hl3 := World.block_lt_of_cell? _ _ x0
            have x2 : w5.cell? ⟨w3.heap.size, 0, none⟩ = some (.int .i64 hi) := (hb5.cell (p := ⟨w3.heap.size, 0, none⟩) hl3).trans x0
            have x3 : w5.cell? ⟨w3.heap.size, 1, none⟩ = some (.int .u64 (q : Int)) := (hb5.cell (p := ⟨w3.heap.size, 1, none⟩) hl3).trans x1
            go_wp2_with (first
              | (go_at_call 20; with_reducible refine (HD2.out _ b5).mono ?_; rintro e w6 ⟨rfl, hb6⟩; have b6 := bnext b5 hb6)
              | (go_at_call 21; with_reducible refine (HNd.out _ b6).mono ?_; rintro e w7 ⟨rfl, hb7⟩; have b7 := bnext b6 hb7))
            go_roundg (Nn - (p + 1))
            case rel =>
              go_light
              exact ⟨p + 1, by omega, rfl, by go_num, b7⟩
            case measure => go_light; omega
        · obtain rfl : p = Nn := by omega
          have hz : ¬ ((p : Int) < (p : Int)) := by omega
          have HJ0 : Hid (RJ w1 wr m gc K T (Rw (clk K) T) (rts (clk K) T) (.slice ar p cr) (.slice (some ⟨gr, 0, none⟩) T1 cq)) := (HKA.out wr hb).1
          clear hlp hb HKA hp
          go_wp2
          go_loopg [27] T1 (fun g i wr => ∃ j : Nat, j ≤ T1 ∧ g = T1 - j ∧ i = .int .i64 (j : Int) ∧ Hid (RJ w1 wr m gc K T (Rw (clk K) T) (rts (clk K) T) (.slice ar p cr) (.slice (some ⟨gr, 0, none⟩) T1 cq)))
          case atStart =>
            go_light
            exact ⟨0, Nat.zero_le _, rfl, rfl, HJ0⟩
          case round =>
            clear HJ0
            obtain ⟨j, hj, rfl, rfl, HA⟩ := hrel
            by_cases hlj : j < T1
            · have hzj : (j : Int) < (T1 : Int) := by omega
              have hzj0 : (0 : Int) ≤ (j : Int) := Int.natCast_nonneg _
              have hzj9 : (j : Int) ≤ 70 := by have := HT1.out; omega
              obtain ⟨r, hr⟩ : ∃ r, Hid (rtD (clk K) T j = r) := ⟨_, rfl⟩
              have HRt : Hid (Calls Tryd.prog 16 #[.pointer (some ⟨m + 1, 0, none⟩), .int .u64 (j : Int)] wr fun e w' => e = .returned (.tuple #[.agg #[.int .u64 (j : Int), .string r], .int .i64 0]) ∧ Below wr.heap.size wr w') :=
                froot_ok wr (HW.out _ _ _ _ _ _ HA.out).2 m K T HA.out.frs j (by have := HT1.out; omega) r hr
              have ewj : IntKind.u64.wrap (j : Int) = (j : Int) := u64_id _ (by omega) (by have := HT1.out; omega)
              have HRr : Hid (∀ W, RJ w1 W m gc K T (Rw (clk K) T) (rts (clk K) T) (.slice ar p cr) (.slice (some ⟨gr, 0, none⟩) T1 cq) → W.cell? ⟨gr, j * 2, none⟩ = some (.int .u64 (j : Int)) ∧ W.cell? ⟨gr, j * 2 + 1, none⟩ = some (.string r)) := fun W hW => by
                obtain ⟨g, c, e, x0, x1⟩ := ownR_at hW.rts (j := j) (n := j) (d := r) (by rw [rts_at _ _ (by have := HT1.out; omega), hr.out])
                injection e with e1 _ _
                injection e1 with e1
                injection e1 with e1 _ _
                subst e1
                exact ⟨x0, x1⟩
              clear hr
              go_upto_region 46 with (go_at_call 16; with_reducible refine HRt.out.mono ?_; rintro e w7 ⟨rfl, hb7⟩; have hJ7 := HA.out.next hb7; obtain ⟨a7, d7, y0, y1⟩ := hJ7.cells; have f0 := hJ7.fr 0; have f1 := hJ7.fr 1)
              obtain ⟨hJ8, hc8⟩ := hJ7.set (j : Int) r
              obtain ⟨w8, hw8⟩ : ∃ w8, (w7.setCell ⟨gc, 0, none⟩ (.int .u64 (j : Int))).setCell ⟨gc, 1, none⟩ (.string r) = w8 := ⟨_, rfl⟩
              rw [hw8] at hJ8 hc8
              rw [hw8]
              have HG2 : Hid (∀ W, Below w8.heap.size w8 W → W.cell? ⟨gc, 0, none⟩ = some (.int .u64 (j : Int)) ∧ W.cell? ⟨gc, 1, none⟩ = some (.string r) ∧ W.cell? ⟨gr, j * 2, none⟩ = some (.int .u64 (j : Int)) ∧ W.cell? ⟨gr, j * 2 + 1, none⟩ = some (.string r)) := fun W h => by
                obtain ⟨z0, z1⟩ := two_cells ((h.block gc hJ8.lt).trans hc8)
                exact ⟨z0, z1, HRr.out W (hJ8.next h)⟩
              have HJ8 := hide hJ8
              clear hb7 hJ7 y0 y1 f0 f1 hJ8 hc8 hw8 HRt HRr HA
              refine wp_region_planV (by kernel_rfl) [245, 246, 247, 248, 249, 250, 251, 252, 253, 254, 255] [.int .i64 0, .int .i64 0, .bool false, .bool false, .agg #[.int .u64 (j : Int), .string r], .slice (some ⟨gr, 0, none⟩) T1 cq, .int .i64 (j : Int), .pointer (some ⟨gr, j * 2, none⟩), .agg #[.int .u64 (j : Int), .string r], .bool false, .bool false] (by kernel_rfl) rfl ?step ?fin
              case step =>
                refine ⟨?_, ?_, ?_, ?_, ?_, ?_, ?_, ?_, ?_, ?_, ?_, trivial⟩
                · intro Ac Wc Kc hB hsm dep hK
                  have t10 : Ac.tmps.getD 10 undef = .int .i64 0 := hsm 10 rfl
                  show Oper.wp _ _ Ac Wc Kc _
                  go_simp
                  exact hK _ _ rfl (Below.refl _ _)
                · intro Ac Wc Kc hB hsm dep hK
                  have t245 : Ac.tmps.getD 245 undef = .int .i64 0 := dep 0 rfl
                  show Oper.wp _ _ Ac Wc Kc _
                  go_simp
                  refine (num_any Wc 0).mono ?_
                  rintro e w' ⟨rfl, hb⟩
                  exact hK _ _ rfl hb
                · intro Ac Wc Kc hB hsm dep hK
                  have t246 : Ac.tmps.getD 246 undef = .int .i64 0 := dep 1 rfl
                  show Oper.wp _ _ Ac Wc Kc _
                  go_simp
                  exact hK _ _ rfl (Below.refl _ _)
                · intro Ac Wc Kc hB hsm dep hK
                  have t247 : Ac.tmps.getD 247 undef = .bool false := dep 2 rfl
                  show Oper.wp _ _ Ac Wc Kc _
                  go_simp
                  exact hK _ _ rfl (Below.refl _ _)
                · intro Ac Wc Kc hB hsm dep hK
                  have t9 : Ac.tmps.getD 9 undef = .pointer (some ⟨gc, 0, none⟩) := hsm 9 rfl
                  refine ⟨false, (show Ac.tmps.getD 248 undef = .bool false from dep 3 rfl), ?_⟩
                  rw [if_pos rfl]
                  have c0 := (HG2.out Wc hB).1
                  have c1 := (HG2.out Wc hB).2.1
                  go_simp
                  exact hK _ _ rfl (Below.refl _ _)
                · intro Ac Wc Kc hB hsm dep hK
                  have t8 : Ac.tmps.getD 8 undef = .slice (some ⟨gr, 0, none⟩) T1 cq := hsm 8 rfl
                  refine ⟨false, (show Ac.tmps.getD 248 undef = .bool false from dep 3 rfl), ?_⟩
                  rw [if_pos rfl]
                  go_simp
                  exact hK _ _ rfl (Below.refl _ _)
                · intro Ac Wc Kc hB hsm dep hK
                  have t27 : Ac.tmps.getD 27 undef = .int .i64 (j : Int) := hsm 27 rfl
                  refine ⟨false, (show Ac.tmps.getD 248 undef = .bool false from dep 3 rfl), ?_⟩
                  rw [if_pos rfl]
                  go_simp
                  exact hK _ _ rfl (Below.refl _ _)
                · intro Ac Wc Kc hB hsm dep hK
                  have t250 : Ac.tmps.getD 250 undef = .slice (some ⟨gr, 0, none⟩) T1 cq := dep 5 rfl
                  have t251 : Ac.tmps.getD 251 undef = .int .i64 (j : Int) := dep 6 rfl
                  refine ⟨false, (show Ac.tmps.getD 248 undef = .bool false from dep 3 rfl), ?_⟩
                  rw [if_pos rfl]
                  have z0 := hzj
                  have z1 := hzj0
                  go_simp
                  exact hK _ _ rfl (Below.refl _ _)
                · intro Ac Wc Kc hB hsm dep hK
                  have t252 : Ac.tmps.getD 252 undef = .pointer (some ⟨gr, j * 2, none⟩) := dep 7 rfl
                  refine ⟨false, (show Ac.tmps.getD 248 undef = .bool false from dep 3 rfl), ?_⟩
                  rw [if_pos rfl]
                  have c0 := (HG2.out Wc hB).2.2.1
                  have c1 := (HG2.out Wc hB).2.2.2
                  go_simp
                  exact hK _ _ rfl (Below.refl _ _)
                · intro Ac Wc Kc hB hsm dep hK
                  have t249 : Ac.tmps.getD 249 undef = .agg #[.int .u64 (j : Int), .string r] := dep 4 rfl
                  have t253 : Ac.tmps.getD 253 undef = .agg #[.int .u64 (j : Int), .string r] := dep 8 rfl
                  refine ⟨false, (show Ac.tmps.getD 248 undef = .bool false from dep 3 rfl), ?_⟩
                  rw [if_pos rfl]
                  go_simp
                  exact hK _ _ rfl (Below.refl _ _)
                · intro Ac Wc Kc hB hsm dep hK
                  have t248 : Ac.tmps.getD 248 undef = .bool false := dep 3 rfl
                  have t254 : Ac.tmps.getD 254 undef = .bool false := dep 9 rfl
                  show Oper.wp _ _ Ac Wc Kc _
                  go_simp
                  exact hK _ _ rfl (Below.refl _ _)
              case fin =>
                intro w9 hb9
                have HJ9 : Hid (RJ w1 w9 m gc K T (Rw (clk K) T) (rts (clk K) T) (.slice ar p cr) (.slice (some ⟨gr, 0, none⟩) T1 cq)) := HJ8.out.next hb9
                clear hb9 HG2 HJ8
                simp only [puts]
                go_simp
                go_wp2
                go_roundg (T1 - (j + 1))
                case rel =>
                  go_light
                  exact ⟨j + 1, by omega, rfl, by go_num, HJ9⟩
                case measure => go_light; omega
            · obtain rfl : j = T1 := by omega
              have hzz : ¬ ((j : Int) < (j : Int)) := by omega
              have HNo : Hid (Calls Tryd.prog 18 #[.pointer (some ⟨m + 1, 0, none⟩), .int .u64 (p : Int)] wr fun e w' => e = .returned (.tuple #[.string ⟨#[]⟩, .bool false]) ∧ Below wr.heap.size wr w') := by
                have hm2 : p ≤ Pl.most := by rw [← hNn]; exact most_in (by omega)
                refine fnode_any wr m K T HA.out.frs p none ⟨#[]⟩ false (by show _ = _; rw [if_pos hm2]; exact ff_no _ _ _ _ (blk_out (by omega) (by omega) hm2)) ⟨rfl, rfl⟩
              have HRn : Hid (∀ W, Frs W m K T → Calls Tryd.prog 16 #[.pointer (some ⟨m + 1, 0, none⟩), .int .u64 ((T.length : Int) + 1)] W fun e w' => e = .returned (.tuple #[.agg #[.int .u64 0, .string ⟨#[]⟩], .int .i64 30]) ∧ Below W.heap.size W w') := fun W hF => froot_no W m K T hF (T.length + 1) (by omega)
              clear hlj hj
              go_wp2_with (first
                | (go_at_call 18; with_reducible refine HNo.out.mono ?_; rintro e w2 ⟨rfl, hb2⟩; have hJ2 := HA.out.next hb2)
                | (go_at_call 13; with_reducible refine (HSz.out _ hJ2.frs).mono ?_; rintro e w4' ⟨rfl, rfl⟩)
                | (go_at_call 16; with_reducible refine (HRn.out _ hJ2.frs).mono ?_; rintro e w3 ⟨rfl, hb3⟩; have hJ3 := hJ2.next hb3)
                | (go_at_call 11; with_reducible refine (num_id 30 _).mono ?_; rintro e wn ⟨rfl, rfl⟩))
              go_ret
              exact ⟨rfl, (HW.out _ _ _ _ _ _ hJ3).1⟩
end Go.Proofs.YtabdobdopcfllaaDoor
