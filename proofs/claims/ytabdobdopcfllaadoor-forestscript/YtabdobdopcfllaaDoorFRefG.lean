/-
  The reference's forest: Root. Own work.
-/
import Derived.Test.YtabdobdopcfllaaDoorFRefF
namespace Go.Proofs.YtabdobdopcfllaaDoor
open Go.RowKit
attribute [local go_sem ↓] Go.wp_at_zero Go.wp_at_succ
theorem rroot_no (w : World) (B q : Nat) (K : Int) (L : List ByteArray) (gA cA : Nat) (vs : List Value) (hF : Rf w B q K L gA cA vs) (n : Nat) (hn : L.length < n) :
    Calls Tryd.prog 51 #[.pointer (some ⟨q, 0, none⟩), .int .u64 (n : Int)] w fun e w' => e = .returned (.tuple #[.agg #[.int .u64 0, .string ⟨#[]⟩], .int .i64 30]) ∧ Below w.heap.size w w' := by
  have hb := bal (Below.refl w.heap.size w) (.cells #[.int .u64 0, .string ⟨#[]⟩] 41)
  have HS : Hid (∀ W, Below w.heap.size w W → Calls Tryd.prog 52 #[.pointer (some ⟨q, 0, none⟩)] W fun e w' => e = .returned (.int .u64 (L.length : Int)) ∧ Below W.heap.size W w') := fun W hb => refsize_any W B q K L gA cA vs (hF.next hb)
  have hn' : (L.length : Int) < (n : Int) := by omega
  have HN := rt_new w 0 ⟨#[]⟩ 41
  rw [show ((0 : Nat) : Int) = 0 from rfl] at HN
  have HN2 := hide HN
  have hz : w.heap.size < (w.alloc (.cells #[.int .u64 0, .string ⟨#[]⟩] 41)).heap.size := by simp
  clear hF hn HN
  go_enter Tryd.func51, Tryd.ntmps51
  go_wp2_with (go_at_call 52; with_reducible refine (HS.out _ hb).mono ?_; rintro e w1 ⟨rfl, hb1⟩; have hR := HN2.out.below hb1 hz; have k0 := hR.c0; have k1 := hR.c1; have f0 := hR.f0; have f1 := hR.f1)
  have s0 : (w1.setCell ⟨w.heap.size, 0, none⟩ (.int .u64 0)).cell? ⟨w.heap.size, 0, none⟩ = some (.int .u64 0) := World.cell?_setCell_same _ _ _ k0
  have s1 : ((w1.setCell ⟨w.heap.size, 0, none⟩ (.int .u64 0)).setCell ⟨w.heap.size, 1, none⟩ (.string ⟨#[]⟩)).cell? ⟨w.heap.size, 1, none⟩ = some (.string ⟨#[]⟩) :=
    World.cell?_setCell_same _ _ _ ((World.cell?_setCell_other _ _ _ _ (by simp)).trans k1)
  refine bodyPost_ret (v := .tuple #[.agg #[.int .u64 0, .string ⟨#[]⟩], .int .i64 30]) (by simp [results, Tryd.results51, go_sem, s0, s1]) rfl ⟨rfl, ?_⟩
  exact ((bnext hb hb1).setCell (p := ⟨w.heap.size, 0, none⟩) (Nat.le_refl _) _).setCell (p := ⟨w.heap.size, 1, none⟩) (Nat.le_refl _) _
set_option maxRecDepth 100000 in
theorem rroot_ok (w : World) (ht : Tr w) (B q : Nat) (K : Int) (L : List ByteArray) (gA cA : Nat) (vs : List Value) (hF : Rf w B q K L gA cA vs) (n : Nat) (hn : n ≤ L.length) (r : ByteArray) (hq : Hid (rtD (clk K) L n = r)) :
    Calls Tryd.prog 51 #[.pointer (some ⟨q, 0, none⟩), .int .u64 (n : Int)] w fun e w' => e = .returned (.tuple #[.agg #[.int .u64 (n : Int), .string r], .int .i64 0]) ∧ Below w.heap.size w w' := by
  have hL := hF.hn
  obtain ⟨p1, p2⟩ := cov_peaks (clk K) L n hn (by omega)
  rw [Cv.cov_zero n (by omega)] at p1 p2
  have hds : dgs (clk K) L (Cv.zl (Cv.dnL 41 0 n)) = some (pks (clk K) (L.take n) 41) := by rw [dgs_all (fun b hb => Nat.le_trans (p2 b hb) hn), p1]
  obtain ⟨P, hP⟩ : ∃ P, pks (clk K) (L.take n) 41 = P := ⟨_, rfl⟩
  rw [hP] at hds
  have zP : ∀ s ∈ P, s.size ≤ 140737488351232 := by rw [← hP]; exact small (clk_le K)
  have lP : P.length ≤ 41 := by rw [← hP]; exact pks_len _ _ _
  have HQ : dg (clk K) (rootT n (bagL (clk K) P)) = r := by rw [← hP]; exact hq.out
  have HM : Hid (∀ W, Calls Tryd.prog 64 #[.int .u64 (n : Int)] W fun x w' => ∃ ao g cap, x = .returned (.tuple #[.slice ao (Cv.zl (Cv.dnL 41 0 n)).length cap, .int .i64 0]) ∧ RdB w' ao g 0 (Cv.zl (Cv.dnL 41 0 n)).length (Cv.zl (Cv.dnL 41 0 n)) ∧ Below W.heap.size W w') := fun W => by
    have := Cv.rmountains_any n W (by omega)
    refine this.mono ?_
    rintro x w' ⟨v, rfl, ho, hb⟩
    obtain ⟨ao, g, n', cap, rfl, hr, _⟩ := own_rdB ho (fun b hb => by
      obtain ⟨b0, hb0, rfl⟩ := List.mem_map.1 hb
      exact small_fit (p2 b0 hb0) (by omega))
    obtain rfl := hr.len
    exact ⟨ao, g, cap, rfl, hr, hb⟩
  have lC : (Cv.zl (Cv.dnL 41 0 n)).length ≤ 80 := by rw [Cv.zl_len]; exact Nat.le_trans (Cv.dn_len 41 0 n) (by decide)
  obtain ⟨C, hC⟩ : ∃ C, Cv.zl (Cv.dnL 41 0 n) = C := ⟨_, rfl⟩
  rw [hC] at HM hds lC
  have HD : Hid (∀ W ao g cap, Below w.heap.size w W → RdB W ao g 0 C.length C → Calls Tryd.prog 49 #[.pointer (some ⟨q, 0, none⟩), .slice ao C.length cap] W fun e w' => Below W.heap.size W w' ∧ ∃ ao' b' cap', e = .returned (.tuple #[.slice ao' P.length cap', .bool true]) ∧ RdS w' ao' b' 0 P.length P) := fun W ao g cap hb hr => by
    refine (refdigests_any W B q K L gA cA vs (hF.next hb) ao g 0 cap C hr (by omega)).mono ?_
    rintro e w' ⟨hb', ⟨h1, _⟩ | ⟨D, h1, v, rfl, ho⟩⟩
    · rw [hds] at h1; cases h1
    · rw [hds] at h1
      injection h1 with h1
      subst h1
      obtain ⟨ao', b', cap', rfl, hr', _⟩ := owns_rds ho (fun s hs => Nat.le_trans (zP s hs) (by decide))
      exact ⟨hb', ao', b', cap', rfl, hr'⟩
  have HRo : Hid (∀ W, Below w.heap.size w W → ∀ ao' b' cap', RdS W ao' b' 0 P.length P → Calls Tryd.prog 65 #[.int .i64 K, .int .u64 (n : Int), .slice ao' P.length cap'] W fun e w' => e = .returned (.string r) ∧ Below W.heap.size W w') := fun W hb ao' b' cap' hr' => refroot_any W (ht.next hb) K n (by omega) ao' b' 0 P.length cap' P hr' zP (by omega) r HQ
  have HF : Hid (∀ W, Below w.heap.size w W → W.cell? ⟨q, 0, none⟩ = some (.int .i64 K)) := fun W hb => (hF.next hb).lv.cells.1
  have hb := bal (Below.refl w.heap.size w) (.cells #[.int .u64 0, .string ⟨#[]⟩] 41)
  have HS : Hid (∀ W, Below w.heap.size w W → Calls Tryd.prog 52 #[.pointer (some ⟨q, 0, none⟩)] W fun e w' => e = .returned (.int .u64 (L.length : Int)) ∧ Below W.heap.size W w') := fun W hb => refsize_any W B q K L gA cA vs (hF.next hb)
  have hn' : ¬ (L.length : Int) < (n : Int) := by omega
  have HN := rt_new w 0 ⟨#[]⟩ 41
  rw [show ((0 : Nat) : Int) = 0 from rfl] at HN
  have HN2 := hide HN
  have HZ : Hid (w.heap.size < (w.alloc (.cells #[.int .u64 0, .string ⟨#[]⟩] 41)).heap.size) := by show _ < _; simp
  clear hq hP hds zP lP HQ hC lC p1 p2 hn hL ht hF HN
  go_enter Tryd.func51, Tryd.ntmps51
  go_wp2_with (first
    | (go_at_call 52; with_reducible refine (HS.out _ hb).mono ?_; rintro e w0 ⟨rfl, hb0⟩)
    | (go_at_call 64; with_reducible refine (HM.out _).mono ?_; rintro e w1 ⟨ao, g, cap, rfl, hr1, hb1⟩)
    | (go_at_call 49; with_reducible refine (HD.out _ _ _ _ (bnext (bnext hb hb0) hb1) hr1).mono ?_; rintro e w2 ⟨hb2, ao', b', cap', rfl, hr2⟩; have y0 := HF.out _ (bnext (bnext (bnext hb hb0) hb1) hb2))
    | (go_at_call 65; with_reducible refine (HRo.out _ (bnext (bnext (bnext hb hb0) hb1) hb2) _ _ _ hr2).mono ?_; rintro e w3 ⟨rfl, hb3⟩; have hR := (((HN2.out.below hb0 HZ.out).below hb1 (Nat.lt_of_lt_of_le HZ.out hb0.size)).below hb2 (Nat.lt_of_lt_of_le HZ.out (Nat.le_trans hb0.size hb1.size))).below hb3 (Nat.lt_of_lt_of_le HZ.out (Nat.le_trans (Nat.le_trans hb0.size hb1.size) hb2.size)); have k0 := hR.c0; have k1 := hR.c1; have f0 := hR.f0; have f1 := hR.f1))
  have s0 : (w3.setCell ⟨w.heap.size, 0, none⟩ (.int .u64 (n : Int))).cell? ⟨w.heap.size, 0, none⟩ = some (.int .u64 (n : Int)) := World.cell?_setCell_same _ _ _ k0
  have s1 : ((w3.setCell ⟨w.heap.size, 0, none⟩ (.int .u64 (n : Int))).setCell ⟨w.heap.size, 1, none⟩ (.string r)).cell? ⟨w.heap.size, 1, none⟩ = some (.string r) :=
    World.cell?_setCell_same _ _ _ ((World.cell?_setCell_other _ _ _ _ (by simp)).trans k1)
  refine bodyPost_ret (v := .tuple #[.agg #[.int .u64 (n : Int), .string r], .int .i64 0]) (by simp [results, Tryd.results51, go_sem, s0, s1]) rfl ⟨rfl, ?_⟩
  exact ((bnext (bnext (bnext (bnext hb hb0) hb1) hb2) hb3).setCell (p := ⟨w.heap.size, 0, none⟩) (Nat.le_refl _) _).setCell (p := ⟨w.heap.size, 1, none⟩) (Nat.le_refl _) _
end Go.Proofs.YtabdobdopcfllaaDoor
