/-
  BatchLeast: the digests are those of the greatest free blocks. Own work.
-/
import Derived.Test.YtnbejijpmeklaaaDoorBFree
namespace Go.Proofs.YtnbejijpmeklaaaDoor
open Go.RowKit
open Cv (RdC zl cU All Til But)
open Pl (pw pw_succ pw_pos)
attribute [local go_sem ↓] Go.wp_at_zero Go.wp_at_succ
set_option maxRecDepth 100000 in
set_option maxHeartbeats 2000000 in
theorem least_no (w : World) (k : Int) (n : Nat) (la : Option Addr) (lb lo lc : Nat) (L : List ByteArray) (sa : Option Addr) (sb so sc : Nat) (S : List Nat) (h : Cs w k n la lb lo lc L sa sb so sc S) (hno : ¬ ((1 ≤ k ∧ k ≤ 32) ∧ ∀ s ∈ L.take 300, s.size ≤ 1048576)) :
    Calls Tryd.prog 4 #[vC k (.slice la L.length lc) n (.slice sa S.length sc)] w fun e w' => e = .returned (.bool true) ∧ Below w.heap.size w w' := by
  obtain ⟨o1, ho1⟩ : ∃ o1, oC k (.slice la L.length lc) n (.slice sa S.length sc) = o1 := ⟨_, rfl⟩
  have hb := bal (Below.refl w.heap.size w) o1
  have e1 : Cb (w.alloc o1) w.heap.size k (.slice la L.length lc) n (.slice sa S.length sc) := by rw [← ho1]; exact heap_alloc_new w _
  have HA := alive_any (w.alloc o1) (h.tb.next hb) (h.tr.next hb)
  have HH := hide (And.intro (h.next hb) (And.intro hb e1))
  rw [← ho1] at HA HH
  unfold oC at HA HH
  clear hb e1 ho1 h
  by_cases hk : 1 ≤ k ∧ k ≤ 32
  · have HF : Hid (∀ W, Below (w.alloc (oC k (.slice la L.length lc) n (.slice sa S.length sc))).heap.size (w.alloc (oC k (.slice la L.length lc) n (.slice sa S.length sc))) W → Calls Tryd.prog 9 #[vC k (.slice la L.length lc) n (.slice sa S.length sc)] W fun e w' => ∃ m, e = .returned (.pointer (some ⟨m + 1, 0, none⟩)) ∧ Below W.heap.size W w') := fun W hW => (cforest_ok W (HH.out.1.next hW).tb k hk.1 hk.2 la lb lo L.length lc L (HH.out.1.next hW).rl (by have := HH.out.1.lmax; omega) n sa S.length sc _ rfl).mono fun e w' ⟨m, h1, _, h3⟩ => ⟨m, h1, h3⟩
    have HG : Hid (∀ W, Below (w.alloc (oC k (.slice la L.length lc) n (.slice sa S.length sc))).heap.size (w.alloc (oC k (.slice la L.length lc) n (.slice sa S.length sc))) W → Calls Tryd.prog 10 #[vC k (.slice la L.length lc) n (.slice sa S.length sc)] W fun e w' => e = .returned (.bool false) ∧ Below W.heap.size W w') := fun W hW => cfit_any W k hk.1 hk.2 la lb lo L.length lc L (HH.out.1.next hW).rl (by have := HH.out.1.lmax; omega) n sa S.length sc false (decide_eq_false fun h => hno ⟨hk, h⟩)
    unfold oC vC at HF HG
    unfold vC
    clear hno hk
    go_enter Tryd.func4, Tryd.ntmps4
    go_wp2_with (first
      | (go_at_call 8; with_reducible refine HA.mono ?_; rintro e w1 ⟨rfl, hb1⟩; obtain ⟨c0, c1, c2, c3⟩ := (HH.out.2.2.next hb1).cells)
      | (go_at_call 9; with_reducible refine (HF.out _ hb1).mono ?_; rintro e w2 ⟨m, rfl, hb2⟩; obtain ⟨d0, d1, d2, d3⟩ := (HH.out.2.2.next (bnext hb1 hb2)).cells)
      | (go_at_call 10; with_reducible refine (HG.out _ (bnext hb1 hb2)).mono ?_; rintro e w3 ⟨rfl, hb3⟩))
    go_ret
    exact ⟨rfl, bnext (bnext (bnext HH.out.2.1 hb1) hb2) hb3⟩
  · have HF : Hid (∀ W, Calls Tryd.prog 9 #[vC k (.slice la L.length lc) n (.slice sa S.length sc)] W fun e w' => e = .returned (.pointer none) ∧ Below W.heap.size W w') := fun W => cforest_no W k (by omega) la L.length lc n sa S.length sc
    have HC : Hid (∀ W, Calls Tryd.prog 11 #[.int .i64 k] W fun e w' => e = .returned (.int .i64 70) ∧ W = w') := fun W => by
      have := refcheck_any W k
      rw [show chk k = 70 by rw [chk, if_pos (by omega)]] at this
      exact this.mono fun _ _ h => ⟨h.1, h.2.symm⟩
    unfold vC at HF
    unfold vC
    clear hno hk
    go_enter Tryd.func4, Tryd.ntmps4
    go_wp2_with (first
      | (go_at_call 8; with_reducible refine HA.mono ?_; rintro e w1 ⟨rfl, hb1⟩; obtain ⟨c0, c1, c2, c3⟩ := (HH.out.2.2.next hb1).cells)
      | (go_at_call 9; with_reducible refine (HF.out _).mono ?_; rintro e w2 ⟨rfl, hb2⟩; obtain ⟨d0, d1, d2, d3⟩ := (HH.out.2.2.next (bnext hb1 hb2)).cells)
      | (go_at_call 11; with_reducible refine (HC.out _).mono ?_; rintro e w3 ⟨rfl, rfl⟩))
    go_ret
    exact ⟨rfl, bnext (bnext HH.out.2.1 hb1) hb2⟩
set_option maxRecDepth 100000 in
set_option maxHeartbeats 2000000 in
theorem least_err (w : World) (k : Int) (n : Nat) (la : Option Addr) (lb lo lc : Nat) (L : List ByteArray) (sa : Option Addr) (sb so sc : Nat) (S : List Nat) (h : Cs w k n la lb lo lc L sa sb so sc S) (hk : 1 ≤ k ∧ k ≤ 32) (hfit : ∀ s ∈ L.take 300, s.size ≤ 1048576) (hno : ¬ (n ≤ (L.take 300).length ∧ Cv.errS n S = 0)) :
    Calls Tryd.prog 4 #[vC k (.slice la L.length lc) n (.slice sa S.length sc)] w fun e w' => e = .returned (.bool true) ∧ Below w.heap.size w w' := by
  obtain ⟨o1, ho1⟩ : ∃ o1, oC k (.slice la L.length lc) n (.slice sa S.length sc) = o1 := ⟨_, rfl⟩
  have hb := bal (Below.refl w.heap.size w) o1
  have e1 : Cb (w.alloc o1) w.heap.size k (.slice la L.length lc) n (.slice sa S.length sc) := by rw [← ho1]; exact heap_alloc_new w _
  have HA := alive_any (w.alloc o1) (h.tb.next hb) (h.tr.next hb)
  have HH := hide (And.intro (h.next hb) (And.intro hb e1))
  rw [← ho1] at HA HH
  clear hb e1 ho1 h
  obtain ⟨L', hL'⟩ : ∃ L', L.take 300 = L' := ⟨_, rfl⟩
  rw [hL'] at hfit
  have hl3 : L'.length = min L.length 300 := by rw [← hL', List.length_take, Nat.min_comm]
  have HF : Hid (∀ W, Below (w.alloc (oC k (.slice la L.length lc) n (.slice sa S.length sc))).heap.size (w.alloc (oC k (.slice la L.length lc) n (.slice sa S.length sc))) W → Calls Tryd.prog 9 #[vC k (.slice la L.length lc) n (.slice sa S.length sc)] W fun e w' => ∃ m, e = .returned (.pointer (some ⟨m + 1, 0, none⟩)) ∧ Frs w' m k L' ∧ Below W.heap.size W w') := fun W hW => cforest_ok W (HH.out.1.next hW).tb k hk.1 hk.2 la lb lo L.length lc L (HH.out.1.next hW).rl (by have := HH.out.1.lmax; omega) n sa S.length sc _ (by rw [hL']; exact tk_self hfit)
  have HG : Hid (∀ W, Below (w.alloc (oC k (.slice la L.length lc) n (.slice sa S.length sc))).heap.size (w.alloc (oC k (.slice la L.length lc) n (.slice sa S.length sc))) W → Calls Tryd.prog 10 #[vC k (.slice la L.length lc) n (.slice sa S.length sc)] W fun e w' => e = .returned (.bool true) ∧ Below W.heap.size W w') := fun W hW => cfit_any W k hk.1 hk.2 la lb lo L.length lc L (HH.out.1.next hW).rl (by have := HH.out.1.lmax; omega) n sa S.length sc true (decide_eq_true (by rw [hL']; exact hfit))
  rw [hL'] at hno
  obtain ⟨e0, he0, HP⟩ : ∃ e0 : Nat, e0 ≠ 0 ∧ Hid (∀ W m, Below (w.alloc (oC k (.slice la L.length lc) n (.slice sa S.length sc))).heap.size (w.alloc (oC k (.slice la L.length lc) n (.slice sa S.length sc))) W → Frs W m k L' → Calls Tryd.prog 12 #[.pointer (some ⟨m + 1, 0, none⟩), .int .u64 (n : Int), .slice sa S.length sc] W fun e w' => e = .returned (.tuple #[noP, .int .i64 (e0 : Int)]) ∧ Below W.heap.size W w') := by
    by_cases hn : n ≤ L'.length
    · exact ⟨Cv.errS n S, fun e => hno ⟨hn, e⟩, fun W m hW hF => bprove_err W m k L' hF n hn sa sb so S.length sc S (HH.out.1.next hW).rs (by have := HH.out.1.smax; unfold maxLen; omega) _ rfl (fun e => hno ⟨hn, e⟩)⟩
    · exact ⟨30, by decide, fun W m _ hF => bprove_size W m k L' hF n (by omega) sa S.length sc⟩
  have hz : ((e0 : Int) != 0) = true := by simp; omega
  unfold oC at HA HH
  unfold oC vC at HF HG
  unfold oC at HP
  unfold vC
  clear hno hk hfit hL' hl3 he0
  go_enter Tryd.func4, Tryd.ntmps4
  go_wp2_with (first
    | (go_at_call 8; with_reducible refine HA.mono ?_; rintro e w1 ⟨rfl, hb1⟩; obtain ⟨c0, c1, c2, c3⟩ := (HH.out.2.2.next hb1).cells)
    | (go_at_call 9; with_reducible refine (HF.out _ hb1).mono ?_; rintro e w2 ⟨m, rfl, hF2, hb2⟩; obtain ⟨d0, d1, d2, d3⟩ := (HH.out.2.2.next (bnext hb1 hb2)).cells)
    | (go_at_call 10; with_reducible refine (HG.out _ (bnext hb1 hb2)).mono ?_; rintro e w3 ⟨rfl, hb3⟩; obtain ⟨f0, f1, f2, f3⟩ := (HH.out.2.2.next (bnext (bnext hb1 hb2) hb3)).cells)
    | (go_at_call 12; with_reducible refine (HP.out _ _ (bnext (bnext hb1 hb2) hb3) (hF2.next hb3 (Nat.le_refl _))).mono ?_; rintro e w4 ⟨rfl, hb4⟩))
  go_ret
  exact ⟨rfl, bal (bnext (bnext (bnext (bnext HH.out.2.1 hb1) hb2) hb3) hb4) _⟩
set_option maxRecDepth 100000 in
set_option maxHeartbeats 4000000 in
theorem least_ok (w : World) (k : Int) (n : Nat) (la : Option Addr) (lb lo lc : Nat) (L : List ByteArray) (sa : Option Addr) (sb so sc : Nat) (S : List Nat) (h : Cs w k n la lb lo lc L sa sb so sc S) (hk : 1 ≤ k ∧ k ≤ 32) (hfit : ∀ s ∈ L.take 300, s.size ≤ 1048576) (hn : n ≤ (L.take 300).length) (he : Cv.errS n S = 0) :
    Calls Tryd.prog 4 #[vC k (.slice la L.length lc) n (.slice sa S.length sc)] w fun e w' => e = .returned (.bool true) ∧ Below w.heap.size w w' := by
  obtain ⟨o1, ho1⟩ : ∃ o1, oC k (.slice la L.length lc) n (.slice sa S.length sc) = o1 := ⟨_, rfl⟩
  have hb := bal (Below.refl w.heap.size w) o1
  have e1 : Cb (w.alloc o1) w.heap.size k (.slice la L.length lc) n (.slice sa S.length sc) := by rw [← ho1]; exact heap_alloc_new w _
  have HA := alive_any (w.alloc o1) (h.tb.next hb) (h.tr.next hb)
  have HH := hide (And.intro (h.next hb) (And.intro hb e1))
  rw [← ho1] at HA HH
  clear hb e1 ho1 h
  obtain ⟨L', hL'⟩ : ∃ L', L.take 300 = L' := ⟨_, rfl⟩
  rw [hL'] at hfit
  have hl3 : L'.length = min L.length 300 := by rw [← hL', List.length_take, Nat.min_comm]
  have HF : Hid (∀ W, Below (w.alloc (oC k (.slice la L.length lc) n (.slice sa S.length sc))).heap.size (w.alloc (oC k (.slice la L.length lc) n (.slice sa S.length sc))) W → Calls Tryd.prog 9 #[vC k (.slice la L.length lc) n (.slice sa S.length sc)] W fun e w' => ∃ m, e = .returned (.pointer (some ⟨m + 1, 0, none⟩)) ∧ Frs w' m k L' ∧ Below W.heap.size W w') := fun W hW => cforest_ok W (HH.out.1.next hW).tb k hk.1 hk.2 la lb lo L.length lc L (HH.out.1.next hW).rl (by have := HH.out.1.lmax; omega) n sa S.length sc _ (by rw [hL']; exact tk_self hfit)
  have HG : Hid (∀ W, Below (w.alloc (oC k (.slice la L.length lc) n (.slice sa S.length sc))).heap.size (w.alloc (oC k (.slice la L.length lc) n (.slice sa S.length sc))) W → Calls Tryd.prog 10 #[vC k (.slice la L.length lc) n (.slice sa S.length sc)] W fun e w' => e = .returned (.bool true) ∧ Below W.heap.size W w') := fun W hW => cfit_any W k hk.1 hk.2 la lb lo L.length lc L (HH.out.1.next hW).rl (by have := HH.out.1.lmax; omega) n sa S.length sc true (decide_eq_true (by rw [hL']; exact hfit))
  rw [hL'] at hn
  obtain ⟨D, hD⟩ : ∃ D, dgB (clk k) L' n S = D := ⟨_, rfl⟩
  have hS := rst_num he
  have HP : Hid (∀ W m, Below (w.alloc (oC k (.slice la L.length lc) n (.slice sa S.length sc))).heap.size (w.alloc (oC k (.slice la L.length lc) n (.slice sa S.length sc))) W → Frs W m k L' → Calls Tryd.prog 12 #[.pointer (some ⟨m + 1, 0, none⟩), .int .u64 (n : Int), .slice sa S.length sc] W fun e w' => ∃ gs cs ad bd cd, e = .returned (.tuple #[.agg #[.int .i64 2, .int .i64 k, .int .u64 0, .int .u64 (n : Int), .slice (some ⟨gs, 0, none⟩) S.length cs, .slice ad D.length cd], .int .i64 0]) ∧ RdU w' (some ⟨gs, 0, none⟩) gs 0 S.length S ∧ S.length ≤ cs ∧ RdS w' ad bd 0 D.length D ∧ D.length ≤ cd ∧ (ad = none → cd = 0) ∧ Below W.heap.size W w') := fun W m hW hF =>
    (bprove_rd W m k L' hF (by omega) n hn sa sb so sc S (HH.out.1.next hW).rs he D hD).mono fun e w' ⟨gs, cs, ad, bd, cd, h1, h2, h3, h4, h5, h6, _, _, h8⟩ => ⟨gs, cs, ad, bd, cd, h1, h2, h3, h4, h5, h6, h8⟩
  have HIt : Hid (∀ W, Calls Tryd.prog 13 #[vC k (.slice la L.length lc) n (.slice sa S.length sc)] W fun e w' => e = .returned (.slice la L'.length lc) ∧ Below W.heap.size W w') := fun W => citems_any W k la L.length lc n HH.out.1.lcap sa S.length sc L'.length hl3.symm
  obtain ⟨h40, _, _, hch⟩ := Cv.errS_ok he
  have hTil : Til (But n S) n 0 (Cv.rst 0 n S) := Cv.rst_but n S h40 hch
  obtain ⟨R, hRr⟩ : ∃ R, Cv.rst 0 n S = R := ⟨_, rfl⟩
  rw [hRr] at hTil
  have hDl : D.length = R.length := by rw [← hD, dgB_len, hRr]
  have hDs : D.length ≤ 100000 := by rw [hDl, ← hRr]; have := Cv.rst_len n h40 S 0 hch; omega
  have hDg : ∀ j b, R[j]? = some b → D.getD j ByteArray.empty = nd (clk k) L' b.1 b.2 := fun j b hb => by
    rw [← hD, dgB, hRr, List.getD_eq_getElem?_getD, List.getElem?_map, hb]; rfl
  have hLe : L.take L'.length = L' := by rw [hl3, Nat.min_comm, ← List.take_eq_take_min]; exact hL'
  have HTr : Hid (∀ (W : World) (h q : Nat), Tb W → RdS W la lb lo L.length L → h ≤ 40 → (q + 1) * 2 ^ h ≤ L'.length → Calls Tryd.prog 17 #[.int .i64 k, .slice la L'.length lc, .agg #[.int .i64 (h : Int), .int .u64 (q : Int)]] W fun e w' => e = .returned (.tuple #[.string (nd (clk k) L' h q), .bool true]) ∧ Below W.heap.size W w') := fun W h q hT hR hh hi => tree_yes W hT k la lb lo L'.length lc L' (by have := hR.take (n := L'.length) (by omega); rwa [hLe] at this) (fun s hs => by have := hfit s hs; omega) (by omega) h q hh hi _ rfl
  have HQ : Hid (n ≤ 300 ∧ n ≤ L'.length ∧ L'.length ≤ 300 ∧ S.length ≤ 300 ∧ D.length = R.length ∧ D.length ≤ 100000 ∧ Til (But n S) n 0 R ∧ (∀ j b, R[j]? = some b → D.getD j ByteArray.empty = nd (clk k) L' b.1 b.2)) := ⟨by omega, hn, by omega, by omega, hDl, hDs, hTil, hDg⟩
  unfold oC at HA HH
  unfold oC vC at HF HG
  unfold oC at HP
  unfold vC at HIt
  unfold vC
  clear hk hfit hL' hl3 hD hDl hDs hDg hLe hn he h40 hch hS hTil hRr
  go_enter Tryd.func4, Tryd.ntmps4
  go_upto_region 9 with (first
    | (go_at_call 8; with_reducible refine HA.mono ?_; rintro e w1 ⟨rfl, hb1⟩; obtain ⟨c0, c1, c2, c3⟩ := (HH.out.2.2.next hb1).cells)
    | (go_at_call 9; with_reducible refine (HF.out _ hb1).mono ?_; rintro e w2 ⟨m, rfl, hF2, hb2⟩; obtain ⟨d0, d1, d2, d3⟩ := (HH.out.2.2.next (bnext hb1 hb2)).cells)
    | (go_at_call 10; with_reducible refine (HG.out _ (bnext hb1 hb2)).mono ?_; rintro e w3 ⟨rfl, hb3⟩; obtain ⟨f0, f1, f2, f3⟩ := (HH.out.2.2.next (bnext (bnext hb1 hb2) hb3)).cells)
    | (go_at_call 12; with_reducible refine (HP.out _ _ (bnext (bnext hb1 hb2) hb3) (hF2.next hb3 (Nat.le_refl _))).mono ?_; rintro e w4 ⟨gs, cs, ad, bd, cd, rfl, hU, h1, hR, h2, h3, hb4⟩))
  have h6 := six_new w4 (.int .i64 2) (.int .i64 k) (.int .u64 0) (.int .u64 (n : Int)) (.slice (some ⟨gs, 0, none⟩) S.length cs) (.slice ad D.length cd)
  have hb5 := bal (Below.refl w4.heap.size w4) (.cells #[.int .i64 2, .int .i64 k, .int .u64 0, .int .u64 (n : Int), .slice (some ⟨gs, 0, none⟩) S.length cs, .slice ad D.length cd] 32)
  obtain ⟨w5, hw5⟩ : ∃ w5, w4.alloc (.cells #[.int .i64 2, .int .i64 k, .int .u64 0, .int .u64 (n : Int), .slice (some ⟨gs, 0, none⟩) S.length cs, .slice ad D.length cd] 32) = w5 := ⟨_, rfl⟩
  rw [hw5] at h6 hb5 ⊢
  have hb14 := bnext (bnext (bnext hb1 hb2) hb3) (bnext hb4 hb5)
  have HK : Hid (∀ W, Below w5.heap.size w5 W → Cs W k n la lb lo lc L sa sb so sc S ∧ Cb W w.heap.size k (.slice la L.length lc) n (.slice sa S.length sc) ∧ Six W w4.heap.size (.int .i64 2) (.int .i64 k) (.int .u64 0) (.int .u64 (n : Int)) (.slice (some ⟨gs, 0, none⟩) S.length cs) (.slice ad D.length cd) ∧ RdU W (some ⟨gs, 0, none⟩) gs 0 S.length S ∧ RdS W ad bd 0 D.length D ∧ Below w.heap.size w W) := fun W hW =>
    ⟨HH.out.1.next (bnext hb14 hW), HH.out.2.2.next (bnext hb14 hW), h6.next hW, hU.next (bnext hb5 hW), hR.next (bnext hb5 hW) (Nat.le_refl _), bnext HH.out.2.1 (bnext hb14 hW)⟩
  have HN := hide (And.intro h1 (And.intro h2 h3))
  generalize w4.heap.size = q4 at *
  clear hw5 h6 hb5 hb14 hU hR h1 h2 h3 hb1 hb2 hb3 hb4 c0 c1 c2 c3 d0 d1 d2 d3 f0 f1 f2 f3 hF2 HF HG HP HA HH
  obtain ⟨hC5, hB5, _⟩ := HK.out w5 (Below.refl _ _)
  obtain ⟨c0, c1, c2, c3⟩ := hB5.cells
  have HKc : Hid (∀ Z, Below w5.heap.size w5 Z → Z.cell? ⟨w.heap.size, 0, none⟩ = some (.int .i64 k) ∧ Z.cell? ⟨w.heap.size, 1, none⟩ = some (.slice la L.length lc) ∧ Z.cell? ⟨w.heap.size, 2, none⟩ = some (.int .u64 (n : Int)) ∧ Z.cell? ⟨w.heap.size, 3, none⟩ = some (.slice sa S.length sc)) := fun Z hZ => (HK.out Z hZ).2.1.cells
  have e9 : IntKind.u64.wrap (L'.length : Int) = (L'.length : Int) := by have := HQ.out.2.2.1; rw [IntKind.wrap_u64]; omega
  have hnl : ¬ (L'.length : Int) < (n : Int) := by have := HQ.out.2.1; omega
  have hnl2 : ¬ L'.length < n := by have := HQ.out.2.1; omega
  clear hC5 hB5
  go_region_held3 (fun Z => Z.cell? ⟨w.heap.size, 0, none⟩ = some (.int .i64 k) ∧ Z.cell? ⟨w.heap.size, 1, none⟩ = some (.slice la L.length lc) ∧ Z.cell? ⟨w.heap.size, 2, none⟩ = some (.int .u64 (n : Int)) ∧ Z.cell? ⟨w.heap.size, 3, none⟩ = some (.slice sa S.length sc))
    (exact HKc.out _ (by repeat (first | exact Below.refl _ _ | refine Below.drew ?_ | refine bnext ?_ hb7))) (first
    | (go_at_call 13; with_reducible refine (HIt.out _).mono ?_; rintro e w7 ⟨rfl, hb7⟩))
  have hw7 : Below w5.heap.size w5 w7 := bnext (Below.refl w5.heap.size w5).drew hb7
  clear hb7 c0 c1 c2 c3
  go_wp2
  go_loopg [6, 7] n (fun g t i wr => ∃ (a p : Nat), p ≤ n ∧ g = n - p ∧ t = .int .i64 (a : Int) ∧ i = .int .u64 (p : Int) ∧ a ≤ R.length ∧ Hid (Til (But n S) n p (R.drop a)) ∧ Hid (Below w7.heap.size w7 wr))
  case atStart =>
    go_light
    exact ⟨0, 0, Nat.zero_le _, rfl, rfl, rfl, Nat.zero_le _, HQ.out.2.2.2.2.2.2.1, Below.refl _ _⟩
  case round =>
    obtain ⟨a, p, hp, rfl, rfl, rfl, haR0, HT, HB⟩ := hrel
    obtain ⟨w8, hw8⟩ : ∃ w8, w8 = wr := ⟨_, rfl⟩
    subst hw8
    have hKr := bnext hw7 HB.out
    obtain ⟨c0, c1, c2, c3⟩ := HKc.out w8 hKr
    have hn3 := HQ.out.1
    by_cases hlt : p < n
    · have hz : (p : Int) < (n : Int) := by omega
      obtain ⟨o3, ho3⟩ : ∃ o3, Obj.cells #[.int .i64 0, .int .u64 (p : Int)] 45 (0, 0) = o3 := ⟨_, rfl⟩
      have e3 := heap_alloc_new w8 o3
      have hb3 := bal (Below.refl w8.heap.size w8) o3
      rw [← ho3] at e3 hb3
      have HFr : Hid (∀ (W : World) (h q : Nat) (r : Bool), Below w5.heap.size w5 W → h ≤ 20 → q ≤ 1000 → decide (frB n S h q) = r → Calls Tryd.prog 16 #[.agg #[.int .i64 (h : Int), .int .u64 (q : Int)], .int .u64 (n : Int), .slice sa S.length sc] W fun e w' => e = .returned (.bool r) ∧ Below W.heap.size W w') := fun W h q r hW hh hq hr => free_any W h q n hh hq sa sb so sc S (HK.out W hW).1.rs HQ.out.2.2.2.1 r hr
      obtain ⟨V, hV⟩ : ∃ V, w8.alloc (Obj.cells #[.int .i64 0, .int .u64 (p : Int)] 45 (0, 0)) = V := ⟨_, rfl⟩
      rw [hV] at e3 hb3
      have hKV := bnext hKr hb3
      obtain ⟨d0, d1, d2, d3⟩ := HKc.out V hKV
      have b0 : V.cell? ⟨w8.heap.size, 0, none⟩ = some (.int .i64 0) := by rw [cell_of_row _ _ 0 _ _ (0, 0) e3]; rfl
      have b1 : V.cell? ⟨w8.heap.size, 1, none⟩ = some (.int .u64 (p : Int)) := by rw [cell_of_row _ _ 1 _ _ (0, 0) e3]; rfl
      by_cases hf : frB n S 0 p
      · have HF1 := HFr.out V 0 p true hKV (by omega) (by omega) (decide_eq_true hf)
        rw [show ((0 : Nat) : Int) = 0 from rfl] at HF1
        have HAp : Hid (But n S p) := (frB_all.1 hf) p (by show p * 2 ^ 0 ≤ p; omega) (by show p < (p + 1) * 2 ^ 0; omega)
        have HS0 := hide (And.intro e3 (And.intro hb3 hf))
        clear ho3 hf e3 hb3
        go_upto_region 15 with (fail)
        clear hV c0 c1 c2 c3
        go_wp2_with (go_at_call 16; with_reducible refine HF1.mono ?_; rintro e wf ⟨rfl, hbf⟩)
        clear HF1 d0 d1 d2 d3 b0 b1
        go_loopg [] 12 (fun g wr => ∃ h q : Nat, g = 12 - h ∧ h ≤ 9 ∧ q * 2 ^ h = p ∧ frB n S h q ∧ Hid (wr.heap[w8.heap.size]? = some (.cells #[.int .i64 (h : Int), .int .u64 (q : Int)] 45 (0, 0))) ∧ Hid (Below w8.heap.size w8 wr))
        case atStart =>
          go_light
          exact ⟨0, p, rfl, by omega, by omega, HS0.out.2.2, (hbf.block _ (Array.getElem?_eq_some_iff.1 HS0.out.1).1).trans HS0.out.1, bnext HS0.out.2.1 hbf⟩
        case round =>
          clear HS0 hbf hKV
          obtain ⟨h, q, rfl, hh, hqp, hfr, HM, HBx⟩ := hrel
          have hbx := HBx.out
          have hK5 := bnext hKr hbx
          obtain ⟨c0, c1, c2, c3⟩ := HKc.out wr hK5
          have m0 : wr.cell? ⟨w8.heap.size, 0, none⟩ = some (.int .i64 (h : Int)) := by rw [cell_of_row _ _ 0 _ _ (0, 0) HM.out]; rfl
          have m1 : wr.cell? ⟨w8.heap.size, 1, none⟩ = some (.int .u64 (q : Int)) := by rw [cell_of_row _ _ 1 _ _ (0, 0) HM.out]; rfl
          have mf := fun j => frozen_of_row wr w8.heap.size j _ _ HM.out
          obtain ⟨pu, hpu⟩ : ∃ pu : Nat, 2 ^ h = pu := ⟨_, rfl⟩
          have hpb : pu ≤ 512 := by rw [← hpu]; exact Nat.pow_le_pow_right (by decide) hh
          have hqb : q ≤ p := by rw [← hqp]; exact Nat.le_mul_of_pos_right _ (Nat.two_pow_pos h)
          have hh8 : h ≤ 8 := by
            rcases Nat.lt_or_ge h 9 with hx | hx
            · omega
            · obtain rfl : h = 9 := by omega
              have := hfr.1
              have : (1 : Nat) * 2 ^ 9 ≤ (q + 1) * 2 ^ 9 := Nat.mul_le_mul_right _ (by omega)
              omega
          have u0 : (0 : Int) ≤ (h : Int) := Int.natCast_nonneg _
          have u1 : (h : Int) < 64 := by omega
          have u2 : IntKind.u64.wrap (h : Int) = (h : Int) := by rw [IntKind.wrap_u64]; omega
          have u3 : IntKind.u64.wrap ((2 : Int) ^ h) = (pu : Int) := by
            have e : ((2 : Int) ^ h) = (pu : Int) := by rw [← hpu]; simp
            rw [e, IntKind.wrap_u64]; omega
          have q0 : (0 : Int) ≤ (q : Int) := Int.natCast_nonneg _
          have q9 : (q : Int) ≤ 300 := by omega
          by_cases hev : q % 2 = 0
          · obtain ⟨q2, hq2⟩ : ∃ q2, q / 2 = q2 := ⟨_, rfl⟩
            have ev1 : (q : Int) % 2 = 0 := by omega
            have ev2 : (q : Int) / 2 = (q2 : Int) := by omega
            have ev3 : Int.tmod (q : Int) 2 = 0 := by rw [Int.tmod_eq_emod_of_nonneg (by omega)]; exact ev1
            have ev4 : Int.tdiv (q : Int) 2 = (q2 : Int) := by rw [Int.tdiv_eq_ediv_of_nonneg (by omega)]; exact ev2
            by_cases hup : frB n S (h + 1) q2
            · have HF2 := HFr.out wr (h + 1) q2 true hK5 (by omega) (by omega) (decide_eq_true hup)
              rw [show ((h + 1 : Nat) : Int) = (h : Int) + 1 by omega] at HF2
              have HU : Hid (q2 * 2 ^ (h + 1) = p ∧ frB n S (h + 1) q2) := ⟨by rw [Nat.pow_succ, Nat.mul_comm (2 ^ h) 2, ← Nat.mul_assoc, show q2 * 2 = q by omega]; exact hqp, hup⟩
              clear hup hfr hpu hq2
              go_wp2_with (go_at_call 16; with_reducible refine HF2.mono ?_; rintro e wf ⟨rfl, hbf⟩; have n0 := (hbf.cell (p := ⟨w8.heap.size, 0, none⟩) (World.block_lt_of_cell? wr _ m0)).trans m0; have n1 := (hbf.cell (p := ⟨w8.heap.size, 1, none⟩) (World.block_lt_of_cell? wr _ m1)).trans m1; have HMf := hide ((hbf.block _ (Array.getElem?_eq_some_iff.1 HM.out).1).trans HM.out); have nf := fun j => frozen_of_row wf w8.heap.size j _ _ HMf.out)
              have HMn := hide (And.intro ((heap_setCell_same _ _ 1 _ _ (.int .u64 (q2 : Int)) (heap_setCell_same wf w8.heap.size 0 _ _ (.int .i64 ((h : Int) + 1)) HMf.out))) ((bnext hbx hbf).trans ((((ChT.refl (fun b => b = w8.heap.size) wf).set w8.heap.size 0 (.int .i64 ((h : Int) + 1)) rfl).set w8.heap.size 1 (.int .u64 (q2 : Int)) rfl).below (by rintro b rfl; exact Nat.le_refl _))))
              go_roundg (12 - (h + 1))
              case rel =>
                go_light
                exact ⟨h + 1, q2, rfl, by omega, HU.out.1, HU.out.2, HMn.out.1, HMn.out.2⟩
              case measure => go_light; omega
            · have HF2 := HFr.out wr (h + 1) q2 false hK5 (by omega) (by omega) (decide_eq_false hup)
              rw [show ((h + 1 : Nat) : Int) = (h : Int) + 1 by omega] at HF2
              have hexit : ¬ (q % 2 = 0 ∧ frB n S (h + 1) (q / 2)) := fun hx => hup (by rw [← hq2]; exact hx.2)
              clear hup hev hq2
              go_upto_region 19 with (go_at_call 16; with_reducible refine HF2.mono ?_; rintro e wf ⟨rfl, hbf⟩)
              have m0 := (hbf.cell (p := ⟨w8.heap.size, 0, none⟩) (World.block_lt_of_cell? wr _ m0)).trans m0
              have m1 := (hbf.cell (p := ⟨w8.heap.size, 1, none⟩) (World.block_lt_of_cell? wr _ m1)).trans m1
              have hK5 := bnext hK5 hbf
              have hbx := bnext hbx hbf
              clear c0 c1 c2 c3 mf
              have hqw : q * pw h = p := hqp
              have hpw : pw h = pu := hpu
              have hpp : Til (But n S) n (q * pw h) (R.drop a) := by rw [hqw]; exact HT.out
              obtain ⟨bb, M', hM⟩ : ∃ bb M', R.drop a = bb :: M' := by
                cases hd : R.drop a with
                | nil => rw [hd] at hpp; exact absurd (HAp.out) (hpp.2 p (by rw [hqw]; exact Nat.le_refl _) hlt)
                | cons x M' => exact ⟨x, M', rfl⟩
              rw [hM] at hpp
              obtain rfl : bb = (h, q) := climb_end hpp (frB_all.1 hfr) (fun hx => hexit ⟨hx.1, frB_all.2 hx.2⟩)
              have hRa : R[a]? = some (h, q) := by have := congrArg (fun l => l[0]?) hM; simpa using this
              have haR : a < R.length := (List.getElem?_eq_some_iff.1 hRa).1
              have hM2 : R.drop (a + 1) = M' := by have := congrArg (List.drop 1) hM; rwa [List.drop_drop, List.drop_one, List.tail_cons] at this
              have hTn : Til (But n S) n (p + pu) (R.drop (a + 1)) := by
                rw [hM2]
                have h6' : Til (But n S) n ((q + 1) * pw h) M' := hpp.2.2.2.2.2
                rwa [show p + pu = (q + 1) * pw h by rw [Nat.add_mul, Nat.one_mul, hqw, hpw]]
              have hpn : p + pu ≤ n := Cv.til_le hTn
              have hDa := HQ.out.2.2.2.2.2.2.2 a _ hRa
              have haD : a < D.length := by rw [HQ.out.2.2.2.2.1]; exact haR
              obtain ⟨dd, hdd⟩ : ∃ dd, nd (clk k) L' h q = dd := ⟨_, rfl⟩
              simp only [] at hDa
              rw [hdd] at hDa
              have hall := HK.out wf hK5
              have hR := hall.2.2.2.2.1
              obtain rfl := hR.ptr (by omega)
              have cD := hR.at haD
              rw [hDa] at cD
              rw [Nat.zero_add] at cD
              obtain ⟨s0, s1, s2, s3, s4, s5⟩ := hall.2.2.1.cells
              have HTc : Hid (∀ Z, Below wf.heap.size wf Z → Calls Tryd.prog 17 #[.int .i64 k, .slice la L'.length lc, .agg #[.int .i64 (h : Int), .int .u64 (q : Int)]] Z fun e w' => e = .returned (.tuple #[.string dd, .bool true]) ∧ Below Z.heap.size Z w') := fun Z hZ => by
                have := HTr.out Z h q (HK.out Z (bnext hK5 hZ)).1.tb (HK.out Z (bnext hK5 hZ)).1.rl (by omega) (by have := hfr.1; have := HQ.out.2.1; omega)
                rwa [hdd] at this
              have HKx : Hid (∀ Z, Below wf.heap.size wf Z → Z.cell? ⟨w.heap.size, 0, none⟩ = some (.int .i64 k) ∧ Z.cell? ⟨w.heap.size, 1, none⟩ = some (.slice la L.length lc) ∧ Z.cell? ⟨w.heap.size, 2, none⟩ = some (.int .u64 (n : Int)) ∧ Z.cell? ⟨w.heap.size, 3, none⟩ = some (.slice sa S.length sc) ∧ Z.cell? ⟨w8.heap.size, 0, none⟩ = some (.int .i64 (h : Int)) ∧ Z.cell? ⟨w8.heap.size, 1, none⟩ = some (.int .u64 (q : Int))) := fun Z hZ => by
                obtain ⟨a0, a1, a2, a3⟩ := HKc.out Z (bnext hK5 hZ)
                exact ⟨a0, a1, a2, a3, (hZ.cell (p := ⟨w8.heap.size, 0, none⟩) (World.block_lt_of_cell? wf _ m0)).trans m0, (hZ.cell (p := ⟨w8.heap.size, 1, none⟩) (World.block_lt_of_cell? wf _ m1)).trans m1⟩
              have HSx : Hid (∀ Z, Below wf.heap.size wf Z → Z.cell? ⟨q4, 5, none⟩ = some (.slice (some ⟨bd, 0, none⟩) D.length cd) ∧ Z.cell? ⟨bd, a, none⟩ = some (.string dd) ∧ Z.cell? ⟨w8.heap.size, 0, none⟩ = some (.int .i64 (h : Int))) := fun Z hZ =>
                ⟨(hZ.cell (p := ⟨q4, 5, none⟩) (World.block_lt_of_cell? wf _ s5)).trans s5, (hZ.cell (p := ⟨bd, a, none⟩) (World.block_lt_of_cell? wf _ cD)).trans cD, (HKx.out Z hZ).2.2.2.2.1⟩
              have HEn : Hid (a + 1 ≤ R.length ∧ p + pu ≤ n ∧ 0 < pu ∧ Til (But n S) n (p + pu) (R.drop (a + 1))) := ⟨haR, hpn, by rw [← hpu]; exact Nat.two_pow_pos h, hTn⟩
              have haz : ¬ (D.length : Int) ≤ (a : Int) := by omega
              have haz2 : ¬ D.length ≤ a := by omega
              have haz3 : (a : Int) < (D.length : Int) := by omega
              have ha0 : (0 : Int) ≤ (a : Int) := Int.natCast_nonneg _
              have ha9 : (a : Int) ≤ 100000 := by have := HQ.out.2.2.2.2.2.1; omega
              have hp9 : (p : Int) ≤ 300 := by omega
              have hu9 : (pu : Int) ≤ 512 := by omega
              have w1 : IntKind.u64.wrap ((p : Int) + (pu : Int)) = ((p + pu : Nat) : Int) := by rw [IntKind.wrap_u64]; omega
              clear hqw hpw hpp hM hRa haR hM2 hTn hpn hDa hdd hall hR cD s0 s1 s2 s3 s4 s5 hexit hfr HT HAp
              go_region_held3 (fun Z => Z.cell? ⟨w.heap.size, 0, none⟩ = some (.int .i64 k) ∧ Z.cell? ⟨w.heap.size, 1, none⟩ = some (.slice la L.length lc) ∧ Z.cell? ⟨w.heap.size, 2, none⟩ = some (.int .u64 (n : Int)) ∧ Z.cell? ⟨w.heap.size, 3, none⟩ = some (.slice sa S.length sc) ∧ Z.cell? ⟨w8.heap.size, 0, none⟩ = some (.int .i64 (h : Int)) ∧ Z.cell? ⟨w8.heap.size, 1, none⟩ = some (.int .u64 (q : Int)))
                (exact HKx.out _ (by repeat (first | exact Below.refl _ _ | refine Below.drew ?_ | refine bnext ?_ hbv | refine bnext ?_ hbu | fail))) (first
                | (go_at_call 13; with_reducible refine (HIt.out _).mono ?_; rintro e wu ⟨rfl, hbu⟩)
                | (go_at_call 17; with_reducible refine (HTc.out _ (by repeat (first | exact Below.refl _ _ | refine Below.drew ?_ | refine bnext ?_ hbu | fail))).mono ?_; rintro e wv ⟨rfl, hbv⟩))
              have hwv : Below wf.heap.size wf wv := by repeat (first | exact Below.refl _ _ | refine Below.drew ?_ | refine bnext ?_ hbv | refine bnext ?_ hbu | fail)
              obtain ⟨n1, n2, n3⟩ := HSx.out wv hwv
              have HBn := hide (bnext HB.out (bnext hbx hwv))
              clear hbu hbv
              go_wp2
              go_roundg (n - (p + pu))
              case rel =>
                go_light
                exact ⟨a + 1, p + pu, HEn.out.2.1, rfl, by go_num, rfl, HEn.out.1, HEn.out.2.2.2, HBn.out⟩
              case measure => go_light; have := HEn.out.2.2.1; have := HEn.out.2.1; omega
          · have od1 : ¬ (q : Int) % 2 = 0 := by omega
            have od3 : ¬ Int.tmod (q : Int) 2 = 0 := by rw [Int.tmod_eq_emod_of_nonneg (by omega)]; exact od1
            have od4 : (Int.tmod (q : Int) 2 == 0) = false := beq_false_of_ne od3
            have od5 : ((q : Int) % 2 == 0) = false := beq_false_of_ne od1
            have hexit : ¬ (q % 2 = 0 ∧ frB n S (h + 1) (q / 2)) := fun hx => hev hx.1
            clear hev HFr
            go_upto_region 19 with (fail)
            have hqw : q * pw h = p := hqp
            have hpw : pw h = pu := hpu
            have hpp : Til (But n S) n (q * pw h) (R.drop a) := by rw [hqw]; exact HT.out
            obtain ⟨bb, M', hM⟩ : ∃ bb M', R.drop a = bb :: M' := by
              cases hd : R.drop a with
              | nil => rw [hd] at hpp; exact absurd (HAp.out) (hpp.2 p (by rw [hqw]; exact Nat.le_refl _) hlt)
              | cons x M' => exact ⟨x, M', rfl⟩
            rw [hM] at hpp
            obtain rfl : bb = (h, q) := climb_end hpp (frB_all.1 hfr) (fun hx => hexit ⟨hx.1, frB_all.2 hx.2⟩)
            have hRa : R[a]? = some (h, q) := by have := congrArg (fun l => l[0]?) hM; simpa using this
            have haR : a < R.length := (List.getElem?_eq_some_iff.1 hRa).1
            have hM2 : R.drop (a + 1) = M' := by have := congrArg (List.drop 1) hM; rwa [List.drop_drop, List.drop_one, List.tail_cons] at this
            have hTn : Til (But n S) n (p + pu) (R.drop (a + 1)) := by
              rw [hM2]
              have h6' : Til (But n S) n ((q + 1) * pw h) M' := hpp.2.2.2.2.2
              rwa [show p + pu = (q + 1) * pw h by rw [Nat.add_mul, Nat.one_mul, hqw, hpw]]
            have hpn : p + pu ≤ n := Cv.til_le hTn
            have hDa := HQ.out.2.2.2.2.2.2.2 a _ hRa
            have haD : a < D.length := by rw [HQ.out.2.2.2.2.1]; exact haR
            obtain ⟨dd, hdd⟩ : ∃ dd, nd (clk k) L' h q = dd := ⟨_, rfl⟩
            simp only [] at hDa
            rw [hdd] at hDa
            have hall := HK.out wr hK5
            have hR := hall.2.2.2.2.1
            obtain rfl := hR.ptr (by omega)
            have cD := hR.at haD
            rw [hDa] at cD
            rw [Nat.zero_add] at cD
            obtain ⟨s0, s1, s2, s3, s4, s5⟩ := hall.2.2.1.cells
            have HTc : Hid (∀ Z, Below wr.heap.size wr Z → Calls Tryd.prog 17 #[.int .i64 k, .slice la L'.length lc, .agg #[.int .i64 (h : Int), .int .u64 (q : Int)]] Z fun e w' => e = .returned (.tuple #[.string dd, .bool true]) ∧ Below Z.heap.size Z w') := fun Z hZ => by
              have := HTr.out Z h q (HK.out Z (bnext hK5 hZ)).1.tb (HK.out Z (bnext hK5 hZ)).1.rl (by omega) (by have := hfr.1; have := HQ.out.2.1; omega)
              rwa [hdd] at this
            have HKx : Hid (∀ Z, Below wr.heap.size wr Z → Z.cell? ⟨w.heap.size, 0, none⟩ = some (.int .i64 k) ∧ Z.cell? ⟨w.heap.size, 1, none⟩ = some (.slice la L.length lc) ∧ Z.cell? ⟨w.heap.size, 2, none⟩ = some (.int .u64 (n : Int)) ∧ Z.cell? ⟨w.heap.size, 3, none⟩ = some (.slice sa S.length sc) ∧ Z.cell? ⟨w8.heap.size, 0, none⟩ = some (.int .i64 (h : Int)) ∧ Z.cell? ⟨w8.heap.size, 1, none⟩ = some (.int .u64 (q : Int))) := fun Z hZ => by
              obtain ⟨a0, a1, a2, a3⟩ := HKc.out Z (bnext hK5 hZ)
              exact ⟨a0, a1, a2, a3, (hZ.cell (p := ⟨w8.heap.size, 0, none⟩) (World.block_lt_of_cell? wr _ m0)).trans m0, (hZ.cell (p := ⟨w8.heap.size, 1, none⟩) (World.block_lt_of_cell? wr _ m1)).trans m1⟩
            have HSx : Hid (∀ Z, Below wr.heap.size wr Z → Z.cell? ⟨q4, 5, none⟩ = some (.slice (some ⟨bd, 0, none⟩) D.length cd) ∧ Z.cell? ⟨bd, a, none⟩ = some (.string dd) ∧ Z.cell? ⟨w8.heap.size, 0, none⟩ = some (.int .i64 (h : Int))) := fun Z hZ =>
              ⟨(hZ.cell (p := ⟨q4, 5, none⟩) (World.block_lt_of_cell? wr _ s5)).trans s5, (hZ.cell (p := ⟨bd, a, none⟩) (World.block_lt_of_cell? wr _ cD)).trans cD, (HKx.out Z hZ).2.2.2.2.1⟩
            have HEn : Hid (a + 1 ≤ R.length ∧ p + pu ≤ n ∧ 0 < pu ∧ Til (But n S) n (p + pu) (R.drop (a + 1))) := ⟨haR, hpn, by rw [← hpu]; exact Nat.two_pow_pos h, hTn⟩
            have haz : ¬ (D.length : Int) ≤ (a : Int) := by omega
            have haz2 : ¬ D.length ≤ a := by omega
            have haz3 : (a : Int) < (D.length : Int) := by omega
            have ha0 : (0 : Int) ≤ (a : Int) := Int.natCast_nonneg _
            have ha9 : (a : Int) ≤ 100000 := by have := HQ.out.2.2.2.2.2.1; omega
            have hp9 : (p : Int) ≤ 300 := by omega
            have hu9 : (pu : Int) ≤ 512 := by omega
            have w1 : IntKind.u64.wrap ((p : Int) + (pu : Int)) = ((p + pu : Nat) : Int) := by rw [IntKind.wrap_u64]; omega
            clear hqw hpw hpp hM hRa haR hM2 hTn hpn hDa hdd hall hR cD s0 s1 s2 s3 s4 s5 hexit hfr HT HAp
            go_region_held3 (fun Z => Z.cell? ⟨w.heap.size, 0, none⟩ = some (.int .i64 k) ∧ Z.cell? ⟨w.heap.size, 1, none⟩ = some (.slice la L.length lc) ∧ Z.cell? ⟨w.heap.size, 2, none⟩ = some (.int .u64 (n : Int)) ∧ Z.cell? ⟨w.heap.size, 3, none⟩ = some (.slice sa S.length sc) ∧ Z.cell? ⟨w8.heap.size, 0, none⟩ = some (.int .i64 (h : Int)) ∧ Z.cell? ⟨w8.heap.size, 1, none⟩ = some (.int .u64 (q : Int)))
              (exact HKx.out _ (by repeat (first | exact Below.refl _ _ | refine Below.drew ?_ | refine bnext ?_ hbv | refine bnext ?_ hbu | fail))) (first
              | (go_at_call 13; with_reducible refine (HIt.out _).mono ?_; rintro e wu ⟨rfl, hbu⟩)
              | (go_at_call 17; with_reducible refine (HTc.out _ (by repeat (first | exact Below.refl _ _ | refine Below.drew ?_ | refine bnext ?_ hbu | fail))).mono ?_; rintro e wv ⟨rfl, hbv⟩))
            have hwv : Below wr.heap.size wr wv := by repeat (first | exact Below.refl _ _ | refine Below.drew ?_ | refine bnext ?_ hbv | refine bnext ?_ hbu | fail)
            obtain ⟨n1, n2, n3⟩ := HSx.out wv hwv
            have HBn := hide (bnext HB.out (bnext hbx hwv))
            clear hbu hbv
            go_wp2
            go_roundg (n - (p + pu))
            case rel =>
              go_light
              exact ⟨a + 1, p + pu, HEn.out.2.1, rfl, by go_num, rfl, HEn.out.1, HEn.out.2.2.2, HBn.out⟩
            case measure => go_light; have := HEn.out.2.2.1; have := HEn.out.2.1; omega
      · have HF1 := HFr.out V 0 p false hKV (by omega) (by omega) (decide_eq_false hf)
        rw [show ((0 : Nat) : Int) = 0 from rfl] at HF1
        have HNx : Hid (Til (But n S) n (p + 1) (R.drop a)) := Cv.til_skip HT.out (fun hA => hf (frB_all.2 fun i i1 i2 => by
          have i1' : p * 2 ^ 0 ≤ i := i1
          have i2' : i < (p + 1) * 2 ^ 0 := i2
          obtain rfl : i = p := by omega
          exact hA)) hlt
        have HS0 := hide hb3
        have w1 : IntKind.u64.wrap ((p : Int) + 1) = (p : Int) + 1 := by rw [IntKind.wrap_u64]; omega
        clear ho3 hf e3 hb3 HT
        go_upto_region 15 with (fail)
        clear hV c0 c1 c2 c3
        go_wp2_with (go_at_call 16; with_reducible refine HF1.mono ?_; rintro e wf ⟨rfl, hbf⟩)
        go_roundg (n - (p + 1))
        case rel =>
          go_light
          exact ⟨a, p + 1, by omega, rfl, rfl, by go_num, haR0, HNx.out, bnext HB.out (bnext HS0.out hbf)⟩
        case measure => go_light; omega
    · obtain rfl : p = n := by omega
      have hz : ¬ (p : Int) < (p : Int) := by omega
      have haD : a = D.length := by
        rw [HQ.out.2.2.2.2.1]
        have h1 : R.drop a = [] := Cv.til_one HT.out (show Til (But p S) p p [] from ⟨Nat.le_refl _, fun i h1 h2 => by omega⟩)
        have h2 := congrArg List.length h1
        rw [List.length_drop, List.length_nil] at h2
        omega
      subst haD
      obtain ⟨s0, s1, s2, s3, s4, s5⟩ := (HK.out w8 hKr).2.2.1.cells
      have HBF := hide (HK.out w8 hKr).2.2.2.2.2
      clear HT HTr HIt
      go_wp2
      go_ret
      exact ⟨rfl, HBF.out⟩
theorem least_walk (w : World) (k : Int) (n : Nat) (la : Option Addr) (lb lo lc : Nat) (L : List ByteArray) (sa : Option Addr) (sb so sc : Nat) (S : List Nat) (h : Cs w k n la lb lo lc L sa sb so sc S) :
    Calls Tryd.prog 4 #[vC k (.slice la L.length lc) n (.slice sa S.length sc)] w fun e w' => e = .returned (.bool true) ∧ Below w.heap.size w w' := by
  by_cases h1 : (1 ≤ k ∧ k ≤ 32) ∧ ∀ s ∈ L.take 300, s.size ≤ 1048576
  · by_cases h2 : n ≤ (L.take 300).length ∧ Cv.errS n S = 0
    · exact least_ok w k n la lb lo lc L sa sb so sc S h h1.1 h1.2 h2.1 h2.2
    · exact least_err w k n la lb lo lc L sa sb so sc S h h1.1 h1.2 h2
  · exact least_no w k n la lb lo lc L sa sb so sc S h h1
end Go.Proofs.YtnbejijpmeklaaaDoor
