/-
  Own work: JRefA.
-/
import Derived.BigQuiet
import Derived.Laws.StructEq
import Derived.Test.YtipcenbndhnnhaaGreatDoorQk34
import Derived.Test.YtipcenbndhnnhaaGreatDoorQk38
import Derived.Test.YtipcenbndhnnhaaGreatDoorQk39
namespace Go.Proofs.YtipcenbndhnnhaaGreatDoor
open Go.RowKit
open Cv (RdC zl cU cov)
open Pl (pw)
attribute [local go_sem ↓] Go.wp_at_zero Go.wp_at_succ
set_option maxRecDepth 100000 in
theorem rblocks_any (w : World) (m n : Nat) (hm : m ≤ n) (hn : n ≤ 2 ^ 40) :
    Calls Tryz.prog 82 #[.int .u64 (m : Int), .int .u64 (n : Int)] w fun e w' => ∃ v, e = .returned v ∧ Cv.OwnB w' w.heap.size v (zl (kb m n)) ∧ Below w.heap.size w w' := by
  have HM : Hid (∀ W, Calls Tryz.prog 83 #[.int .u64 (m : Int)] W fun e w' => ∃ ao n1 cap, e = .returned (.tuple #[.slice ao n1 cap, .int .i64 0]) ∧ Cv.OwnB w' W.heap.size (.slice ao n1 cap) (zl (cov 0 m)) ∧ Below W.heap.size W w') := fun W => by
    have h := Cv.rMountains_any m W
    rw [(range40 (Nat.zero_le _) (by omega)).1, (range40 (Nat.zero_le _) (by omega)).2] at h
    refine h.mono fun e w' ⟨v, e1, e2, e3⟩ => ?_
    obtain ⟨ao, n1, cap, rfl⟩ := Cv.own_slice e2
    exact ⟨ao, n1, cap, e1, e2, e3⟩
  have HR : Hid (∀ W, Calls Tryz.prog 133 #[.int .u64 (m : Int), .int .u64 (n : Int), .int .u64 (n : Int)] W fun e w' => ∃ ao n1 cap, e = .returned (.tuple #[.slice ao n1 cap, .int .i64 0]) ∧ Cv.OwnB w' W.heap.size (.slice ao n1 cap) (zl (cov m n)) ∧ Below W.heap.size W w') := fun W => by
    have h := Cv.rrange_any m n n W
    rw [(range40 hm hn).1, (range40 hm hn).2] at h
    refine h.mono fun e w' ⟨v, e1, e2, e3⟩ => ?_
    obtain ⟨ao, n1, cap, rfl⟩ := Cv.own_slice e2
    exact ⟨ao, n1, cap, e1, e2, e3⟩
  have hl := kb_len hm hn
  have HL : Hid ((zl (cov 0 m)).length + (zl (cov m n)).length ≤ 1048576 ∧ zl (cov 0 m) ++ zl (cov m n) = zl (kb m n)) := ⟨by rw [Cv.zl_len, Cv.zl_len]; rw [kb, List.length_append] at hl; omega, kb_zl m n⟩
  clear hm hn hl
  go_enter Tryz.func82, Tryz.ntmps82
  go_wp2_with (first
    | (go_at_call 83; with_reducible refine (HM.out _).mono ?_; rintro e w1 ⟨a1, n1, c1, rfl, h1, hb1⟩)
    | (go_at_call 133; with_reducible refine (HR.out _).mono ?_; rintro e w2 ⟨a2, n2, c2, rfl, h2, hb2⟩)
    | (at_builtin; refine Cv.wpList_append_B _ rfl _ _ rfl w.heap.size _ (zl (cov 0 m)) rfl (row_nextJ h1 hb2) _ (zl (cov m n)) rfl (Cv.rdc_own h2) HL.out.1 (Nat.le_trans hb1.size hb2.size) ?_))
  intro v' w3 o3 g3 _
  rw [HL.out.2] at o3
  have HF : Hid (Cv.OwnB w3 w.heap.size v' (zl (kb m n)) ∧ Below w.heap.size w w3) := ⟨o3, (bnext hb1 hb2).trans ((Below.refl _ _).grown g3 (Nat.le_trans hb1.size hb2.size) (fun g hg => (World.ownsRow.lt h1 g hg).1))⟩
  obtain ⟨a3, n3, c3, rfl⟩ := Cv.own_slice o3
  clear h1 h2 hb1 hb2 o3 g3
  go_wp2
  go_ret
  exact ⟨_, rfl, HF.out.1, HF.out.2⟩
theorem tw_at2 (w : World) (o : Obj) (h : Int) (k : Nat) : Tw ((w.alloc o).alloc (.cells #[.int .i64 h, .int .u64 (k : Int)] 94)) (w.heap.size + 1) h k := by
  have := tw_new (w.alloc o) h k
  rwa [World.size_alloc] at this
set_option maxRecDepth 100000 in
set_option maxHeartbeats 2000000 in
theorem rdigest_core (kd K : Int) (old size : Nat) (sa : Option Addr) (ns sc : Nat) (da : Option Addr) (db dO dc : Nat) (D : List ByteArray) (hD : ∀ d ∈ D, d.size ≤ 32) (ao : Option Addr) (g cap : Nat) (L : List (Nat × Nat)) (hLD : L.length ≤ D.length) (hm : L.length ≤ 1000) (h k : Nat) (hh : h ≤ 40) (hk : k < 2 ^ 41) (w : World) (hT : Tr w) (hR : RdS w da db dO D.length D) (hB : RdB w ao g 0 L.length (zl L)) (d : ByteArray) (hd : dgK (clk K) L D h k = d)
    (hrec : ∀ h0, h = h0 + 1 → (h, k) ∉ L → ∀ W, Below w.heap.size w W → Calls Tryz.prog 84 #[vP kd K old size (.slice sa ns sc) (.slice da D.length dc), .slice ao L.length cap, .agg #[.int .i64 (h0 : Int), .int .u64 ((2 * k : Nat) : Int)]] W (fun e w' => e = .returned (.string (dgK (clk K) L D h0 (2 * k))) ∧ Below W.heap.size W w') ∧ Calls Tryz.prog 84 #[vP kd K old size (.slice sa ns sc) (.slice da D.length dc), .slice ao L.length cap, .agg #[.int .i64 (h0 : Int), .int .u64 ((2 * k + 1 : Nat) : Int)]] W (fun e w' => e = .returned (.string (dgK (clk K) L D h0 (2 * k + 1))) ∧ Below W.heap.size W w')) :
    Calls Tryz.prog 84 #[vP kd K old size (.slice sa ns sc) (.slice da D.length dc), .slice ao L.length cap, .agg #[.int .i64 (h : Int), .int .u64 (k : Int)]] w fun e w' => e = .returned (.string d) ∧ Below w.heap.size w w' := by
  obtain ⟨W0, hW0⟩ : ∃ W0, (w.alloc (.cells #[.int .i64 kd, .int .i64 K, .int .u64 (old : Int), .int .u64 (size : Int), .slice sa ns sc, .slice da D.length dc] 38)).alloc (.cells #[.int .i64 (h : Int), .int .u64 (k : Int)] 94) = W0 := ⟨_, rfl⟩
  have hb0 : Below w.heap.size w W0 := by rw [← hW0]; exact bal (bal (Below.refl _ _) _) _
  have h6 : Six W0 w.heap.size (.int .i64 kd) (.int .i64 K) (.int .u64 (old : Int)) (.int .u64 (size : Int)) (.slice sa ns sc) (.slice da D.length dc) := by rw [← hW0]; exact (six_new w _ _ _ _ _ _).next (bal (Below.refl _ _) _)
  have htw : Tw W0 (w.heap.size + 1) (h : Int) k := by rw [← hW0]; exact tw_at2 _ _ _ _
  have HX : Hid (∀ Z, Below W0.heap.size W0 Z → Below w.heap.size w Z ∧ Tr Z ∧ RdS Z da db dO D.length D ∧ RdB Z ao g 0 L.length (zl L) ∧ Six Z w.heap.size (.int .i64 kd) (.int .i64 K) (.int .u64 (old : Int)) (.int .u64 (size : Int)) (.slice sa ns sc) (.slice da D.length dc) ∧ Tw Z (w.heap.size + 1) (h : Int) k) := fun Z hZ => by
    have h1 := bnext hb0 hZ
    exact ⟨h1, hT.next h1, hR.next h1 (Nat.le_refl _), hB.below h1, h6.next hZ, htw.next hZ⟩
  have HR : Hid (L.length ≤ D.length ∧ L.length ≤ 1000 ∧ h ≤ 40 ∧ k < 2 ^ 41 ∧ dgK (clk K) L D h k = d ∧ (∀ d ∈ D, d.size ≤ 32)) := ⟨hLD, hm, hh, hk, hd, hD⟩
  have HRec := hide hrec
  have HT : Hid (∀ W, Below w.heap.size w W → Tr W) := fun W hb => hT.next hb
  have hm1 : (L.length : Int) ≤ 1000 := by omega
  clear hT hR hB hLD hm hh hk hd h6 htw hb0 hrec hD
  unfold vP at HRec
  unfold vP
  go_enter Tryz.func84, Tryz.ntmps84
  go_wp2
  go_loopg [7] L.length (fun gg i wr => ∃ j : Nat, j ≤ L.length ∧ gg = L.length - j ∧ i = .int .i64 (j : Int) ∧ (∀ t, t < j → L.getD t (0, 0) ≠ (h, k)) ∧ Hid (Below W0.heap.size W0 wr))
  case atStart =>
    go_light
    try rw [hW0]
    exact ⟨0, Nat.zero_le _, rfl, rfl, fun t ht => absurd ht (Nat.not_lt_zero _), Below.refl _ _⟩
  case round =>
    obtain ⟨j, hj, rfl, rfl, hno, HI⟩ := hrel
    obtain ⟨hbw, htr, hrd, hrb, hsix, htw⟩ := HX.out wr HI.out
    obtain ⟨t0, t1⟩ := htw.cells
    by_cases hlt : j < L.length
    · have hz : (j : Int) < (L.length : Int) := by omega
      have hz0 : (0 : Int) ≤ (j : Int) := Int.natCast_nonneg _
      obtain ⟨⟨x, y⟩, hxy⟩ : ∃ b, L.getD j (0, 0) = b := ⟨_, rfl⟩
      obtain rfl := hrb.addr (by omega)
      obtain ⟨c0, c1⟩ := hrb.cell j hlt
      rw [zl_getD, hxy] at c0 c1
      dsimp only at c0 c1
      rw [Nat.zero_add] at c0 c1
      by_cases heq : (x, y) = (h, k)
      · cases heq
        have hltD : j < D.length := by have := HR.out.1; omega
        obtain rfl := hrd.ptr (by omega)
        have hDz : (j : Int) < (D.length : Int) := by omega
        have d0 := hrd.at hltD
        have hdd : D.getD j ByteArray.empty = d := by
          rw [← HR.out.2.2.2.2.1, dgK_in hlt hxy hno]; rfl
        rw [hdd] at d0
        have p5 := hsix.cells.2.2.2.2.2
        have HB := hide hbw
        clear hrb hrd hsix htw hbw hno hxy hdd htr HI
        go_upto_region 4 with (fail)
        go_region
        go_wp2
        go_ret
        exact ⟨rfl, HB.out.drew⟩
      · have HN : Hid (∀ t, t < j + 1 → L.getD t (0, 0) ≠ (h, k)) := fun t ht => by
          rcases Nat.lt_or_eq_of_le (Nat.le_of_lt_succ ht) with hx | rfl
          · exact hno t hx
          · rw [hxy]; exact heq
        have HB : Hid (Below W0.heap.size W0 wr.drew) := HI.out.drew
        by_cases hx : x = h
        · subst hx
          have hy : ((y : Int) == (k : Int)) = false := beq_false_of_ne (fun e => heq (by rw [Int.ofNat.inj e]))
          clear hrb hrd hsix htw hbw hno hxy htr HI heq
          go_upto_region 4 with (fail)
          go_region
          go_wp2
          go_roundg (L.length - (j + 1))
          case rel =>
            go_light
            exact ⟨j + 1, by omega, rfl, by go_num, HN.out, HB.out⟩
          case measure => go_light; omega
        · have hx : ((x : Int) == (h : Int)) = false := beq_false_of_ne (by omega)
          clear hrb hrd hsix htw hbw hno hxy htr HI heq
          go_upto_region 4 with (fail)
          go_region
          go_wp2
          go_roundg (L.length - (j + 1))
          case rel =>
            go_light
            exact ⟨j + 1, by omega, rfl, by go_num, HN.out, HB.out⟩
          case measure => go_light; omega
    · obtain rfl : j = L.length := by omega
      have hz : ¬ ((L.length : Int) < (L.length : Int)) := by omega
      have hnot : (h, k) ∉ L := fun hin => by
        obtain ⟨t, ht, e⟩ := List.getElem_of_mem hin
        refine hno t ht ?_
        rw [List.getD_eq_getElem?_getD, List.getElem?_eq_getElem ht]; exact e
      cases h with
      | zero =>
        have hdd : (⟨#[]⟩ : ByteArray) = d := by rw [← HR.out.2.2.2.2.1, dgK_zero hnot]
        subst hdd
        clear hrb hrd hsix htw hno hnot htr HI
        go_wp2
        go_ret
        exact ⟨rfl, hbw⟩
      | succ h0 =>
        obtain ⟨dx, hdx⟩ : ∃ dx, dgK (clk K) L D h0 (2 * k) = dx := ⟨_, rfl⟩
        obtain ⟨dy, hdy⟩ : ∃ dy, dgK (clk K) L D h0 (2 * k + 1) = dy := ⟨_, rfl⟩
        have hnode : dg (clk K) (nodeT dx dy) = d := by rw [← HR.out.2.2.2.2.1, dgK_node hnot, hdx, hdy]
        have hsx : dx.size ≤ 32 := by rw [← hdx]; exact dgK_size (clk_le K) HR.out.2.2.2.2.2 _ _
        have hsy : dy.size ≤ 32 := by rw [← hdy]; exact dgK_size (clk_le K) HR.out.2.2.2.2.2 _ _
        have HC1 : Hid (∀ W, Below w.heap.size w W → Calls Tryz.prog 84 #[.agg #[.int .i64 kd, .int .i64 K, .int .u64 (old : Int), .int .u64 (size : Int), .slice sa ns sc, .slice da D.length dc], .slice ao L.length cap, .agg #[.int .i64 (h0 : Int), .int .u64 ((2 * k : Nat) : Int)]] W (fun e w' => e = .returned (.string dx) ∧ Below W.heap.size W w')) := fun W hb => by
          rw [← hdx]; exact (HRec.out h0 rfl hnot W hb).1
        have HC2 : Hid (∀ W, Below w.heap.size w W → Calls Tryz.prog 84 #[.agg #[.int .i64 kd, .int .i64 K, .int .u64 (old : Int), .int .u64 (size : Int), .slice sa ns sc, .slice da D.length dc], .slice ao L.length cap, .agg #[.int .i64 (h0 : Int), .int .u64 ((2 * k + 1 : Nat) : Int)]] W (fun e w' => e = .returned (.string dy) ∧ Below W.heap.size W w')) := fun W hb => by
          rw [← hdy]; exact (HRec.out h0 rfl hnot W hb).2
        have HNd : Hid (∀ W, Below w.heap.size w W → Calls Tryz.prog 102 #[.int .i64 K, .string dx, .string dy] W fun e w' => e = .returned (.string d) ∧ Below W.heap.size W w') := fun W hb => refnode_any W (HT.out W hb) K dx dy (by omega) (by omega) d hnode
        have hb40 := HR.out.2.2.1
        have hb41 := HR.out.2.2.2.1
        obtain ⟨p0, p1, p2, p3, p4, p5⟩ := hsix.cells
        obtain ⟨hs, hhs⟩ : ∃ hs : Nat, h0 + 1 = hs := ⟨_, rfl⟩
        obtain ⟨k2, hk2⟩ : ∃ k2 : Nat, 2 * k = k2 := ⟨_, rfl⟩
        obtain ⟨k3, hk3⟩ : ∃ k3 : Nat, 2 * k + 1 = k3 := ⟨_, rfl⟩
        have ea : IntKind.i64.wrap ((hs : Int) - 1) = (h0 : Int) := by rw [IntKind.wrap_i64]; omega
        have eb : IntKind.u64.wrap (2 * (k : Int)) = (k2 : Int) := by rw [IntKind.wrap_u64]; omega
        have ec : IntKind.u64.wrap ((k2 : Int) + 1) = (k3 : Int) := by rw [IntKind.wrap_u64]; omega
        have hne : ((hs : Int) == 0) = false := beq_false_of_ne (by omega)
        rw [hhs] at t0
        rw [hk2] at HC1
        rw [hk3] at HC2
        have HY : Hid (∀ Z, Below wr.heap.size wr Z → Below w.heap.size w Z ∧ Six Z w.heap.size (.int .i64 kd) (.int .i64 K) (.int .u64 (old : Int)) (.int .u64 (size : Int)) (.slice sa ns sc) (.slice da D.length dc) ∧ Tw Z (w.heap.size + 1) (hs : Int) k) := fun Z hZ => by
          obtain ⟨z1, _, _, _, z2, z3⟩ := HX.out Z (bnext HI.out hZ)
          rw [hhs] at z3
          exact ⟨z1, z2, z3⟩
        clear hrb hrd hsix htw hno hnot htr HI HX HRec hdx hdy hnode hsx hsy hb40 hb41 hhs hk2 hk3 HR HT
        go_wp2_with (first
          | (go_at_call 84; with_reducible refine (HC1.out _ hbw).mono ?_; rintro e w5 ⟨rfl, hb5⟩; have hy5 := HY.out w5 hb5; obtain ⟨a0, a1, a2, a3, a4, a5⟩ := hy5.2.1.cells; obtain ⟨a6, a7⟩ := hy5.2.2.cells)
          | (go_at_call 84; with_reducible refine (HC2.out _ hy5.1).mono ?_; rintro e w6 ⟨rfl, hb6⟩; have hy6 := HY.out w6 (bnext hb5 hb6); obtain ⟨_, z1, _⟩ := hy6.2.1.cells)
          | (go_at_call 102; with_reducible refine (HNd.out _ hy6.1).mono ?_; rintro e w7 ⟨rfl, hb7⟩))
        go_ret
        exact ⟨rfl, bnext hy6.1 hb7⟩
theorem rdigest_any (kd K : Int) (old size : Nat) (sa : Option Addr) (ns sc : Nat) (da : Option Addr) (db dO dc : Nat) (D : List ByteArray) (hD : ∀ d ∈ D, d.size ≤ 32) (ao : Option Addr) (g cap : Nat) (L : List (Nat × Nat)) (hLD : L.length ≤ D.length) (hm : L.length ≤ 1000) : ∀ (h : Nat) (k : Nat), h ≤ 40 → (k + 1) * pw h ≤ 2 ^ 41 → ∀ (w : World), Tr w → RdS w da db dO D.length D → RdB w ao g 0 L.length (zl L) → ∀ d, dgK (clk K) L D h k = d →
    Calls Tryz.prog 84 #[vP kd K old size (.slice sa ns sc) (.slice da D.length dc), .slice ao L.length cap, .agg #[.int .i64 (h : Int), .int .u64 (k : Int)]] w fun e w' => e = .returned (.string d) ∧ Below w.heap.size w w' := by
  intro h
  induction h with
  | zero =>
    intro k _ hk w hT hR hB d hd
    rw [Pl.pw_zero, Nat.mul_one] at hk
    exact rdigest_core kd K old size sa ns sc da db dO dc D hD ao g cap L hLD hm 0 k (by decide) (by omega) w hT hR hB d hd (fun h0 e => by omega)
  | succ h ih =>
    intro k hh hk w hT hR hB d hd
    have hp := Pl.pw_pos (h + 1)
    have h1 : k + 1 ≤ (k + 1) * pw (h + 1) := Nat.le_mul_of_pos_right _ hp
    have e1 : (k + 1) * pw (h + 1) = (2 * k + 1 + 1) * pw h := by rw [Cv.mul_half]; congr 1
    have h2 : (2 * k + 1) * pw h ≤ (2 * k + 1 + 1) * pw h := Nat.mul_le_mul_right _ (by omega)
    refine rdigest_core kd K old size sa ns sc da db dO dc D hD ao g cap L hLD hm (h + 1) k hh (by omega) w hT hR hB d hd (fun h0 e _ W hb => ?_)
    obtain rfl : h0 = h := by omega
    exact ⟨ih (2 * k) (by omega) (by omega) W (hT.next hb) (hR.next hb (Nat.le_refl _)) (hB.below hb) _ rfl, ih (2 * k + 1) (by omega) (by omega) W (hT.next hb) (hR.next hb (Nat.le_refl _)) (hB.below hb) _ rfl⟩
end Go.Proofs.YtipcenbndhnnhaaGreatDoor
