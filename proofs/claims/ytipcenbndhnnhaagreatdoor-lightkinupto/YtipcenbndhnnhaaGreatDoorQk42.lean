/-
  Own work: JRefC, JRoots, WRefA.
-/
import Derived.Test.YtipcenbndhnnhaaGreatDoorQk41
namespace Go.Proofs.YtipcenbndhnnhaaGreatDoor
open Go.RowKit
open Cv (RdC zl cU cov)
open Pl (pw)
attribute [local go_sem ↓] Go.wp_at_zero Go.wp_at_succ
set_option maxRecDepth 100000 in
set_option maxHeartbeats 1000000 in
theorem rroots_no (w : World) (kd k : Int) (old size : Nat) (sa : Option Addr) (ns sc : Nat) (da : Option Addr) (db dO dc : Nat) (D : List ByteArray) (hr : RdS w da db dO D.length D) (hm : D.length ≤ 8796093022208) (hno : ¬ okK kd k old size ns D) :
    Calls Tryz.prog 43 #[vP kd k old size (.slice sa ns sc) (.slice da D.length dc)] w fun e w' => e = .returned (.tuple #[noR, noR, .int .i64 150]) ∧ Below w.heap.size w w' := by
  obtain ⟨W0, hW0⟩ : ∃ W0, ((w.alloc (.cells #[.int .i64 kd, .int .i64 k, .int .u64 (old : Int), .int .u64 (size : Int), .slice sa ns sc, .slice da D.length dc] 38)).alloc (.cells #[.int .u64 0, .string ⟨#[]⟩] 32)).alloc (.cells #[.int .u64 0, .string ⟨#[]⟩] 32) = W0 := ⟨_, rfl⟩
  obtain ⟨h3, hb⟩ := k3_start w kd k old size (.slice sa ns sc) (.slice da D.length dc) hW0
  obtain ⟨c0, c1, c2, c3, c4, c5⟩ := h3.six.cells
  have H3 := hide h3
  have HI : Hid (∀ W, Below w.heap.size w W → Calls Tryz.prog 81 #[vP kd k old size (.slice sa ns sc) (.slice da D.length dc)] W fun e w' => e = .returned (.bool false) ∧ Below W.heap.size W w') := fun W hb => kformed_any W kd k old size sa ns sc da db dO dc D (hr.next hb (Nat.le_refl _)) hm false (decide_eq_false hno)
  clear hr hm hno h3
  unfold vP at HI
  unfold vP
  go_enter Tryz.func43, Tryz.ntmps43
  go_wp2_with (go_at_call 81; with_reducible refine (HI.out _ hb).mono ?_; rintro e w3 ⟨rfl, hb3⟩; have hK := H3.out.next hb3; obtain ⟨k0, k1⟩ := hK.r1.cells; obtain ⟨k2, k3⟩ := hK.r2.cells; have f0 := hK.r1.fz; have f1 := hK.r2.fz)
  have hK1 := (hK.put1 0 ⟨#[]⟩).put2 0 ⟨#[]⟩
  have hc1 := putR_ch w3 (w.heap.size + 1) 0 ⟨#[]⟩
  have hc2 := putR_ch (putR w3 (w.heap.size + 1) 0 ⟨#[]⟩) (w.heap.size + 2) 0 ⟨#[]⟩
  unfold putR at hK1 hc1 hc2
  rw [show ((0 : Nat) : Int) = 0 from rfl] at hK1 hc1 hc2
  obtain ⟨s0, s1⟩ := hK1.r1.cells
  obtain ⟨s2, s3⟩ := hK1.r2.cells
  refine bodyPost_ret (v := .tuple #[noR, noR, .int .i64 150]) (by simp [results, Tryz.results43, go_sem, s0, s1, s2, s3]) rfl ⟨rfl, ?_⟩
  exact ((bnext hb hb3).trans (hc1.below (by rintro b rfl; omega))).trans (hc2.below (by rintro b rfl; omega))
theorem dgF_at (F : Nat → Nat → ByteArray) (T : List (Nat × Nat)) {j : Nat} (hj : j < T.length) : dgF F (T.take (j + 1)) = dgF F (T.take j) ++ [F (T.getD j (0, 0)).1 (T.getD j (0, 0)).2] := by
  rw [take_succ_getD (0, 0) T j hj, dgF, List.map_append]; rfl
set_option maxRecDepth 100000 in
set_option maxHeartbeats 4000000 in
theorem rroots_ok (w : World) (hT : Tr w) (k : Int) (old size : Nat) (sa : Option Addr) (sc : Nat) (da : Option Addr) (db dO dc : Nat) (D : List ByteArray) (hr : RdS w da db dO D.length D) (hdc : D.length ≤ dc) (hok : okK 3 k old size 0 D) (r1 r2 : ByteArray) (hr1 : kOld (clk k) old D = r1) (hr2 : kNow (clk k) size (dgK (clk k) (kb old size) D) = r2) :
    Calls Tryz.prog 43 #[vP 3 k old size (.slice sa 0 sc) (.slice da D.length dc)] w fun e w' => e = .returned (.tuple #[.agg #[.int .u64 (old : Int), .string r1], .agg #[.int .u64 (size : Int), .string r2], .int .i64 0]) ∧ Below w.heap.size w w' := by
  obtain ⟨W0, hW0⟩ : ∃ W0, ((w.alloc (.cells #[.int .i64 3, .int .i64 k, .int .u64 (old : Int), .int .u64 (size : Int), .slice sa 0 sc, .slice da D.length dc] 38)).alloc (.cells #[.int .u64 0, .string ⟨#[]⟩] 32)).alloc (.cells #[.int .u64 0, .string ⟨#[]⟩] 32) = W0 := ⟨_, rfl⟩
  obtain ⟨h3, hb⟩ := k3_start w 3 k old size (.slice sa 0 sc) (.slice da D.length dc) hW0
  obtain ⟨c0, c1, c2, c3, c4, c5⟩ := h3.six.cells
  have H3 := hide h3
  obtain ⟨h1, h2⟩ := hok
  have hos : old ≤ size := h1.2.2.1
  have hs40 : size ≤ 2 ^ 40 := h1.2.1
  have hkk : 1 ≤ k ∧ k ≤ 32 := h1.1.2
  have hfl : D.length = (kb old size).length := h2.1
  have hfs : ∀ d ∈ D, (d.size : Int) = k := h2.2
  have hkl := kb_len hos hs40
  have hmm : D.length ≤ 8796093022208 := by omega
  have hD32 : ∀ d ∈ D, d.size ≤ 32 := fun d hd => by have := hfs d hd; omega
  have hon : (cov 0 old).length ≤ D.length := by rw [hfl, kb, List.length_append]; omega
  obtain ⟨t, htl⟩ : ∃ t, (cov 0 old).length = t := ⟨_, rfl⟩
  rw [htl] at hon
  have HI : Hid (∀ W, Below w.heap.size w W → Calls Tryz.prog 81 #[vP 3 k old size (.slice sa 0 sc) (.slice da D.length dc)] W fun e w' => e = .returned (.bool true) ∧ Below W.heap.size W w') := fun W hb => kformed_any W 3 k old size sa 0 sc da db dO dc D (hr.next hb (Nat.le_refl _)) hmm true (decide_eq_true ⟨h1, h2⟩)
  have HBk : Hid (∀ W, Calls Tryz.prog 82 #[.int .u64 (old : Int), .int .u64 (size : Int)] W fun e w' => ∃ ao g cap, e = .returned (.slice ao (kb old size).length cap) ∧ RdB w' ao g 0 (kb old size).length (zl (kb old size)) ∧ Below W.heap.size W w') := fun W => (rblocks_any W old size hos hs40).mono fun e w' ⟨v, e1, e2, e3⟩ => by
    obtain ⟨ao, g, n', cap, rfl, hr', _⟩ := own_rdB e2 (fun x hx => by
      obtain ⟨b0, hb0, rfl⟩ := List.mem_map.1 hx
      exact (fit40 (kb_in hos hs40 b0 hb0) hs40).1)
    have hl := hr'.len
    rw [Cv.zl_len] at hl
    subst hl
    exact ⟨ao, g, cap, e1, hr', e3⟩
  have HM : Hid (∀ (W : World) (n : Nat), n ≤ 2 ^ 40 → Calls Tryz.prog 83 #[.int .u64 (n : Int)] W fun e w' => ∃ ao g cap, e = .returned (.tuple #[.slice ao (cov 0 n).length cap, .int .i64 0]) ∧ RdB w' ao g 0 (cov 0 n).length (zl (cov 0 n)) ∧ Below W.heap.size W w') := fun W n hn => by
    have h := Cv.rMountains_any n W
    rw [(range40 (Nat.zero_le _) hn).1, (range40 (Nat.zero_le _) hn).2] at h
    refine h.mono fun e w' ⟨v, e1, e2, e3⟩ => ?_
    obtain ⟨ao, g, n', cap, rfl, hr', _⟩ := own_rdB e2 (fun x hx => by
      obtain ⟨b0, hb0, rfl⟩ := List.mem_map.1 hx
      exact (fit40 ((row_fromJ (Cv.cov_row 0 n (Nat.zero_le _) hn) b0 hb0).2) hn).1)
    have hl := hr'.len
    rw [Cv.zl_len] at hl
    subst hl
    exact ⟨ao, g, cap, e1, hr', e3⟩
  have HM1 : Hid (∀ W, Calls Tryz.prog 83 #[.int .u64 (old : Int)] W fun e w' => ∃ ao cap, e = .returned (.tuple #[.slice ao t cap, .int .i64 0]) ∧ Below W.heap.size W w') := fun W => (HM.out W old (by omega)).mono fun e w' ⟨ao, g, cap, e1, _, e3⟩ => by
    rw [htl] at e1
    exact ⟨ao, cap, e1, e3⟩
  obtain ⟨T, hTd⟩ : ∃ T, cov 0 size = T := ⟨_, rfl⟩
  have hTl : T.length ≤ 40 := by rw [← hTd]; exact Cv.cov_forty size hs40
  have hTin : ∀ b ∈ T, b.1 ≤ 40 ∧ (b.2 + 1) * pw b.1 ≤ 2 ^ 41 := fun b hb => by
    rw [← hTd] at hb
    have h5 := (row_fromJ (Cv.cov_row 0 size (Nat.zero_le _) hs40) b hb).2
    exact ⟨h40_of (Nat.succ_pos _) (Nat.le_trans h5 hs40), by omega⟩
  have HM2 : Hid (∀ W, Calls Tryz.prog 83 #[.int .u64 (size : Int)] W fun e w' => ∃ ao g cap, e = .returned (.tuple #[.slice ao T.length cap, .int .i64 0]) ∧ RdB w' ao g 0 T.length (zl T) ∧ Below W.heap.size W w') := fun W => by rw [← hTd]; exact HM.out W size hs40
  obtain ⟨F, hFd⟩ : ∃ F, dgK (clk k) (kb old size) D = F := ⟨_, rfl⟩
  have hFs : ∀ a b, (F a b).size ≤ 32 := fun a b => by rw [← hFd]; exact dgK_size (clk_le k) hD32 a b
  rw [hFd, kNow, hTd] at hr2
  have HDg : Hid (∀ W ao g cap j, Below w.heap.size w W → RdB W ao g 0 (kb old size).length (zl (kb old size)) → j < T.length → Calls Tryz.prog 84 #[vP 3 k old size (.slice sa 0 sc) (.slice da D.length dc), .slice ao (kb old size).length cap, .agg #[.int .i64 ((T.getD j (0, 0)).1 : Int), .int .u64 ((T.getD j (0, 0)).2 : Int)]] W fun e w' => e = .returned (.string (F (T.getD j (0, 0)).1 (T.getD j (0, 0)).2)) ∧ Below W.heap.size W w') := fun W ao g cap j hb hB hj => by
    have hin := hTin _ (mem_getD hj)
    exact rdigest_any 3 k old size sa 0 sc da db dO dc D hD32 ao g cap (kb old size) (by omega) (by omega) _ _ hin.1 hin.2 W (hT.next hb) (hr.next hb (Nat.le_refl _)) hB _ (by rw [hFd])
  have HR1 : Hid (∀ W, Below w.heap.size w W → Calls Tryz.prog 24 #[.int .i64 k, .int .u64 (old : Int), .slice da t dc] W fun e w' => e = .returned (.string r1) ∧ Below W.heap.size W w') := fun W hb => by
    have hrd := rds_take (hr.next hb (Nat.le_refl _)) hon
    rw [List.length_take, Nat.min_eq_left hon] at hrd
    exact refroot_any W (hT.next hb) k old (by omega) da db dO t dc (D.take t) hrd (fun s hs => by have := hfs s (List.mem_of_mem_take hs); omega) (by omega) r1 (by rw [← hr1, kOld, htl])
  have HR2 : Hid (∀ W ap bp cp, Below w.heap.size w W → RdS W ap bp 0 T.length (dgF F T) → Calls Tryz.prog 24 #[.int .i64 k, .int .u64 (size : Int), .slice ap T.length cp] W fun e w' => e = .returned (.string r2) ∧ Below W.heap.size W w') := fun W ap bp cp hb hR => refroot_any W (hT.next hb) k size (by omega) ap bp 0 T.length cp (dgF F T) hR (fun s hs => by
      obtain ⟨b, _, rfl⟩ := List.mem_map.1 hs
      have := hFs b.1 b.2
      omega) (by omega) r2 hr2
  have htz : (t : Int) ≤ (D.length : Int) := by omega
  have htc : (t : Int) ≤ (dc : Int) := by omega
  have ht0 : (0 : Int) ≤ (t : Int) := Int.natCast_nonneg _
  have hTz : (T.length : Int) ≤ 40 := by omega
  obtain ⟨lb, hlb⟩ : ∃ lb, (kb old size).length = lb := ⟨_, rfl⟩
  obtain ⟨zb, hzb⟩ : ∃ zb, zl (kb old size) = zb := ⟨_, rfl⟩
  rw [hlb, hzb] at HBk HDg
  have HFs : Hid ((∀ a b, (F a b).size ≤ 32) ∧ T.length ≤ 40 ∧ (∀ b ∈ T, b.1 ≤ 40 ∧ (b.2 + 1) * pw b.1 ≤ 2 ^ 41)) := ⟨hFs, hTl, hTin⟩
  clear hT hr hdc h1 h2 hos hs40 hkk hfl hfs hkl hmm hon htl hr1 hr2 h3 hlb hzb hTd hFd hFs hTl hTin HM hD32
  unfold vP at HI HDg
  unfold vP
  go_enter Tryz.func43, Tryz.ntmps43
  go_upto_region 6 with (first
    | (go_at_call 81; with_reducible refine (HI.out _ hb).mono ?_; rintro e w1 ⟨rfl, hb1⟩; obtain ⟨d0, d1, d2, d3, d4, d5⟩ := (H3.out.next hb1).six.cells)
    | (go_at_call 82; with_reducible refine (HBk.out _).mono ?_; rintro e w2 ⟨ao, g, cap, rfl, hB2, hb2⟩; obtain ⟨g0, g1, g2, g3, g4, g5⟩ := (H3.out.next (bnext hb1 hb2)).six.cells)
    | (go_at_call 83; with_reducible refine (HM2.out _).mono ?_; rintro e w4 ⟨at4, gt, cap4, rfl, hB4, hb4⟩; have hb24 := bnext hb3 hb4)
    | (go_at_call 83; with_reducible refine (HM1.out _).mono ?_; rintro e w3 ⟨ao3, cap3, rfl, hb3⟩; obtain ⟨k0, k1, k2, k3, k4, k5⟩ := (H3.out.next (bnext (bnext hb1 hb2) hb3)).six.cells))
  have hB4b := hB2.below hb24
  have hbw := bnext (bnext (bnext hb hb1) hb2) hb24
  have hK4 := H3.out.next (bnext (bnext hb1 hb2) hb24)
  have HX : Hid (∀ Z, Below w4.heap.size w4 Z → Below w.heap.size w Z ∧ K3 Z w.heap.size 3 k old size (.slice sa 0 sc) (.slice da D.length dc) 0 ⟨#[]⟩ 0 ⟨#[]⟩ ∧ RdB Z ao g 0 lb zb ∧ RdB Z at4 gt 0 T.length (zl T)) := fun Z hZ => ⟨bnext hbw hZ, hK4.next hZ, hB4b.below hZ, hB4.below hZ⟩
  clear H3 HI HBk HM1 HM2 hb hb1 hb2 hb3 hb4 hb24 hW0 c0 c1 c2 c3 c4 c5 d0 d1 d2 d3 d4 d5 g0 g1 g2 g3 g4 g5 k0 k1 k2 k3 k4 k5 hB2 hB4 hK4 hB4b hbw
  go_wp2
  go_loopg [10, 11] T.length (fun gg v i wr => ∃ j : Nat, j ≤ T.length ∧ gg = T.length - j ∧ i = .int .i64 (j : Int) ∧ Hid (OwnS wr w4.heap.size v (dgF F (T.take j)) ∧ Below w4.heap.size w4 wr))
  case atStart =>
    go_light
    exact ⟨0, Nat.zero_le _, rfl, rfl, owns_nil _ _, Below.refl _ _⟩
  case round =>
    obtain ⟨j, hj, rfl, rfl, HI⟩ := hrel
    by_cases hlt : j < T.length
    · have hz : (j : Int) < (T.length : Int) := by omega
      have hz0 : (0 : Int) ≤ (j : Int) := Int.natCast_nonneg _
      obtain rfl := (HX.out wr HI.out.2).2.2.2.addr (by omega)
      obtain ⟨⟨x, y⟩, hxy⟩ : ∃ b, T.getD j (0, 0) = b := ⟨_, rfl⟩
      obtain ⟨d, hd⟩ : ∃ d, F x y = d := ⟨_, rfl⟩
      have hnx := dgF_at F T hlt
      rw [hxy] at hnx
      dsimp only at hnx
      rw [hd] at hnx
      have HDj : Hid (∀ W, Below w4.heap.size w4 W → Calls Tryz.prog 84 #[.agg #[.int .i64 3, .int .i64 k, .int .u64 (old : Int), .int .u64 (size : Int), .slice sa 0 sc, .slice da D.length dc], .slice ao lb cap, .agg #[.int .i64 (x : Int), .int .u64 (y : Int)]] W fun e w' => e = .returned (.string d) ∧ Below W.heap.size W w') := fun W hb => by
        have h := HDg.out W ao g cap j (HX.out W hb).1 (HX.out W hb).2.2.1 hlt
        rw [hxy] at h
        dsimp only at h
        rw [hd] at h
        exact h
      have HC : Hid (∀ Z, Below wr.heap.size wr Z → Z.cell? ⟨w.heap.size, 0, none⟩ = some (.int .i64 3) ∧ Z.cell? ⟨w.heap.size, 1, none⟩ = some (.int .i64 k) ∧ Z.cell? ⟨w.heap.size, 2, none⟩ = some (.int .u64 (old : Int)) ∧ Z.cell? ⟨w.heap.size, 3, none⟩ = some (.int .u64 (size : Int)) ∧ Z.cell? ⟨w.heap.size, 4, none⟩ = some (.slice sa 0 sc) ∧ Z.cell? ⟨w.heap.size, 5, none⟩ = some (.slice da D.length dc) ∧ Z.cell? ⟨gt, j * 2, none⟩ = some (.int .i64 (x : Int)) ∧ Z.cell? ⟨gt, j * 2 + 1, none⟩ = some (.int .u64 (y : Int))) := fun Z hZ => by
        have hx := HX.out Z (bnext HI.out.2 hZ)
        obtain ⟨a0, a1, a2, a3, a4, a5⟩ := hx.2.1.six.cells
        obtain ⟨b0, b1⟩ := hx.2.2.2.cell j hlt
        rw [zl_getD, hxy] at b0 b1
        dsimp only at b0 b1
        rw [Nat.zero_add] at b0 b1
        exact ⟨a0, a1, a2, a3, a4, a5, b0, b1⟩
      have hds : d.size ≤ 32 := by rw [← hd]; exact HFs.out.1 x y
      obtain ⟨A, hA⟩ : ∃ A, dgF F (T.take j) = A := ⟨_, rfl⟩
      have hAl : A.length ≤ 40 := by rw [← hA, List.length_map, List.length_take]; have := HFs.out.2.1; omega
      rw [hA] at HI hnx
      have HN : Hid (dgF F (T.take (j + 1)) = A ++ [d] ∧ d.size ≤ 32 ∧ A.length ≤ 40) := ⟨hnx, hds, hAl⟩
      have hb0 := Below.refl wr.heap.size wr
      clear hxy hd hnx hds hA hAl
      go_upto_region 10 with (fail)
      go_region_held3 (fun Z => Z.cell? ⟨w.heap.size, 0, none⟩ = some (.int .i64 3) ∧ Z.cell? ⟨w.heap.size, 1, none⟩ = some (.int .i64 k) ∧ Z.cell? ⟨w.heap.size, 2, none⟩ = some (.int .u64 (old : Int)) ∧ Z.cell? ⟨w.heap.size, 3, none⟩ = some (.int .u64 (size : Int)) ∧ Z.cell? ⟨w.heap.size, 4, none⟩ = some (.slice sa 0 sc) ∧ Z.cell? ⟨w.heap.size, 5, none⟩ = some (.slice da D.length dc) ∧ Z.cell? ⟨gt, j * 2, none⟩ = some (.int .i64 (x : Int)) ∧ Z.cell? ⟨gt, j * 2 + 1, none⟩ = some (.int .u64 (y : Int)))
        (exact HC.out _ (by first | exact hb0 | exact hb0.drew | exact hb5)) (first
        | (go_at_call 84; with_reducible refine (HDj.out _ (by first | exact HI.out.2.drew | exact HI.out.2)).mono ?_; rintro e w5 ⟨rfl, hb5'⟩; have hb5 : Below wr.heap.size wr w5 := by first | exact bnext hb0.drew hb5' | exact bnext hb0 hb5'))
      all_goals
        have hO5 := own_next HI.out.1 hb5 (Nat.le_refl _)
        have hb45 := bnext HI.out.2 hb5
        have HO5 := hide (And.intro hO5 hb45)
        clear hO5 hb45 HI HC HDj hb0 hb5 hb5'
        go_wp2_with (at_builtin; refine wpList_append_S _ rfl _ _ rfl w4.heap.size _ A rfl (own_al HO5.out.1 _) (some ⟨w5.heap.size, 0, none⟩) w5.heap.size 0 1 [d] rfl (rds_one w5 d (by have := HN.out.2.1; omega)) (fun h => by cases h) ?c1 ?c2 ?_)
        case c1 => have := HN.out.2.2; simp; omega
        case c2 => have := HO5.out.2.size; simp; omega
        intro v' w6 h1 h2
        have HY : Hid (OwnS w6 w4.heap.size v' (dgF F (T.take (j + 1))) ∧ Below w4.heap.size w4 w6) := ⟨by rw [HN.out.1]; exact h1, (bal HO5.out.2 _).trans h2⟩
        clear h1 h2 HO5 HN
        go_wp2
        go_roundg (T.length - (j + 1))
        case rel =>
          go_light
          exact ⟨j + 1, by omega, rfl, by go_num, HY.out.1, HY.out.2⟩
        case measure => go_light; omega
    · obtain rfl : j = T.length := by omega
      have hz : ¬ ((T.length : Int) < (T.length : Int)) := by omega
      have hO := HI.out.1
      rw [List.take_length] at hO
      obtain ⟨aP, bP, cP, rfl, rP, _, _⟩ := owns_rds hO (fun s hs => by
        obtain ⟨b, _, rfl⟩ := List.mem_map.1 hs
        have := HFs.out.1 b.1 b.2
        omega)
      rw [List.length_map] at rP ⊢
      have HXr : Hid (∀ Z, Below wr.heap.size wr Z → Below w.heap.size w Z ∧ K3 Z w.heap.size 3 k old size (.slice sa 0 sc) (.slice da D.length dc) 0 ⟨#[]⟩ 0 ⟨#[]⟩ ∧ RdS Z aP bP 0 T.length (dgF F T)) := fun Z hZ => by
        obtain ⟨a1, a2, _⟩ := HX.out Z (bnext HI.out.2 hZ)
        exact ⟨a1, a2, rP.next hZ (Nat.le_refl _)⟩
      have hb0 := Below.refl wr.heap.size wr
      have HC : Hid (∀ Z, Below wr.heap.size wr Z → Z.cell? ⟨w.heap.size, 1, none⟩ = some (.int .i64 k) ∧ Z.cell? ⟨w.heap.size, 2, none⟩ = some (.int .u64 (old : Int)) ∧ Z.cell? ⟨w.heap.size, 5, none⟩ = some (.slice da D.length dc)) := fun Z hZ => by
        obtain ⟨_, a1, a2, _, _, a5⟩ := (HXr.out Z hZ).2.1.six.cells
        exact ⟨a1, a2, a5⟩
      clear hO rP HI HX hlt HDg
      have n0 : ∀ W : World, (W.alloc (.cells #[.int .u64 0, .string ⟨#[]⟩] 32)).cell? ⟨W.heap.size, 0, none⟩ = some (.int .u64 0) := fun W => (rh_new W 0 ⟨#[]⟩).cells.1
      have n1 : ∀ W : World, (W.alloc (.cells #[.int .u64 0, .string ⟨#[]⟩] 32)).cell? ⟨W.heap.size, 1, none⟩ = some (.string ⟨#[]⟩) := fun W => (rh_new W 0 ⟨#[]⟩).cells.2
      have n2 : ∀ (W : World) (i : Nat), (W.alloc (.cells #[.int .u64 0, .string ⟨#[]⟩] 32)).frozen? ⟨W.heap.size, i, none⟩ = false := fun W i => (rh_new W 0 ⟨#[]⟩).fz i
      go_upto_region 12 with (fail)
      go_cut [13] from 53 to 65 (fun x wx => ∃ q, x = .pointer (some ⟨q, 0, none⟩) ∧ Rh wx q old r1 ∧ wr.heap.size ≤ q ∧ Below wr.heap.size wr wx)
      case first =>
        go_region_held3 (fun Z => Z.cell? ⟨w.heap.size, 1, none⟩ = some (.int .i64 k) ∧ Z.cell? ⟨w.heap.size, 2, none⟩ = some (.int .u64 (old : Int)) ∧ Z.cell? ⟨w.heap.size, 5, none⟩ = some (.slice da D.length dc))
          (exact HC.out _ (by repeat (first | exact hb0 | exact hb5 | refine Below.drew ?_ | refine bal ?_ _ | refine below_put ?_ (by first | exact Nat.le_refl _ | exact hb5.size)))) (first
          | (go_at_call 24; with_reducible refine (HR1.out _ (HXr.out _ (by repeat (first | exact hb0 | refine Below.drew ?_ | refine bal ?_ _))).1).mono ?_; rintro e w5 ⟨rfl, hb5'⟩
             have hb5 : Below wr.heap.size wr w5 := bnext (by repeat (first | exact hb0 | refine Below.drew ?_ | refine bal ?_ _)) hb5'
             try (have hq5 : Rh w5 wr.heap.size 0 ⟨#[]⟩ := (by refine Rh.next ?_ hb5'; exact rh_new wr 0 ⟨#[]⟩); obtain ⟨k0, k1⟩ := hq5.cells; have f0 := hq5.fz)))
        all_goals
          have HF : Hid (Below wr.heap.size wr w5 ∧ wr.heap.size ≤ w5.heap.size) := ⟨hb5, hb5.size⟩
          clear hb5 hb5'
          go_wp2
          go_meet
          case rel =>
            go_light
            first
              | exact ⟨w5.heap.size, rfl, rh_new w5 old r1, HF.out.2, bal HF.out.1 _⟩
              | exact ⟨w5.heap.size, rfl, (rh_new w5 0 ⟨#[]⟩).put old r1, HF.out.2, (bal HF.out.1 _).trans ((putR_ch _ w5.heap.size old r1).below (by rintro b rfl; exact HF.out.2))⟩
              | exact ⟨wr.heap.size, rfl, hq5.put old r1, Nat.le_refl _, HF.out.1.trans ((putR_ch _ wr.heap.size old r1).below (by rintro b rfl; exact Nat.le_refl _))⟩
      case rest =>
        obtain ⟨q, rfl, hq, hqs, hbc⟩ := hcut
        have HXc : Hid (∀ Z, Below wc.heap.size wc Z → (Below w.heap.size w Z ∧ K3 Z w.heap.size 3 k old size (.slice sa 0 sc) (.slice da D.length dc) 0 ⟨#[]⟩ 0 ⟨#[]⟩ ∧ RdS Z aP bP 0 T.length (dgF F T)) ∧ Rh Z q old r1) := fun Z hZ => ⟨HXr.out Z (bnext hbc hZ), hq.next hZ⟩
        have hq2 : w.heap.size + 2 < q := Nat.lt_of_lt_of_le (HXr.out wr hb0).2.1.r2.lt hqs
        have hb1 := Below.refl wc.heap.size wc
        clear HXr HC hq hqs hbc hb0 n0 n1 n2 HR1
        have HC : Hid (∀ Z, Below wc.heap.size wc Z → Z.cell? ⟨w.heap.size, 1, none⟩ = some (.int .i64 k) ∧ Z.cell? ⟨w.heap.size, 3, none⟩ = some (.int .u64 (size : Int)) ∧ Z.cell? ⟨q, 0, none⟩ = some (.int .u64 (old : Int)) ∧ Z.cell? ⟨q, 1, none⟩ = some (.string r1)) := fun Z hZ => by
          obtain ⟨a, b⟩ := HXc.out Z hZ
          obtain ⟨_, a1, _, a3, _, _⟩ := a.2.1.six.cells
          exact ⟨a1, a3, b.cells.1, b.cells.2⟩
        have HP : Hid (∀ (Y : World) (g : Nat) (a b : Value), (g = w.heap.size + 1 ∨ g = w.heap.size + 1 + 1) → (∀ Z : World, Z = Y → Z.cell? ⟨w.heap.size, 1, none⟩ = some (.int .i64 k) ∧ Z.cell? ⟨w.heap.size, 3, none⟩ = some (.int .u64 (size : Int)) ∧ Z.cell? ⟨q, 0, none⟩ = some (.int .u64 (old : Int)) ∧ Z.cell? ⟨q, 1, none⟩ = some (.string r1)) → ∀ Z : World, Z = (Y.setCell ⟨g, 0, none⟩ a).setCell ⟨g, 1, none⟩ b → Z.cell? ⟨w.heap.size, 1, none⟩ = some (.int .i64 k) ∧ Z.cell? ⟨w.heap.size, 3, none⟩ = some (.int .u64 (size : Int)) ∧ Z.cell? ⟨q, 0, none⟩ = some (.int .u64 (old : Int)) ∧ Z.cell? ⟨q, 1, none⟩ = some (.string r1)) := fun Y g a b hg hY Z hZ => by
          subst hZ
          obtain ⟨x1, x2, x3, x4⟩ := hY Y rfl
          have hg1 : w.heap.size ≠ g := by omega
          have hg2 : q ≠ g := by omega
          have e : ∀ (p i : Nat), p ≠ g → ((Y.setCell ⟨g, 0, none⟩ a).setCell ⟨g, 1, none⟩ b).cell? ⟨p, i, none⟩ = Y.cell? ⟨p, i, none⟩ := fun p i hp => World.cell?_of_block (a := ⟨p, i, none⟩) ((((ChT.refl (fun x => x = g) Y).set g 0 a rfl).set g 1 b rfl).block p hp)
          exact ⟨(e _ _ hg1).trans x1, (e _ _ hg1).trans x2, (e _ _ hg2).trans x3, (e _ _ hg2).trans x4⟩
        go_upto_region 13 with (fail)
        go_region_held3 (fun Z => Z.cell? ⟨w.heap.size, 1, none⟩ = some (.int .i64 k) ∧ Z.cell? ⟨w.heap.size, 3, none⟩ = some (.int .u64 (size : Int)) ∧ Z.cell? ⟨q, 0, none⟩ = some (.int .u64 (old : Int)) ∧ Z.cell? ⟨q, 1, none⟩ = some (.string r1))
          (first | exact HC.out _ (by first | exact hb1 | exact hb1.drew | exact hb14) | exact HP.out w14 (w.heap.size + 1) _ _ (.inl rfl) (fun Z e => by rw [e]; exact HC.out _ hb14) _ rfl | exact HP.out _ (w.heap.size + 1 + 1) _ _ (.inr rfl) (fun Z e => HP.out w14 (w.heap.size + 1) _ _ (.inl rfl) (fun Z e => by rw [e]; exact HC.out _ hb14) Z e) _ rfl) (first
          | (go_at_call 24; with_reducible refine (HR2.out _ _ _ _ (HXc.out _ (by first | exact hb1.drew | exact hb1)).1.1 (HXc.out _ (by first | exact hb1.drew | exact hb1)).1.2.2).mono ?_; rintro e w14 ⟨rfl, hb14'⟩
             have hb14 : Below wc.heap.size wc w14 := by first | exact bnext hb1.drew hb14' | exact bnext hb1 hb14'
             have hK14 := (HXc.out w14 hb14).1.2.1
             obtain ⟨k0, k1⟩ := hK14.r1.cells
             have f0 := hK14.r1.fz
             have hK15 := hK14.put1 old r1
             obtain ⟨k2, k3⟩ := hK15.r2.cells
             have f1 := hK15.r2.fz
             unfold putR at k2 k3 f1))
        all_goals
          have hK16 := hK15.put2 size r2
          have hc13 := putR_ch w14 (w.heap.size + 1) old r1
          have hc14 := putR_ch (putR w14 (w.heap.size + 1) old r1) (w.heap.size + 2) size r2
          unfold putR at hK16 hc13 hc14
          obtain ⟨y0, y1⟩ := hK16.r1.cells
          obtain ⟨y2, y3⟩ := hK16.r2.cells
          have HB := hide (((HXc.out w14 hb14).1.1.trans (hc13.below (by rintro b rfl; omega))).trans (hc14.below (by rintro b rfl; omega)))
          clear hK14 hK15 hK16 hc13 hc14 hb14 hb14' HXc HC HP
          go_wp2
          refine bodyPost_ret (v := .tuple #[.agg #[.int .u64 (old : Int), .string r1], .agg #[.int .u64 (size : Int), .string r2], .int .i64 0]) (by simp [results, Tryz.results43, go_sem, y0, y1, y2, y3]) rfl ⟨rfl, ?_⟩
          exact HB.out
end Go.Proofs.YtipcenbndhnnhaaGreatDoor
namespace Go.Proofs.YtipcenbndhnnhaaGreatDoor
open Go.RowKit
open Cv (cU)
attribute [local go_sem ↓] Go.wp_at_zero Go.wp_at_succ
theorem kboth (kd k : Int) (old size ns : Nat) (D : List ByteArray) (hD : D.length ≤ 8796093022208) : ∃ (n1 : Nat) (d1 : ByteArray) (n2 : Nat) (d2 : ByteArray) (er : Nat),
    (∀ W sa sc da db dO dc, Tb W → RdS W da db dO D.length D → D.length ≤ dc → Calls Tryz.prog 39 #[vP kd k old size (.slice sa ns sc) (.slice da D.length dc)] W fun e w' => e = .returned (.tuple #[.agg #[.int .u64 (n1 : Int), .string d1], .agg #[.int .u64 (n2 : Int), .string d2], .int .i64 (er : Int)]) ∧ Below W.heap.size W w') ∧
    (∀ W sa sc da db dO dc, Tr W → RdS W da db dO D.length D → D.length ≤ dc → Calls Tryz.prog 43 #[vP kd k old size (.slice sa ns sc) (.slice da D.length dc)] W fun e w' => e = .returned (.tuple #[.agg #[.int .u64 (n1 : Int), .string d1], .agg #[.int .u64 (n2 : Int), .string d2], .int .i64 (er : Int)]) ∧ Below W.heap.size W w') := by
  by_cases h1 : okK kd k old size ns D
  · obtain rfl : kd = 3 := h1.1.1.1
    obtain rfl : ns = 0 := h1.1.2.2.2
    have hD32 : ∀ d ∈ D, d.size ≤ 32 := fun d hd => by have := h1.2.2 d hd; have := h1.1.1.2; omega
    refine ⟨old, kOld (clk k) old D, size, kNow (clk k) size (dgK (clk k) (kb old size) D), 0, fun W sa sc da db dO dc hT hR hc => ?_, fun W sa sc da db dO dc hT hR hc => ?_⟩
    · exact kroots_ok W hT k old size sa sc da db dO dc D hR hc h1 _ (jn_dgK (clk_le k) (kb_row h1.1.2.2.1 h1.1.2.1) hD32) _ _ rfl rfl
    · exact rroots_ok W hT k old size sa sc da db dO dc D hR hc h1 _ _ rfl rfl
  · exact ⟨0, ⟨#[]⟩, 0, ⟨#[]⟩, 150, fun W sa sc da db dO dc _ hR _ => kroots_no W kd k old size sa ns sc da db dO dc D hR hD h1, fun W sa sc da db dO dc _ hR _ => rroots_no W kd k old size sa ns sc da db dO dc D hR hD h1⟩
section
variable {w wr W : World} {B q3 q4 q6 : Nat} {kd k : Int} {old size : Nat} {vs : Value} {gd cd : Nat} {E : List ByteArray} {n : Nat}
end
end Go.Proofs.YtipcenbndhnnhaaGreatDoor
namespace Go.Proofs.YtipcenbndhnnhaaGreatDoor
open Go.RowKit
attribute [local go_sem ↓] Go.wp_at_zero Go.wp_at_succ
set_option maxRecDepth 100000 in
theorem refnum_any (w : World) (n : Nat) (hn : n < 18446744073709551616) :
    Calls Tryz.prog 132 #[.int .u64 (n : Int)] w fun x w' => x = .returned (.string ⟨(num n).toArray⟩) ∧ Below w.heap.size w w' := by
  have HL := hideC (num_len (n := n) hn)
  go_enter Tryz.func132, Tryz.ntmps132
  go_wp2
  go_loopg [0, 3] n (fun g x v wr => ∃ (m : Nat) (pre : List UInt8), m = g ∧ x = .int .u64 (m : Int) ∧ OwnY wr w.heap.size v pre ∧ Hid (pre ++ num m = num n ∧ m ≤ n) ∧ Below w.heap.size w wr)
  case atStart =>
    go_light
    exact ⟨n, [], rfl, rfl, World.ownsRow_nil _ _ _ _, ⟨rfl, Nat.le_refl _⟩, Below.refl _ _⟩
  case round =>
    obtain ⟨m, pre, hg, rfl, hown, HP, hb⟩ := hrel
    subst hg
    have HS : Hid (pre.length ≤ 10 ∧ w.heap.size ≤ wr.heap.size) := by
      have := congrArg List.length HP.out.1
      rw [List.length_append] at this
      have := HL.out
      exact ⟨by omega, hb.size⟩
    by_cases hm : m < 128
    · have hm' : (m : Int) < 128 := by omega
      have HY := hideC (ofNat_toNat (x := m) (by omega)).symm
      have HR : Hid (pre ++ [UInt8.ofNat m] = num n) := by
        have := HP.out.1
        rw [num_low hm] at this
        exact this
      go_wp2_with (at_builtin; refine wpList_append_Y _ rfl _ _ rfl w.heap.size _ pre rfl hown m (UInt8.ofNat m) HY.out rfl ?c1 ?c2 ?_)
      case c1 => have := HS.out; omega
      case c2 => exact HS.out.2
      intro v' w2 r1 r2
      have hcv := owny_conv r1
      rw [HR.out] at hcv
      go_wp2
      go_ret
      exact ⟨rfl, hb.trans r2⟩
    · have hm' : ¬ (m : Int) < 128 := by omega
      have hm2 : (128 : Int) ≤ (m : Int) := by omega
      obtain ⟨c, hc⟩ : ∃ c, c = UInt8.ofNat (m % 128 + 128) := ⟨_, rfl⟩
      obtain ⟨y, hy⟩ : ∃ y, y = c.toNat := ⟨_, rfl⟩
      have ey : (m : Int) % 128 + 128 = (y : Int) := by rw [hy, hc, ofNat_toNat (by omega)]; omega
      have HY := hideC hy
      clear hy
      have HR : Hid ((pre ++ [c]) ++ num (m / 128) = num n ∧ m / 128 ≤ n) := by
        have := HP.out
        rw [num_high (by omega), ← hc] at this
        exact ⟨by rw [← this.1]; simp, by omega⟩
      clear hc
      have ew : IntKind.u64.wrap ((m : Int) / 128) = (m : Int) / 128 := by
        have := HP.out.2
        rw [IntKind.wrap_u64]; omega
      have HQ : Hid ((m : Int) / 128 = ((m / 128 : Nat) : Int) ∧ m / 128 < m) := ⟨by omega, by omega⟩
      go_wp2_with (at_builtin; refine wpList_append_Y _ rfl _ _ rfl w.heap.size _ pre rfl hown y c HY.out rfl ?c1 ?c2 ?_)
      case c1 => have := HS.out; omega
      case c2 => exact HS.out.2
      intro v' w2 r1 r2
      have hb2 := hb.trans r2
      clear r2 hb hown
      go_wp2
      go_roundg (m / 128)
      case rel =>
        go_light
        exact ⟨m / 128, _, rfl, by rw [← HQ.out.1], r1, HR.out, hb2⟩
      case measure => go_light; exact HQ.out.2
end Go.Proofs.YtipcenbndhnnhaaGreatDoor
