/-
  Kin turned: texts. Own work.
-/
import Derived.Test.YtdkcliblbaldhaaDoorJTurnB
namespace Go.Proofs.YtdkcliblbaldhaaDoor
open Go.RowKit
open Cv (RdC zl cU cov)
open Pl (pw)
attribute [local go_sem ↓] Go.wp_at_zero Go.wp_at_succ
/-- Two lists that grow side by side. -/
structure Pr (w4 wr : World) (v u : Value) (P Q : List ByteArray) : Prop where
  ov : OwnS wr w4.heap.size v P
  ou : OwnS wr w4.heap.size u Q
  ap : Apt v u
  be : Below w4.heap.size w4 wr
section
variable {w4 w w' : World} {v u v' : Value} {P Q P' : List ByteArray}
theorem Pr.next (h : Pr w4 w v u P Q) (hb : Below w.heap.size w w') : Pr w4 w' v u P Q := ⟨own_next h.ov hb (Nat.le_refl _), own_next h.ou hb (Nat.le_refl _), h.ap, bnext h.be hb⟩
theorem Pr.swap (h : Pr w4 w v u P Q) : Pr w4 w u v Q P := ⟨h.ou, h.ov, fun g h1 h2 => h.ap g h2 h1, h.be⟩
theorem Pr.app (h : Pr w4 w v u P Q) (o : OwnS w' w4.heap.size v' P') (g : w.grownBy w' v.ownBlock) (f : v'.ownBlock = v.ownBlock ∨ ∀ b, v'.ownBlock = some b → w.heap.size ≤ b) : Pr w4 w' v' u P' Q := by
  refine ⟨o, keep_row h.ou fun b hb _ => g.block b (World.ownsRow.lt h.ou b hb).2 fun e => h.ap b e.symm hb, fun b h1 h2 => ?_, h.be.trans ((Below.refl _ _).grown g h.be.size fun b hb => (World.ownsRow.lt h.ov b hb).1)⟩
  rcases f with f | f
  · exact h.ap b (f ▸ h1) h2
  · have := f b h1
    have := (World.ownsRow.lt h.ou b h2).2
    omega
end
theorem rds_keep {w W : World} {ao : Option Addr} {b n : Nat} {l : List ByteArray} (r : RdS w ao b 0 n l) (h : 0 < n → W.heap[b]? = w.heap[b]?) : RdS W ao b 0 n l := by
  refine ⟨r.hl, r.ptr, fun j v hj => ?_, r.sz⟩
  have hn : 0 < n := by
    have := r.hl
    have hj' := (List.getElem?_eq_some_iff.1 hj).1
    rw [List.length_map] at hj'
    omega
  have := r.rng j v hj
  rw [← this]
  exact World.cell?_of_block (a := ⟨b, 0 + j, none⟩) (h hn)
theorem dgT_at (F : Nat → Nat → ByteArray) (T : List (Nat × Nat)) {j : Nat} (hj : j < T.length) : dgF F (T.take (j + 1)) = dgF F (T.take j) ++ [F (T.getD j (0, 0)).1 (T.getD j (0, 0)).2] := by
  rw [take_succ_getD (0, 0) T j hj, dgF, List.map_append]; rfl
theorem mount_rd (W : World) (n : Nat) (hn : n ≤ 2 ^ 40) : Calls Tryd.prog 40 #[.int .u64 (n : Int)] W fun e w' => ∃ ao g cap, e = .returned (.tuple #[.slice ao (cov 0 n).length cap, .int .i64 0]) ∧ Cv.OwnB w' W.heap.size (.slice ao (cov 0 n).length cap) (zl (cov 0 n)) ∧ RdB w' ao g 0 (cov 0 n).length (zl (cov 0 n)) ∧ Below W.heap.size W w' := by
  have h := Cv.mountains_any n W
  rw [(range40 (Nat.zero_le _) hn).1, (range40 (Nat.zero_le _) hn).2] at h
  refine h.mono fun e w' ⟨v, e1, e2, e3⟩ => ?_
  obtain ⟨ao, g, n', cap, rfl, hr', _⟩ := own_rdB e2 (fun x hx => by
    obtain ⟨b0, hb0, rfl⟩ := List.mem_map.1 hx
    exact (fit40 ((row_from (Cv.cov_row 0 n (Nat.zero_le _) hn) b0 hb0).2) hn).1)
  have hl := hr'.len
  rw [Cv.zl_len] at hl
  subst hl
  exact ⟨ao, g, cap, e1, e2, hr', e3⟩
theorem txt_app (c : Nat) (L : List (Nat × Nat)) (n : Nat) (D : List ByteArray) (P : List ByteArray) (hP : dgF (dgK c L D) (cov 0 n) = P) : txt c L n D = ([rootT n (bagL c P)] ++ bgF c P) ++ flT c L D (cov 0 n) := by rw [txt, hP]; rfl
set_option maxRecDepth 100000 in
set_option maxHeartbeats 2000000 in
theorem texts_any (w : World) (hT : Tb w) (kd K : Int) (old size : Nat) (sa : Option Addr) (ns sc : Nat) (da : Option Addr) (db dO dc : Nat) (D : List ByteArray) (hR : RdS w da db dO D.length D) (hD : ∀ d ∈ D, d.size ≤ 32) (hlD : (kb old size).length = D.length) (hos : old ≤ size) (hs : size ≤ 1000) (X : List ByteArray) (hX : txt (clk K) (kb old size) size D = X) :
    Calls Tryd.prog 19 #[vP kd K old size (.slice sa ns sc) (.slice da D.length dc)] w fun e w' => ∃ v, e = .returned v ∧ OwnS w' w.heap.size v X ∧ Below w.heap.size w w' := by
  have hs40 : size ≤ 2 ^ 40 := by omega
  have hkl := kb_len hos hs40
  have h6 := six_new w (.int .i64 kd) (.int .i64 K) (.int .u64 (old : Int)) (.int .u64 (size : Int)) (.slice sa ns sc) (.slice da D.length dc)
  have hb := bal (Below.refl w.heap.size w) (.cells #[.int .i64 kd, .int .i64 K, .int .u64 (old : Int), .int .u64 (size : Int), .slice sa ns sc, .slice da D.length dc] 32)
  obtain ⟨W0, hW0⟩ : ∃ W0, w.alloc (.cells #[.int .i64 kd, .int .i64 K, .int .u64 (old : Int), .int .u64 (size : Int), .slice sa ns sc, .slice da D.length dc] 32) = W0 := ⟨_, rfl⟩
  rw [hW0] at h6 hb
  have H6 : Hid (∀ Z, Below W0.heap.size W0 Z → Six Z w.heap.size (.int .i64 kd) (.int .i64 K) (.int .u64 (old : Int)) (.int .u64 (size : Int)) (.slice sa ns sc) (.slice da D.length dc) ∧ Below w.heap.size w Z) := fun Z hZ => ⟨h6.next hZ, bnext hb hZ⟩
  obtain ⟨T, hTd⟩ : ∃ T, cov 0 size = T := ⟨_, rfl⟩
  have hTl : T.length ≤ 41 := by rw [← hTd]; exact Nat.le_trans (Cv.cov_forty size hs40) (by omega)
  have hTin : ∀ b ∈ T, b.1 ≤ 40 ∧ (b.2 + 1) * pw b.1 ≤ 2 ^ 41 := fun b hb => by
    rw [← hTd] at hb
    have := (row_from (Cv.cov_row 0 size (Nat.zero_le _) hs40) b hb).2
    exact ⟨h40_of (k := b.2 + 1) (by omega) (by omega), by omega⟩
  obtain ⟨F, hFd⟩ : ∃ F, dgK (clk K) (kb old size) D = F := ⟨_, rfl⟩
  have hFs : ∀ a b, (F a b).size ≤ 32 := by rw [← hFd]; exact fun a b => dgK_size (clk_le K) hD a b
  obtain ⟨A, hAd⟩ : ∃ A, abT (clk K) (kb old size) D = A := ⟨_, rfl⟩
  have hAs : ∀ a b, ∀ s ∈ A a b, s.size ≤ 1000 := by rw [← hAd]; exact fun a b => abT_size (clk_le K) hD a b
  have hAl : ∀ j, (flT (clk K) (kb old size) D (T.take j)).length ≤ 1000 := fun j => by
    have h1 := flT_takele (clk K) (kb old size) D T j
    have h2 := flT_le (clk K) (kb old size) D (Cv.cov_row 0 size (Nat.zero_le _) hs40)
    rw [hTd] at h2
    omega
  have hAone : ∀ b ∈ T, (A b.1 b.2).length ≤ 1000 := fun b hb => by
    have h1 := abT_le (clk K) (kb old size) D b.1 b.2
    rw [hAd] at h1
    have h2 := (row_from (Cv.cov_row 0 size (Nat.zero_le _) hs40) b (by rw [hTd]; exact hb)).2
    have h3 := blk_eq b.1 b.2
    omega
  have HM1 : Hid (∀ W, Calls Tryd.prog 40 #[.int .u64 (old : Int)] W fun e w' => ∃ ao n1 cap, e = .returned (.tuple #[.slice ao n1 cap, .int .i64 0]) ∧ Cv.OwnB w' W.heap.size (.slice ao n1 cap) (zl (cov 0 old)) ∧ Below W.heap.size W w') := fun W => (mount_rd W old (by omega)).mono fun e w' ⟨ao, g, cap, e1, e2, _, e3⟩ => ⟨ao, _, cap, e1, e2, e3⟩
  have HM2 : Hid (∀ W, Calls Tryd.prog 40 #[.int .u64 (size : Int)] W fun e w' => ∃ ao g cap, e = .returned (.tuple #[.slice ao T.length cap, .int .i64 0]) ∧ RdB w' ao g 0 T.length (zl T) ∧ Below W.heap.size W w') := fun W => (mount_rd W size (by omega)).mono fun e w' ⟨ao, g, cap, e1, _, e2, e3⟩ => by
    rw [hTd] at e1 e2
    exact ⟨ao, g, cap, e1, e2, e3⟩
  have HRg : Hid (∀ W, Calls Tryd.prog 15 #[.int .u64 (old : Int), .int .u64 (size : Int), .int .u64 (size : Int)] W fun e w' => ∃ ao n1 cap, e = .returned (.tuple #[.slice ao n1 cap, .int .i64 0]) ∧ Cv.OwnB w' W.heap.size (.slice ao n1 cap) (zl (cov old size)) ∧ Below W.heap.size W w') := fun W => by
    have h := Cv.range_any old size size W
    rw [(range40 hos hs40).1, (range40 hos hs40).2] at h
    refine h.mono fun e w' ⟨v, e1, e2, e3⟩ => ?_
    obtain ⟨ao, n1, cap, rfl⟩ := Cv.own_slice e2
    exact ⟨ao, n1, cap, e1, e2, e3⟩
  have HL : Hid ((zl (cov 0 old)).length + (zl (cov old size)).length ≤ 1048576 ∧ zl (cov 0 old) ++ zl (cov old size) = zl (kb old size) ∧ ([] : List (Int × Nat)).length + (zl (cov 0 old)).length ≤ 1048576) := by
    have hl := hkl
    rw [kb, List.length_append] at hl
    refine ⟨by rw [Cv.zl_len, Cv.zl_len]; omega, kb_zl old size, by rw [Cv.zl_len, List.length_nil]; omega⟩
  have HKB : Hid (∀ (W : World) (B : Nat) (v : Value), Cv.OwnB W B v (zl (kb old size)) → ∃ ao g cap, v = .slice ao (kb old size).length cap ∧ RdB W ao g 0 (kb old size).length (zl (kb old size))) := fun W B v e2 => by
    obtain ⟨ao, g, n', cap, rfl, hr', _⟩ := own_rdB e2 (fun x hx => by
      obtain ⟨b0, hb0, rfl⟩ := List.mem_map.1 hx
      exact (fit40 (kb_in hos hs40 b0 hb0) hs40).1)
    have hl := hr'.len
    rw [Cv.zl_len] at hl
    subst hl
    exact ⟨ao, g, cap, rfl, hr'⟩
  have HAb : Hid (∀ W ao g cap j, Below w.heap.size w W → RdB W ao g 0 (kb old size).length (zl (kb old size)) → j < T.length → Calls Tryd.prog 44 #[vP kd K old size (.slice sa ns sc) (.slice da D.length dc), .slice ao (kb old size).length cap, .agg #[.int .i64 ((T.getD j (0, 0)).1 : Int), .int .u64 ((T.getD j (0, 0)).2 : Int)]] W fun e w' => ∃ v, e = .returned (.tuple #[.string (F (T.getD j (0, 0)).1 (T.getD j (0, 0)).2), v]) ∧ OwnS w' W.heap.size v (A (T.getD j (0, 0)).1 (T.getD j (0, 0)).2) ∧ Below W.heap.size W w') := fun W ao g cap j hb hB hj => by
    obtain ⟨t1, t2⟩ := hTin _ (mem_getD hj)
    exact above_any kd K old size sa ns sc da db dO dc D hD ao g cap (kb old size) (by omega) (by omega) _ _ t1 t2 W (hT.next hb) (hR.next hb (Nat.le_refl _)) hB _ (by rw [hFd]) _ (by rw [hAd])
  have hsz : (size : Int) ≤ 1000 := by omega
  obtain ⟨P, hPd⟩ : ∃ P, dgF F T = P := ⟨_, rfl⟩
  have hPl : P.length = T.length := by rw [← hPd, List.length_map]
  have hPs : ∀ s ∈ P, s.size ≤ 32 := fun s hs => by
    rw [← hPd] at hs
    obtain ⟨b, _, rfl⟩ := List.mem_map.1 hs
    exact hFs b.1 b.2
  obtain ⟨bg, hbg⟩ : ∃ bg, bagL (clk K) P = bg := ⟨_, rfl⟩
  have hbgs : bg.size ≤ 32 := by rw [← hbg]; exact bagL_size (clk_le K) (Nat.le_refl _) P hPs
  obtain ⟨rt, hrt⟩ : ∃ rt, rootT size bg = rt := ⟨_, rfl⟩
  obtain ⟨G, hG⟩ : ∃ G, bgF (clk K) P = G := ⟨_, rfl⟩
  obtain ⟨Y, hY⟩ : ∃ Y, flT (clk K) (kb old size) D T = Y := ⟨_, rfl⟩
  have hXX : ([rt] ++ G) ++ Y = X := by
    rw [← hX, txt_app _ _ _ _ P (by rw [hFd, hTd]; exact hPd), hbg, hrt, hG, hTd, hY]
  have hGl : G.length = P.length - 1 := by rw [← hG, bgF_len]
  have HBg : Hid (∀ W ap bp cp, Below w.heap.size w W → RdS W ap bp 0 P.length P → Calls Tryd.prog 46 #[.int .i64 K, .slice ap P.length cp] W fun e w' => e = .returned (.string bg) ∧ Below W.heap.size W w') := fun W ap bp cp hb hR => bagged_any W (hT.next hb) K ap bp 0 P.length cp P hR (fun s h => by have := hPs s h; omega) (by omega) bg hbg
  have HRt : Hid (∀ W, Calls Tryd.prog 45 #[.int .u64 (size : Int), .string bg] W fun e w' => e = .returned (.string rt) ∧ Below W.heap.size W w') := fun W => roott_any W size bg (by omega) rt hrt
  have HG : Hid (∀ j, j + 1 < P.length → ∃ bj tj, bagL (clk K) (P.drop (j + 1)) = bj ∧ bagT (P.getD j ByteArray.empty) bj = tj ∧ G.take (j + 1) = G.take j ++ [tj] ∧ bj.size ≤ 32 ∧ tj.size ≤ 1000 ∧ (P.getD j ByteArray.empty).size ≤ 32) := fun j hj => by
    refine ⟨_, _, rfl, rfl, by rw [← hG]; exact bgF_take _ P j hj, bagL_size (clk_le K) (Nat.le_refl _) _ (fun s h => hPs s (List.mem_of_mem_drop h)), ?_, hPs _ (getD_mem (by omega))⟩
    have h1 := hPs _ (getD_mem (show j < P.length by omega))
    have h2 := bagL_size (clk_le K) (Nat.le_refl 32) (P.drop (j + 1)) (fun s h => hPs s (List.mem_of_mem_drop h))
    rw [bagT, ByteArray.size_append, ByteArray.size_append, show (strB [2]).size = 1 by decide]
    omega
  have HT : Hid (∀ W, Below w.heap.size w W → Tb W) := fun W hb => hT.next hb
  have hTz : (T.length : Int) ≤ 41 := by omega
  have hrts : rt.size ≤ 1000 := by rw [← hrt, rootT_size]; omega
  have HTk : Hid (∀ j, j < T.length → flT (clk K) (kb old size) D (T.take (j + 1)) = flT (clk K) (kb old size) D (T.take j) ++ A (T.getD j (0, 0)).1 (T.getD j (0, 0)).2) := fun j hj => by rw [flT_take _ _ _ _ hj, hAd]
  obtain ⟨lb, hlb⟩ : ∃ lb, (kb old size).length = lb := ⟨_, rfl⟩
  obtain ⟨zb, hzb⟩ : ∃ zb, zl (kb old size) = zb := ⟨_, rfl⟩
  obtain ⟨fl, hfl⟩ : ∃ fl : Nat → List ByteArray, (fun j => flT (clk K) (kb old size) D (T.take j)) = fl := ⟨_, rfl⟩
  have hfj : ∀ j, flT (clk K) (kb old size) D (T.take j) = fl j := fun j => by rw [← hfl]
  simp only [hfj] at HTk hAl
  have hfl0 : fl 0 = [] := by rw [← hfl]; rfl
  have hflT : fl T.length = Y := by rw [← hfl, ← hY]; show flT _ _ _ (T.take T.length) = _; rw [List.take_length]
  rw [hlb, hzb] at HKB HAb
  rw [hzb] at HL
  have HFx : Hid ((∀ a b, (F a b).size ≤ 32) ∧ (∀ a b, ∀ s ∈ A a b, s.size ≤ 1000) ∧ (∀ j, (fl j).length ≤ 1000) ∧ T.length ≤ 41 ∧ fl 0 = [] ∧ fl T.length = Y ∧ dgF F T = P ∧ P.length = T.length ∧ (∀ s ∈ P, s.size ≤ 32) ∧ G.length = P.length - 1 ∧ ([rt] ++ G) ++ Y = X ∧ rt.size ≤ 1000 ∧ (∀ s ∈ Y, s.size ≤ 1000) ∧ (∀ b ∈ T, (A b.1 b.2).length ≤ 1000)) := ⟨hFs, hAs, hAl, hTl, hfl0, hflT, hPd, hPl, hPs, hGl, hXX, hrts, by rw [← hY]; exact flT_size (clk_le K) hD T, hAone⟩
  obtain ⟨c0, c1, c2, c3, c4, c5⟩ := h6.cells
  clear hT hR hD hlD hos hs hs40 hkl h6 hb hTd hTl hTin hFd hFs hAd hAs hAl hPd hPl hPs hbg hbgs hrt hG hY hXX hGl hrts hlb hzb hfl hfj hfl0 hflT hX hAone
  unfold vP at HAb
  unfold vP
  go_enter Tryd.func19, Tryd.ntmps19
  go_upto_region 3 with (first
    | (go_at_call 40; with_reducible refine (HM1.out _).mono ?_; rintro e w1 ⟨a1, n1, q1, rfl, h1, hb1⟩; obtain ⟨d0, d1, d2, d3, d4, d5⟩ := (H6.out w1 hb1).1.cells)
    | (go_at_call 15; with_reducible refine (HRg.out _).mono ?_; rintro e w2 ⟨a2, n2, q2, rfl, h2, hb2⟩))
  go_upto_region 4 with (first
    | (at_builtin; refine Cv.wpList_append_B _ rfl _ _ rfl w2.heap.size _ [] rfl ⟨rfl, .inl ⟨rfl, rfl⟩⟩ _ (zl (cov 0 old)) rfl (Cv.rdc_keep (Cv.rdc_own h1) hb2) HL.out.2.2 (Nat.le_refl _) ?_; intro v3 w3 o3 g3 f3; have hb3 : Below w2.heap.size w2 w3 := (Below.refl _ _).grown g3 (Nat.le_refl _) (fun g hg => by cases hg))
    | (at_builtin; refine Cv.wpList_append_B _ rfl _ _ rfl w2.heap.size _ (zl (cov 0 old)) rfl o3 _ (zl (cov old size)) rfl (Cv.rdc_keep (Cv.rdc_own h2) hb3) HL.out.1 hb3.size ?_; intro v4 w4 o4 g4 f4))
  have hb4 : Below w2.heap.size w2 w4 := hb3.trans ((Below.refl _ _).grown g4 hb3.size (fun g hg => (World.ownsRow.lt o3 g hg).1))
  rw [HL.out.2.1] at o4
  obtain ⟨ao, gb, cap, rfl, rB⟩ := HKB.out _ _ _ o4
  have hbW4 := bnext (bnext hb1 hb2) hb4
  obtain ⟨x0, x1, x2, x3, x4, x5⟩ := (H6.out w4 hbW4).1.cells
  clear h1 h2 o3 o4 g3 g4 f3 f4 hb1 hb2 hb3 hb4 HL HKB HM1 HRg d0 d1 d2 d3 d4 d5 c0 c1 c2 c3 c4 c5 hW0
  go_upto_region 5 with (go_at_call 40; with_reducible refine (HM2.out _).mono ?_; rintro e w5 ⟨at5, gt, cap5, rfl, hB5, hb5⟩)
  have HX : Hid (∀ Z, Below w5.heap.size w5 Z → Below w.heap.size w Z ∧ Six Z w.heap.size (.int .i64 kd) (.int .i64 K) (.int .u64 (old : Int)) (.int .u64 (size : Int)) (.slice sa ns sc) (.slice da D.length dc) ∧ RdB Z ao gb 0 lb zb ∧ RdB Z at5 gt 0 T.length (zl T)) := fun Z hZ => by
    obtain ⟨z1, z2⟩ := H6.out Z (bnext hbW4 (bnext hb5 hZ))
    exact ⟨z2, z1, rB.below (bnext hb5 hZ), hB5.below hZ⟩
  clear H6 HM2 hbW4 rB hB5 hb5 x0 x1 x2 x3 x4 x5
  go_wp2
  go_loopg [9, 10, 11] T.length (fun gg v u i wr => ∃ j : Nat, j ≤ T.length ∧ gg = T.length - j ∧ i = .int .i64 (j : Int) ∧ Hid (Pr w5 wr v u (dgF F (T.take j)) (fl j)))
  case atStart =>
    go_light
    exact ⟨0, Nat.zero_le _, rfl, rfl, owns_nil _ _, by rw [HFx.out.2.2.2.2.1]; exact owns_nil _ _, (fun g hg => by cases hg), Below.refl _ _⟩
  case round =>
    obtain ⟨j, hj, rfl, rfl, HI⟩ := hrel
    by_cases hlt : j < T.length
    · have hz : (j : Int) < (T.length : Int) := by omega
      have hz0 : (0 : Int) ≤ (j : Int) := Int.natCast_nonneg _
      obtain rfl := (HX.out wr HI.out.be).2.2.2.addr (by omega)
      obtain ⟨⟨x, y⟩, hxy⟩ : ∃ b, T.getD j (0, 0) = b := ⟨_, rfl⟩
      obtain ⟨d, hd⟩ : ∃ d, F x y = d := ⟨_, rfl⟩
      obtain ⟨A1, hA1⟩ : ∃ A1, A x y = A1 := ⟨_, rfl⟩
      have hnx := dgT_at F T hlt
      have hny := HTk.out j hlt
      rw [hxy] at hnx hny
      dsimp only at hnx hny
      rw [hd] at hnx
      rw [hA1] at hny
      have hA1s : ∀ s ∈ A1, s.size ≤ 9223372036854775807 := fun s hs => by rw [← hA1] at hs; have := HFx.out.2.1 x y s hs; omega
      have hA1l : A1.length ≤ 1000 := by
        have := HFx.out.2.2.2.2.2.2.2.2.2.2.2.2.2 _ (mem_getD hlt)
        rw [hxy] at this
        dsimp only at this
        rw [hA1] at this
        exact this
      have HDj : Hid (∀ W, Below w5.heap.size w5 W → Calls Tryd.prog 44 #[.agg #[.int .i64 kd, .int .i64 K, .int .u64 (old : Int), .int .u64 (size : Int), .slice sa ns sc, .slice da D.length dc], .slice ao lb cap, .agg #[.int .i64 (x : Int), .int .u64 (y : Int)]] W fun e w' => ∃ v, e = .returned (.tuple #[.string d, v]) ∧ OwnS w' W.heap.size v A1 ∧ Below W.heap.size W w') := fun W hb => by
        have h := HAb.out W ao gb cap j (HX.out W hb).1 (HX.out W hb).2.2.1 hlt
        rw [hxy] at h
        dsimp only at h
        rw [hd, hA1] at h
        exact h
      have HC : Hid (∀ Z, Below wr.heap.size wr Z → Z.cell? ⟨w.heap.size, 0, none⟩ = some (.int .i64 kd) ∧ Z.cell? ⟨w.heap.size, 1, none⟩ = some (.int .i64 K) ∧ Z.cell? ⟨w.heap.size, 2, none⟩ = some (.int .u64 (old : Int)) ∧ Z.cell? ⟨w.heap.size, 3, none⟩ = some (.int .u64 (size : Int)) ∧ Z.cell? ⟨w.heap.size, 4, none⟩ = some (.slice sa ns sc) ∧ Z.cell? ⟨w.heap.size, 5, none⟩ = some (.slice da D.length dc) ∧ Z.cell? ⟨gt, j * 2, none⟩ = some (.int .i64 (x : Int)) ∧ Z.cell? ⟨gt, j * 2 + 1, none⟩ = some (.int .u64 (y : Int))) := fun Z hZ => by
        have hx := HX.out Z (bnext HI.out.be hZ)
        obtain ⟨a0, a1, a2, a3, a4, a5⟩ := hx.2.1.cells
        obtain ⟨b0, b1⟩ := hx.2.2.2.cell j hlt
        rw [zl_getD, hxy] at b0 b1
        dsimp only at b0 b1
        rw [Nat.zero_add] at b0 b1
        exact ⟨a0, a1, a2, a3, a4, a5, b0, b1⟩
      have hds : d.size ≤ 32 := by rw [← hd]; exact HFx.out.1 x y
      obtain ⟨P1, hP1⟩ : ∃ P1, dgF F (T.take j) = P1 := ⟨_, rfl⟩
      obtain ⟨Q1, hQ1⟩ : ∃ Q1, fl j = Q1 := ⟨_, rfl⟩
      have hPl : P1.length ≤ 41 := by rw [← hP1, List.length_map, List.length_take]; have := HFx.out.2.2.2.1; omega
      have hQl : Q1.length ≤ 1000 := by rw [← hQ1]; exact HFx.out.2.2.1 j
      rw [hP1, hQ1] at HI
      rw [hP1] at hnx
      rw [hQ1] at hny
      have HN : Hid (dgF F (T.take (j + 1)) = P1 ++ [d] ∧ fl (j + 1) = Q1 ++ A1 ∧ d.size ≤ 32 ∧ P1.length ≤ 41 ∧ Q1.length ≤ 1000 ∧ A1.length ≤ 1000 ∧ (∀ s ∈ A1, s.size ≤ 9223372036854775807)) := ⟨hnx, hny, hds, hPl, hQl, hA1l, hA1s⟩
      have hb0 := Below.refl wr.heap.size wr
      clear hxy hd hnx hny hds hP1 hQ1 hPl hQl hA1 hA1l hA1s
      go_upto_region 9 with (fail)
      go_region_held3 (fun Z => Z.cell? ⟨w.heap.size, 0, none⟩ = some (.int .i64 kd) ∧ Z.cell? ⟨w.heap.size, 1, none⟩ = some (.int .i64 K) ∧ Z.cell? ⟨w.heap.size, 2, none⟩ = some (.int .u64 (old : Int)) ∧ Z.cell? ⟨w.heap.size, 3, none⟩ = some (.int .u64 (size : Int)) ∧ Z.cell? ⟨w.heap.size, 4, none⟩ = some (.slice sa ns sc) ∧ Z.cell? ⟨w.heap.size, 5, none⟩ = some (.slice da D.length dc) ∧ Z.cell? ⟨gt, j * 2, none⟩ = some (.int .i64 (x : Int)) ∧ Z.cell? ⟨gt, j * 2 + 1, none⟩ = some (.int .u64 (y : Int)))
        (exact HC.out _ (by first | exact hb0 | exact hb0.drew | exact hb6)) (first
        | (go_at_call 44; with_reducible refine (HDj.out _ (by first | exact HI.out.be.drew | exact HI.out.be)).mono ?_; rintro e w6 ⟨v6, rfl, o6, hb6'⟩; have hb6 : Below wr.heap.size wr w6 := (by first | exact bnext hb0.drew hb6' | exact bnext hb0 hb6'); obtain ⟨ax, bx, cx, rfl, rx, _, nx⟩ := owns_rds o6 HN.out.2.2.2.2.2.2))
      all_goals
        have h6 := HI.out.next hb6
        have h6a := h6.next (bal (Below.refl _ _) (.cells #[.string d] 9))
        have rxa := rx.next (bal (Below.refl _ _) (.cells #[.string d] 9)) (Nat.le_refl _)
        have hbx : 0 < A1.length → wr.heap.size ≤ bx := fun h0 => by
          obtain rfl := rx.ptr h0
          exact Nat.le_trans (by first | exact Nat.le_refl _ | exact hb0.drew.size) (World.ownsRow.lt o6 bx rfl).1
        have HG6 := hide (And.intro h6a (And.intro rxa (And.intro hbx (And.intro HI.out.ov h6.be.size))))
        clear h6 h6a rxa hbx hb0 HC HDj HI hb6' o6 rx
        go_upto_region 11 with (at_builtin; refine wpList_append_SA _ rfl _ _ rfl w5.heap.size _ P1 rfl HG6.out.1.ov (some ⟨w6.heap.size, 0, none⟩) w6.heap.size 0 1 1 [d] rfl (rds_one w6 d (by have := HN.out.2.2.1; omega)) (fun h => by cases h) (by have := HN.out.2.2.2.1; simp; omega) HG6.out.1.be.size ?_; intro v7 w7 o7 g7 f7)
        have h7 := HG6.out.1.app o7 g7 f7
        have r7 := rds_keep (W := w7) HG6.out.2.1 (fun h0 => by
          have a1 := HG6.out.2.2.1 h0
          refine g7.block bx (HG6.out.2.1.lt h0) fun e => ?_
          have := (World.ownsRow.lt HG6.out.2.2.2.1 bx e.symm).2
          omega)
        have HG7 := hide (And.intro h7 r7)
        clear h7 r7 o7 g7 f7 HG6 hb6
        go_upto_region 8 with (at_builtin; refine wpList_append_SA _ rfl _ _ rfl w5.heap.size _ Q1 rfl HG7.out.1.ou ax bx 0 A1.length cx A1 rfl HG7.out.2 nx (by have := HN.out.2.2.2.2; simp; omega) HG7.out.1.be.size ?_; intro v8 w8 o8 g8 f8)
        have h8 := (HG7.out.1.swap.app o8 g8 f8).swap
        rw [← HN.out.1, ← HN.out.2.1] at h8
        have HY := hide h8
        clear h8 o8 g8 f8 HG7 HN
        go_wp2
        go_roundg (T.length - (j + 1))
        case rel =>
          go_light
          exact ⟨j + 1, by omega, rfl, by go_num, HY⟩
        case measure => go_light; omega
    · obtain rfl : j = T.length := by omega
      have hz : ¬ ((T.length : Int) < (T.length : Int)) := by omega
      have hO := HI.out
      rw [List.take_length, HFx.out.2.2.2.2.2.1, HFx.out.2.2.2.2.2.2.1] at hO
      obtain ⟨aP, bP, cP, rfl, rP, lP, nP⟩ := owns_rds hO.ov (fun s hs => by have := HFx.out.2.2.2.2.2.2.2.2.1 s hs; omega)
      obtain ⟨aY, bY, cY, rfl, rY, lY, nY⟩ := owns_rds hO.ou (fun s hs => by have := HFx.out.2.2.2.2.2.2.2.2.2.2.2.2.1 s hs; omega)
      have HXr : Hid (∀ Z, Below wr.heap.size wr Z → Below w.heap.size w Z ∧ Six Z w.heap.size (.int .i64 kd) (.int .i64 K) (.int .u64 (old : Int)) (.int .u64 (size : Int)) (.slice sa ns sc) (.slice da D.length dc) ∧ RdS Z aP bP 0 P.length P ∧ RdS Z aY bY 0 Y.length Y) := fun Z hZ => by
        obtain ⟨a1, a2, _⟩ := HX.out Z (bnext hO.be hZ)
        exact ⟨a1, a2, rP.next hZ (Nat.le_refl _), rY.next hZ (Nat.le_refl _)⟩
      have hb0 := Below.refl wr.heap.size wr
      have HC : Hid (∀ Z, Below wr.heap.size wr Z → Z.cell? ⟨w.heap.size, 1, none⟩ = some (.int .i64 K) ∧ Z.cell? ⟨w.heap.size, 3, none⟩ = some (.int .u64 (size : Int))) := fun Z hZ => by
        obtain ⟨_, a1, _, a3, _, _⟩ := (HXr.out Z hZ).2.1.cells
        exact ⟨a1, a3⟩
      have HlP : Hid (P.length ≤ cP ∧ (aP = none → cP = 0) ∧ (aY = none → cY = 0) ∧ Y.length ≤ 1000) := ⟨lP, nP, nY, by rw [← HFx.out.2.2.2.2.2.1]; exact HFx.out.2.2.1 _⟩
      have hPz : (P.length : Int) ≤ 41 := by have := HFx.out.2.2.2.2.2.2.2.1; omega
      clear hO rP rY HI HX hlt HAb HTk hj nP nY lY
      go_upto_region 12 with (fail)
      go_cut [14] from 65 to 72 (fun x wx => OwnS wx wr.heap.size x [rt] ∧ Below wr.heap.size wr wx)
      case first =>
        go_region_held3 (fun Z => Z.cell? ⟨w.heap.size, 1, none⟩ = some (.int .i64 K) ∧ Z.cell? ⟨w.heap.size, 3, none⟩ = some (.int .u64 (size : Int)))
          (exact HC.out _ (by first | exact hb0 | exact hb0.drew | exact hb7 | exact hb8 | exact bal hb8 _)) (first
          | (go_at_call 46; with_reducible refine (HBg.out _ _ _ _ (HXr.out _ (by first | exact hb0.drew | exact hb0)).1 (HXr.out _ (by first | exact hb0.drew | exact hb0)).2.2.1).mono ?_; rintro e w7 ⟨rfl, hb7'⟩; have hb7 : Below wr.heap.size wr w7 := (by first | exact bnext hb0.drew hb7' | exact bnext hb0 hb7'))
          | (go_at_call 45; with_reducible refine (HRt.out _).mono ?_; rintro e w8 ⟨rfl, hb8'⟩; have hb8 : Below wr.heap.size wr w8 := bnext hb7 hb8'))
        all_goals
          have HF : Hid (Below wr.heap.size wr w8) := hb8
          clear hb7 hb7' hb8 hb8' HC
          go_wp2
          go_meet
          case rel =>
            go_light
            exact ⟨own_low (own_one w8 rt) HF.out.size, bal HF.out _⟩
      case rest =>
        obtain ⟨hO, hbc⟩ := hcut
        obtain ⟨wo, hwo⟩ : ∃ wo, wo = wr := ⟨_, rfl⟩
        subst hwo
        have HO := hide (And.intro hO hbc)
        clear hO hbc HC HBg HRt hb0
        go_wp2
        go_loopg [14, 15] P.length (fun gg v i wx => ∃ j : Nat, j ≤ P.length ∧ gg = P.length - j ∧ i = .int .i64 (j : Int) ∧ Hid (OwnS wx wo.heap.size v ([rt] ++ G.take j) ∧ Below wo.heap.size wo wx))
        case atStart =>
          go_light
          exact ⟨0, Nat.zero_le _, rfl, rfl, HO.out.1, HO.out.2⟩
        case round =>
          clear HO
          obtain ⟨j, hj, rfl, rfl, HI⟩ := hrel
          obtain ⟨j1, hj1⟩ : ∃ j1, j + 1 = j1 := ⟨_, rfl⟩
          have ej : IntKind.i64.wrap ((j : Int) + 1) = (j1 : Int) := by rw [IntKind.wrap_i64]; omega
          by_cases hlt : j1 < P.length
          · have hz1 : (j1 : Int) < (P.length : Int) := by omega
            have hz3 : (j1 : Int) ≤ (P.length : Int) := by omega
            have hz4 : (0 : Int) ≤ (j1 : Int) := Int.natCast_nonneg _
            have hz5 : ¬ cP = j1 := by have := HlP.out.1; omega
            have hz6 : (j1 : Int) ≤ (cP : Int) := by have := HlP.out.1; omega
            have hz2 : (j : Int) < (P.length : Int) := by omega
            have hz0 : (0 : Int) ≤ (j : Int) := Int.natCast_nonneg _
            obtain ⟨bj, tj, hbj, htj, hnx, hbs, hts, hps⟩ := HG.out j (by omega)
            rw [hj1] at hbj hnx
            obtain ⟨pj, hpj⟩ : ∃ pj, P.getD j ByteArray.empty = pj := ⟨_, rfl⟩
            rw [hpj] at htj hps
            obtain rfl := (HXr.out wo (Below.refl _ _)).2.2.1.ptr (by omega)
            have HBj : Hid (∀ W c, Below w.heap.size w W → RdS W (some ⟨bP, 0, none⟩) bP 0 P.length P → Calls Tryd.prog 46 #[.int .i64 K, .slice (some ⟨bP, j1, none⟩) (P.length - j1) c] W fun e w' => e = .returned (.string bj) ∧ Below W.heap.size W w') := fun W c hb hR => by
              obtain ⟨r1, _⟩ := rds_drop hR (dc := cP) HlP.out.1 (H := j1) (by omega) HlP.out.2.1 (ax := some ⟨bP, j1, none⟩) (by rw [if_neg hz5]; simp [Addr.add]; omega)
              have hl : (P.drop j1).length = P.length - j1 := List.length_drop
              rw [hl] at r1
              exact bagged_any W (HT.out W hb) K _ bP (0 + j1) _ c (P.drop j1) r1 (fun s h => by have := HFx.out.2.2.2.2.2.2.2.2.1 s (List.mem_of_mem_drop h); omega) (by omega) bj hbj
            have HTj : Hid (∀ W, Calls Tryd.prog 47 #[.string pj, .string bj] W fun e w' => e = .returned (.string tj) ∧ Below W.heap.size W w') := fun W => bagt_any W pj bj (by omega) (by omega) tj htj
            have HC : Hid (∀ Z, Below wo.heap.size wo Z → Z.cell? ⟨w.heap.size, 1, none⟩ = some (.int .i64 K) ∧ Z.cell? ⟨bP, j, none⟩ = some (.string pj)) := fun Z hZ => by
              have hx := HXr.out Z hZ
              have := hx.2.2.1.at (show j < P.length by omega)
              rw [hpj, Nat.zero_add] at this
              exact ⟨hx.2.1.cells.2.1, this⟩
            have HN : Hid ([rt] ++ G.take j1 = ([rt] ++ G.take j) ++ [tj] ∧ tj.size ≤ 1000 ∧ ([rt] ++ G.take j).length ≤ 1000) := ⟨by rw [hnx, List.append_assoc], hts, by
              rw [List.length_append, List.length_take, List.length_singleton]; omega⟩
            have hb0 := HI.out.2
            have hcp : (P.length : Int) ≤ (cP : Int) := by have := HlP.out.1; omega
            clear hbj htj hnx hbs hts hps hpj HT HG
            go_upto_region 16 with (fail)
            go_region_held3 (fun Z => Z.cell? ⟨w.heap.size, 1, none⟩ = some (.int .i64 K) ∧ Z.cell? ⟨bP, j, none⟩ = some (.string pj))
              (exact HC.out _ (by first | exact hb0 | exact hb0.drew | exact hb7 | exact hb8 | exact bal hb8 _ | exact hb9)) (first
              | (go_at_call 46; with_reducible refine (HBj.out _ _ (HXr.out _ (by first | exact hb0.drew | exact hb0)).1 (HXr.out _ (by first | exact hb0.drew | exact hb0)).2.2.1).mono ?_; rintro e w7 ⟨rfl, hb7'⟩; have hb7 : Below wo.heap.size wo w7 := (by first | exact bnext hb0.drew hb7' | exact bnext hb0 hb7'); have o7 := (by first | exact own_next HI.out.1 (bnext (Below.refl _ _).drew hb7') (Nat.le_refl _) | exact own_next HI.out.1 hb7' (Nat.le_refl _)))
              | (go_at_call 47; with_reducible refine (HTj.out _).mono ?_; rintro e w8 ⟨rfl, hb8'⟩; have hb8 : Below wo.heap.size wo w8 := bnext hb7 hb8'; have o8 := own_al (own_next o7 hb8' (Nat.le_refl _)) (.cells #[.string tj] 9))
              | (refine step_apS _ (by rfl) _ _ (by rfl) wo.heap.size _ ([rt] ++ G.take j) (by rfl) o8 w8.heap.size tj (by rfl) (by rw [cell_of_row _ _ 0 _ _ (0, 0) (heap_alloc_new w8 _)]; rfl) HN.out.2.2 (by have := hb8.size; rw [World.size_alloc]; omega) ?_; intro v9 w9 o9 g9; have hb9 : Below wo.heap.size wo w9 := (bal hb8 (.cells #[.string tj] 9)).trans ((Below.refl _ _).grown g9 (by have := hb8.size; rw [World.size_alloc]; omega) (fun g hg => (World.ownsRow.lt o8 g hg).1))))
            all_goals
              rw [← HN.out.1] at o9
              have HY := hide (And.intro o9 hb9)
              clear hb7 hb7' hb8 hb8' o7 o8 o9 g9 hb9 HN HC HI HBj HTj hb0
              go_wp2
              go_roundg (P.length - j1)
              case rel =>
                go_light
                exact ⟨j1, by omega, rfl, by first | rfl | go_num, HY.out.1, HY.out.2⟩
              case measure => go_light; omega
          · have hz1 : ¬ ((j1 : Int) < (P.length : Int)) := by omega
            have hO := HI.out.1
            rw [List.take_of_length_le (by have := HFx.out.2.2.2.2.2.2.2.2.2.1; omega)] at hO
            have HR : Hid (RdS wr aY bY 0 Y.length Y ∧ Below w.heap.size w wr ∧ ([rt] ++ G).length + Y.length ≤ 8796093022208 ∧ w.heap.size ≤ wo.heap.size ∧ OwnS wr wo.heap.size _ ([rt] ++ G)) := ⟨(HXr.out wr HI.out.2).2.2.2, (HXr.out wr HI.out.2).1, by
              have h1 := HFx.out.2.2.2.2.2.2.2.2.2.1
              have h2 := HlP.out.2.2.2
              rw [List.length_append, List.length_singleton, h1]
              omega, (HXr.out wo (Below.refl _ _)).1.size, hO⟩
            have HE := hide HI.out.2.size
            clear HI hO
            go_wp2_with (at_builtin; refine wpList_append_S _ rfl _ _ rfl wo.heap.size _ ([rt] ++ G) rfl HR.out.2.2.2.2 aY bY 0 cY Y rfl HR.out.1 HlP.out.2.2.1 HR.out.2.2.1 HE.out ?_)
            intro v9 w9 o9 hb9
            have HF : Hid (OwnS w9 w.heap.size v9 X ∧ Below w.heap.size w w9) := ⟨by rw [← HFx.out.2.2.2.2.2.2.2.2.2.2.1]; exact own_low o9 HR.out.2.2.2.1, below_mid HR.out.2.1 hb9 HR.out.2.2.2.1⟩
            obtain ⟨a9, n9, c9, rfl⟩ := Cv.own_slice o9
            clear o9 hb9 HR
            go_wp2
            go_ret
            exact ⟨_, rfl, HF.out.1, HF.out.2⟩
end Go.Proofs.YtdkcliblbaldhaaDoor
