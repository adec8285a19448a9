/-
  The reference's walks: tree, Tree. Own work.
-/
import Derived.Test.YtihcdmnodpknlaaDoorPWalkB
import Derived.Test.YtihcdmnodpknlaaDoorHRefB
import Derived.Deep.AppendLies
namespace Go.Proofs.YtihcdmnodpknlaaDoor
open Go.RowKit
attribute [local go_sem ↓] Go.wp_at_zero Go.wp_at_succ
set_option maxRecDepth 100000 in
set_option maxHeartbeats 2000000 in
theorem rtree_any (w : World) (ht : Tr w) (k : Int) (ao : Option Addr) (b off cap H n : Nat) (hH : H ≤ 40) (hn : 2 ^ H = n) (L : List ByteArray) (hr : RdS w ao b off n L) (hsz : ∀ s ∈ L, s.size ≤ 140737488351232) (r : ByteArray) (hq : Hid (nd (clk k) L H 0 = r)) :
    Calls Tryd.prog 30 #[.int .i64 k, .slice ao n cap] w fun e w' => e = .returned (.string r) ∧ Below w.heap.size w w' := by
  have hn0 : 0 < n := by rw [← hn]; exact Nat.two_pow_pos H
  have hmx : n ≤ 1099511627776 := by rw [← hn]; exact Nat.pow_le_pow_right (n := 2) (by decide) hH
  obtain rfl := hr.ptr hn0
  have HT : Hid (Tr w ∧ RdS w (some ⟨b, off, none⟩) b off n L ∧ (∀ s ∈ L, s.size ≤ 140737488351232)) := ⟨ht, hr, hsz⟩
  have hmx' : (n : Int) ≤ 1099511627776 := by omega
  have hb := Below.refl w.heap.size w
  have HN : Hid (2 ^ H = n ∧ n ≤ 1099511627776) := ⟨hn, hmx⟩
  have hc := clk_le k
  have HC : Hid (clk k ≤ 32) := hc
  clear ht hr hsz hn hH hmx hc
  go_enter Tryd.func30, Tryd.ntmps30
  go_wp2
  go_loopg [5, 6] n (fun gg v i0 wr => ∃ i : Nat, i ≤ n ∧ gg = n - i ∧ i0 = .int .i64 (i : Int) ∧ OwnS wr w.heap.size v (rowN (clk k) L 0 i) ∧ Below w.heap.size w wr)
  case atStart =>
    go_light
    exact ⟨0, Nat.zero_le _, rfl, rfl, owns_nil _ _, hb⟩
  case round =>
    clear hb
    obtain ⟨i, hi, rfl, rfl, ho, hb⟩ := hrel
    have hi0 : (0 : Int) ≤ (i : Int) := Int.natCast_nonneg _
    by_cases hlt : i < n
    · have hlt' : (i : Int) < (n : Int) := by omega
      obtain ⟨t1, t2, t3⟩ := HT.out
      obtain ⟨s, hs⟩ : ∃ s, L.getD i ByteArray.empty = s := ⟨_, rfl⟩
      have ci := (t2.next hb (Nat.le_refl _)).at hlt
      rw [hs] at ci
      obtain ⟨x, hx⟩ : ∃ x, nd (clk k) L 0 i = x := ⟨_, rfl⟩
      have HLf := refleaf_any wr (t1.next hb) k s (by rw [← hs]; have := t3 _ (getD_mem (ss := L) (k := i) (by rw [t2.hl]; exact hlt)); omega) x (by rw [← hx, nd, hs])
      have HX : Hid (OwnS wr w.heap.size u5 (rowN (clk k) L 0 i) ∧ Below w.heap.size w wr ∧ i + 1 ≤ n ∧ x.size ≤ 9223372036854775807 ∧ rowN (clk k) L 0 i ++ [x] = rowN (clk k) L 0 (i + 1)) := ⟨ho, hb, hlt, by rw [← hx, nd_size HC.out]; have := HC.out; omega, by rw [← hx]; exact rowN_more _ _ _ _⟩
      clear ho hb hi hlt hs hx t1 t2 t3
      go_wp2_with (first
        | (go_at_call 36; with_reducible refine HLf.mono ?_; rintro e w2 ⟨rfl, hb2⟩)
        | (at_builtin; refine wpList_append_S _ rfl _ _ rfl w.heap.size _ (rowN (clk k) L 0 i) rfl (own_al (own_next HX.out.1 hb2 (Nat.le_refl _)) _) (some ⟨w2.heap.size, 0, none⟩) w2.heap.size 0 1 [x] rfl (rds_one w2 x HX.out.2.2.2.1) (fun h => by cases h) ?c1 ?c2 ?_))
      case c1 => have h1 := HX.out.2.2.1; have h2 := HN.out.2; rw [rowN_len]; simp; omega
      case c2 => have := (bnext HX.out.2.1 hb2).size; simp; omega
      intro v2 w3 h3 hb3
      have HY : Hid (OwnS w3 w.heap.size v2 (rowN (clk k) L 0 (i + 1)) ∧ Below w.heap.size w w3) := ⟨by rw [← HX.out.2.2.2.2]; exact h3, (bal (bnext HX.out.2.1 hb2) _).trans hb3⟩
      clear h3 hb3 hb2
      go_wp2
      go_roundg (n - (i + 1))
      case rel =>
        go_light
        exact ⟨i + 1, HX.out.2.2.1, rfl, by go_num, HY.out.1, HY.out.2⟩
      case measure => go_light; have := HX.out.2.2.1; omega
    · obtain rfl : i = n := by omega
      have hlt' : ¬ ((i : Int) < (i : Int)) := by omega
      have HX : Hid (OwnS wr w.heap.size u5 (rowN (clk k) L 0 i) ∧ Below w.heap.size w wr) := ⟨ho, hb⟩
      clear ho hb hi hlt
      go_wp2
      go_loopg [5] H (fun gg v wx => ∃ (j N : Nat), j ≤ H ∧ gg = H - j ∧ Hid (2 ^ (H - j) = N ∧ N ≤ 1099511627776) ∧ OwnS wx w.heap.size v (rowN (clk k) L j N) ∧ Below w.heap.size w wx)
      case atStart =>
        go_light
        exact ⟨0, i, Nat.zero_le _, rfl, HN.out, HX.out.1, HX.out.2⟩
      case round =>
        clear HX
        obtain ⟨j, N, hj, rfl, HJ, ho, hb⟩ := hrel
        have hNN := HJ.out
        have hN0 : 0 < N := by rw [← hNN.1]; exact Nat.two_pow_pos _
        obtain ⟨g, cp, rfl, hg, hcp, hcm⟩ := own_form ho (by rw [rowN_len]; exact hN0)
        rw [rowN_len] at hcp ⊢
        by_cases hjl : j < H
        · obtain ⟨M, hM⟩ : ∃ M, 2 ^ (H - (j + 1)) = M := ⟨_, rfl⟩
          have hNM : N = 2 * M := by rw [← hNN.1, ← hM, show H - j = H - (j + 1) + 1 by omega, Nat.pow_succ]; omega
          have hM0 : 0 < M := by rw [← hM]; exact Nat.two_pow_pos _
          have h1N : (1 : Int) < (N : Int) := by omega
          have hN' : (N : Int) ≤ 1099511627776 := by omega
          have HX : Hid (OwnS wr w.heap.size (.slice (some ⟨g, 0, none⟩) (rowN (clk k) L j N).length cp) (rowN (clk k) L j N) ∧ Below w.heap.size w wr ∧ N = 2 * M ∧ 2 ^ (H - (j + 1)) = M ∧ j + 1 ≤ H ∧ N ≤ 1099511627776) := ⟨ho, hb, hNM, hM, hjl, hNN.2⟩
          clear ho hb hNN hN0 hg hcp hcm hNM hM hM0 hjl hj HJ
          obtain ⟨W0, hW0⟩ : ∃ W0, W0 = wr := ⟨wr, rfl⟩
          subst hW0
          go_wp2
          go_loopg [7, 8] M (fun gg v i0 wx => ∃ m : Nat, m ≤ M ∧ gg = M - m ∧ i0 = .int .i64 (2 * (m : Int)) ∧ OwnS wx W0.heap.size v (rowN (clk k) L (j + 1) m) ∧ Below W0.heap.size W0 wx)
          case atStart =>
            go_light
            exact ⟨0, Nat.zero_le _, rfl, rfl, owns_nil _ _, Below.refl _ _⟩
          case round =>
            obtain ⟨m, hm, rfl, rfl, ho, hb⟩ := hrel
            have hm0 : (0 : Int) ≤ (m : Int) := Int.natCast_nonneg _
            obtain ⟨y1, y2, y3, y4, y5, y6⟩ := HX.out
            by_cases hlt : m < M
            · have hlt' : 2 * (m : Int) + 1 < (N : Int) := by omega
              have hlt2 : 2 * (m : Int) < (N : Int) := by omega
              obtain ⟨a, ha⟩ : ∃ a, 2 * m = a := ⟨_, rfl⟩
              have ea : 2 * (m : Int) = (a : Int) := by omega
              have k1 := (own_cell (own_next y1 hb (Nat.le_refl _)) (j := a) (by rw [rowN_len]; omega)).1
              have k2 := (own_cell (own_next y1 hb (Nat.le_refl _)) (j := a + 1) (by rw [rowN_len]; omega)).1
              rw [rowN_at _ _ _ _ (by omega)] at k1 k2
              obtain ⟨x, hx⟩ : ∃ x, nd (clk k) L j a = x := ⟨_, rfl⟩
              obtain ⟨y, hy⟩ : ∃ y, nd (clk k) L j (a + 1) = y := ⟨_, rfl⟩
              obtain ⟨z, hz⟩ : ∃ z, nd (clk k) L (j + 1) m = z := ⟨_, rfl⟩
              rw [hx] at k1
              rw [hy] at k2
              have zx : x.size = clk k := by rw [← hx]; exact nd_size HC.out _ _ _
              have zy : y.size = clk k := by rw [← hy]; exact nd_size HC.out _ _ _
              have hcc := HC.out
              have HNd : Hid (∀ W, Below wr.heap.size wr W → Calls Tryd.prog 37 #[.int .i64 k, .string x, .string y] W fun e w' => e = .returned (.string z) ∧ Below W.heap.size W w') := fun W h => refnode_any W (HT.out.1.next (bnext (bnext y2 hb) h)) k x y (by omega) (by omega) z (by rw [← hz, nd, ha, hx, hy])
              have HK : Hid (∀ W, Below wr.heap.size wr W → W.cell? ⟨g, a, none⟩ = some (.string x) ∧ W.cell? ⟨g, a + 1, none⟩ = some (.string y)) := fun W h => by
                have l1 := World.block_lt_of_cell? wr _ k1
                exact ⟨(h.cell (p := ⟨g, a, none⟩) l1).trans k1, (h.cell (p := ⟨g, a + 1, none⟩) l1).trans k2⟩
              have HK0 : Hid (∀ W, Below W0.heap.size W0 W → W.cell? ⟨g, a, none⟩ = some (.string x) ∧ W.cell? ⟨g, a + 1, none⟩ = some (.string y)) := fun W h => by
                have r1 := (own_cell (own_next y1 h (Nat.le_refl _)) (j := a) (by rw [rowN_len]; omega)).1
                have r2 := (own_cell (own_next y1 h (Nat.le_refl _)) (j := a + 1) (by rw [rowN_len]; omega)).1
                rw [rowN_at _ _ _ _ (by omega)] at r1 r2
                rw [hx] at r1
                rw [hy] at r2
                exact ⟨r1, r2⟩
              have HY : Hid (OwnS wr W0.heap.size u7 (rowN (clk k) L (j + 1) m) ∧ Below W0.heap.size W0 wr ∧ rowN (clk k) L (j + 1) m ++ [z] = rowN (clk k) L (j + 1) (m + 1) ∧ z.size ≤ 9223372036854775807 ∧ m + 1 ≤ M ∧ N = 2 * M ∧ N ≤ 1099511627776) := ⟨ho, hb, by rw [← hz]; exact rowN_more _ _ _ _, by rw [← hz, nd_size HC.out]; omega, hlt, y3, y6⟩
              have e1 : IntKind.i64.wrap ((a : Int) + 1) = (a : Int) + 1 := by rw [IntKind.wrap_i64]; omega
              have h0a : (0 : Int) ≤ (a : Int) := by omega
              have h0b : (0 : Int) ≤ (a : Int) + 1 := by omega
              have hd : Below wr.heap.size wr wr.drew := (Below.refl _ _).drew
              rw [ea] at hlt' hlt2 ⊢
              clear y1 y2 y3 y4 y5 y6 ho hb hm hlt hx hy hz zx zy hcc ha
              go_upto_region 11 with (fail)
              obtain ⟨i0, hi0, hz0, hz1, hz2⟩ := info_parts Tryd.infoS
              have HO : Hid (∀ W, Below wr.heap.size wr W → (W.alloc (.cells #[.string z] 9)).ownsRow W0.heap.size 9 1 u7 m ((rowN (clk k) L (j + 1) m).map Value.string)) := fun W h => by
                have := own_al (own_next HY.out.1 h (Nat.le_refl _)) (.cells #[.string z] 9)
                rw [OwnS, rowN_len] at this; exact this
              have HM1 : Hid (m + 1 ≤ maxLen ∧ (m + 1) * 16 ≤ 140737488355328) := by have := HY.out; refine ⟨?_, ?_⟩; unfold maxLen; omega; omega
              have HS0 : Hid (∀ W, Below wr.heap.size wr W → W0.heap.size ≤ (W.alloc (.cells #[.string z] 9)).heap.size) := fun W h => by have := (bnext HY.out.2.1 h).size; simp; omega
              have kk := HK.out wr.drew hd
              have HG : Hid (∀ w2 w3, Below wr.drew.heap.size wr.drew w2 → (w2.alloc (.cells #[.string z] 9)).grownBy w3 u7.ownBlock → Below W0.heap.size W0 w3) := fun w2 w3 h1 h2 => (bal (bnext (bnext HY.out.2.1 hd) h1) _).grown h2 (by have := (bnext (bnext HY.out.2.1 hd) h1).size; simp; omega) (fun q hq => (HY.out.1.lt q hq).1)
              have HK3 : Hid (∀ w2 w3, Below wr.drew.heap.size wr.drew w2 → (w2.alloc (.cells #[.string z] 9)).grownBy w3 u7.ownBlock → w3.cell? ⟨g, a, none⟩ = some (.string x) ∧ w3.cell? ⟨g, a + 1, none⟩ = some (.string y)) := fun w2 w3 h1 h2 => HK0.out w3 (HG.out w2 w3 h1 h2)
              go_region_held3 (fun w' => w'.cell? ⟨g, a, none⟩ = some (.string x) ∧ w'.cell? ⟨g, a + 1, none⟩ = some (.string y)) (first | assumption | (exact HK3.out _ _ hb2 hgrow) | (exact HK.out _ (bnext hd hb2)) | (exact HK.out _ (bal (bnext hd hb2) _))) (first
                | (go_at_call 37; with_reducible refine (HNd.out _ hd).mono ?_; rintro e w2 ⟨rfl, hb2⟩)
                | (refine step_append_lies _ (by rfl) _ _ _ (by rfl) W0.heap.size 9 i0 _ 1 16 Tryd.underlying22 hi0 hz0 hz1 hz2 rfl (by omega) u7 m ((rowN (clk k) L (j + 1) m).map Value.string) (by rfl) (HO.out _ (bnext hd hb2)) ⟨w2.heap.size, 0, none⟩ 1 1 [.string z] (by rfl) (by rfl) (World.news_of_block (cs := #[.string z]) (t := 9) (fr := (0, 0)) (heap_alloc_new w2 _)) (by simp [Value.oneCell']) (by omega) HM1.out.1 HM1.out.2 (HS0.out _ (bnext hd hb2)) (w2.heap.size + 1) (by simp) ?_; intro gg cap_1 w3 hown3 hgrow hat hlt3))
              have HZ : Hid (OwnS w3 W0.heap.size (.slice (some ⟨gg, 0, none⟩) (m + 1) cap_1) (rowN (clk k) L (j + 1) (m + 1)) ∧ Below W0.heap.size W0 w3) := ⟨by
                rw [OwnS, rowN_len, ← HY.out.2.2.1, List.map_append]; exact hown3, HG.out _ _ hb2 hgrow⟩
              clear hown3 hgrow hat hlt3 HG HK3 HK HK0 HNd HO HS0 kk
              have HEa := hide ea
              clear ea
              go_wp2
              go_roundg (M - (m + 1))
              case rel =>
                go_light
                exact ⟨m + 1, HY.out.2.2.2.2.1, rfl, by have := HEa.out; rw [show 2 * ((m + 1 : Nat) : Int) = (a : Int) + 2 by omega], HZ.out.1, HZ.out.2⟩
              case measure => go_light; have := HY.out.2.2.2.2.1; omega
            · obtain rfl : m = M := by omega
              obtain ⟨a, ha⟩ : ∃ a, 2 * m = a := ⟨_, rfl⟩
              have ea : 2 * (m : Int) = (a : Int) := by omega
              have hlt' : ¬ ((a : Int) + 1 < (N : Int)) := by omega
              have e1 : IntKind.i64.wrap ((a : Int) + 1) = (a : Int) + 1 := by rw [IntKind.wrap_i64]; omega
              rw [ea]
              have HY : Hid (OwnS wr w.heap.size u7 (rowN (clk k) L (j + 1) m) ∧ Below w.heap.size w wr ∧ 2 ^ (H - (j + 1)) = m ∧ j + 1 ≤ H ∧ m ≤ 1099511627776) := ⟨World.ownsRow.mono ho y2.size, bnext y2 hb, y4, y5, by omega⟩
              clear y1 y2 y3 y4 y5 y6 ho hb hm hlt HX ha ea
              go_wp2
              go_roundg (H - (j + 1))
              case rel =>
                go_light
                obtain ⟨k1, k2, k3, k4, k5⟩ := HY.out
                exact ⟨j + 1, m, k4, rfl, ⟨k3, k5⟩, k1, k2⟩
              case measure => go_light; have := HY.out.2.2.2.1; omega
        · obtain rfl : j = H := by omega
          obtain ⟨n1, n2⟩ := hNN
          rw [Nat.sub_self, Nat.pow_zero] at n1
          subst n1
          have k1 := (own_cell ho (j := 0) (by rw [rowN_len]; decide)).1
          rw [rowN_at _ _ _ _ (by decide), hq.out] at k1
          have h1 : ¬ ((1 : Int) < 1) := by decide
          have HB : Hid (Below w.heap.size w wr) := hb
          clear ho hb hcp hcm hg HJ n2 hN0 hj hjl
          go_wp2
          go_ret
          exact ⟨rfl, HB.out⟩
end Go.Proofs.YtihcdmnodpknlaaDoor
