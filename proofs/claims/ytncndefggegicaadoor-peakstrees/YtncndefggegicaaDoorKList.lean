/-
  The walk of PeaksList. Own work.
-/
import Derived.Test.YtncndefggegicaaDoorKFew
import Derived.Test.YtncndefggegicaaDoorPlanH
namespace Go.Proofs.YtncndefggegicaaDoor
open Go.RowKit
attribute [local go_sem ↓] Go.wp_at_zero Go.wp_at_succ
/-- A range that has the first j items of M. -/
structure LS (w wr : World) (p : Nat) (v : Value) (K : Int) (M : List ByteArray) (vM : Value) (j : Nat) : Prop where
  rg : Rg wr p v K j (ol (gN (clk K) M) 41 j)
  own : OwnS wr w.heap.size vM M
  hp : w.heap.size ≤ p
  below : Below w.heap.size w wr
  le : j ≤ M.length
  m40 : M.length ≤ 40
  z200 : ∀ s ∈ M, s.size ≤ 200
  tb : Tb wr
section
variable {w wr W : World} {p : Nat} {v vM : Value} {K : Int} {M : List ByteArray} {j : Nat}
theorem LS.next (s : LS w wr p v K M vM j) (hb : Below wr.heap.size wr W) : LS w W p v K M vM j :=
  ⟨s.rg.next hb (Nat.le_refl _), own_next s.own hb (Nat.le_refl _), s.hp, bnext s.below hb, s.le, s.m40, s.z200, s.tb.next hb⟩
theorem LS.did {W : World} {j' : Nat} {vm v' : Value} {A P' : List ByteArray} (s : LS w wr p v K M vM j) (h : Did wr W p v K j' P' vm A v') (hP : P' = ol (gN (clk K) M) 41 j') (hj : j' ≤ M.length) : LS w W p v' K M vM j' :=
  ⟨hP ▸ h.rg, own_ch s.own s.rg h.ch, s.hp, s.below.trans (h.ch.below.mono s.hp), hj, s.m40, s.z200, s.tb.ch s.rg h.ch⟩
theorem LS.size (s : LS w wr p v K M vM j) : ∀ x ∈ M, x.size ≤ 140737488351232 := fun x hx => Nat.le_trans (s.z200 x hx) (by decide)
/-- The first m items, to be read. -/
theorem LS.so {gM cM : Nat} (s : LS w wr p v K M (.slice (some ⟨gM, 0, none⟩) M.length cM) j) {m : Nat} (hm : m ≤ M.length) : RdS wr (some ⟨gM, 0, none⟩) gM 0 m (M.take m) := by
  obtain ⟨ao, b, cap, hv, hr, _, _⟩ := owns_rds s.own (fun x hx => Nat.le_trans (s.size x hx) (by decide))
  have h1 := hr.take hm
  obtain ⟨e1, _, _⟩ := Value.slice.inj hv
  by_cases h0 : 0 < m
  · have := h1.ptr h0
    rw [← e1] at this
    cases this
    rw [← e1] at h1
    exact h1
  · obtain rfl : m = 0 := by omega
    exact ⟨by simp, fun h => absurd h (Nat.lt_irrefl 0), (fun j v h => by simp at h), fun x hx => by simp at hx⟩
end
theorem er_list {K : Int} (k1 : 1 ≤ K) (k2 : K ≤ 32) (M : List ByteArray) (h t m : Nat) (hm : m = 2 ^ h * t) (hh : h ≤ 40) (hl : m + 2 ^ h ≤ 1099511627776) : er K m (h : Int) (nd (clk K) M h t) = 0 := by
  have hc := clk_of k1 k2
  refine er_zero (by rw [nd_size (clk_le K)]; exact hc) (by omega) (by omega) ?_ ?_
  · rw [Int.toNat_natCast, hm]; exact (pow_num h t).1
  · rw [Int.toNat_natCast]; exact hl
/-- What comes of the node of a whole tree. -/
theorem did_list {K : Int} (k1 : 1 ≤ K) (k2 : K ≤ 32) (M : List ByteArray) (h t m : Nat) (hm : m = 2 ^ h * t) (hh : h ≤ 40) (hl : m + 2 ^ h ≤ 1099511627776) :
    Hid (er K m (h : Int) (nd (clk K) M h t) = 0 ∧ nxN K m (h : Int) (nd (clk K) M h t) = m + 2 ^ h ∧ nxP K m (ol (gN (clk K) M) 41 m) (h : Int) (nd (clk K) M h t) = ol (gN (clk K) M) 41 (m + 2 ^ h) ∧
      an K m (ol (gN (clk K) M) 41 m) (h : Int) (nd (clk K) M h t) = (List.range (Pl.trl (40 - h) t + 1)).map (fun j => nd (clk K) M (h + j) (t / 2 ^ j))) := by
  have e := er_list k1 k2 M h t m hm hh hl
  have q := mk_list (clk K) M h t m hm hh hl
  refine ⟨e, ?_, ?_, ?_⟩
  · rw [nxN, if_pos e, Int.toNat_natCast]
  · rw [nxP, if_pos e, Int.toNat_natCast, q]
  · rw [an, if_pos e, Int.toNat_natCast, q]
theorem root_list {K : Int} (M : List ByteArray) (m : Nat) (hm : m ≤ M.length) : rtD (clk K) (M.take m) m = rgD K m (ol (gN (clk K) M) 41 m) := by
  rw [rtD, rgD, List.take_take, Nat.min_self, pks_ol (clk K) M m hm 41]
set_option maxRecDepth 100000 in
set_option maxHeartbeats 2000000 in
theorem list_walk (w : World) (ht : Tb w) (k : Int) (ao : Option Addr) (b off cap : Nat) (L : List ByteArray) (hr : RdS w ao b off L.length L) (hmx : L.length ≤ 8796093022208) :
    Calls Tryd.prog 7 #[.int .i64 k, .slice ao L.length cap] w fun e w' => e = .returned (.bool true) ∧ Below w.heap.size w w' := by
  obtain ⟨K, hK⟩ : ∃ K, stg k = K := ⟨_, rfl⟩
  obtain ⟨k1, k2⟩ := stg_in k
  rw [hK] at k1 k2
  obtain ⟨M, hM⟩ : ∃ M, Hid (fewL L 40 = M) := ⟨_, rfl⟩
  have hM40 : M.length ≤ 40 := by rw [← hM.out, fewL_len]; omega
  have hMz : ∀ s ∈ M, s.size ≤ 200 := by rw [← hM.out]; exact fewL_size
  have HAl : Hid (∀ W, Below w.heap.size w W → Calls Tryd.prog 9 #[] W fun e w' => e = .returned (.bool true) ∧ Below W.heap.size W w') := fun W hb => alive_any W (ht.next hb)
  have HSt : Hid (∀ W, Calls Tryd.prog 10 #[.int .i64 k] W fun e w' => e = .returned (.int .i64 K) ∧ W = w') := fun W => strength_any W k K hK
  have HFw : Hid (∀ W, Below w.heap.size w W → Calls Tryd.prog 20 #[.slice ao L.length cap, .int .i64 40] W fun e w' => ∃ v, e = .returned v ∧ OwnS w' W.heap.size v M ∧ Below W.heap.size W w') := fun W hb => few_any W ao b off cap L (hr.next hb (Nat.le_refl _)) hmx 40 (by decide) M hM
  have HNw : Hid (∀ W, Calls Tryd.prog 18 #[.int .i64 K] W fun e w' => ∃ p v, e = .returned (.tuple #[.pointer (some ⟨p, 0, none⟩), .int .i64 0]) ∧ Rg w' p v K 0 [] ∧ W.heap.size ≤ p ∧ Below W.heap.size W w') := fun W => by
    have h0 : fe K 0 [] = 0 := by
      rw [fe, if_neg (by omega), if_neg (by omega), if_neg]
      rintro (h | h)
      · exact h (by rw [Pl.ones_zero]; rfl)
      · exact h fun s hs => by cases hs
    exact (knew_any W K 0 h0).mono fun e w' h => by
      obtain ⟨p, v, h1, h2, h3, _, h5⟩ := h.ok
      exact ⟨p, v, h1, h2, h3, h5⟩
  have HK := hide (And.intro k1 k2)
  have HM : Hid (M.length ≤ 40 ∧ ∀ s ∈ M, s.size ≤ 200) := ⟨hM40, hMz⟩
  have HT := hide ht
  have hb0 := Below.refl w.heap.size w
  clear ht hr hmx hM hK k1 k2 hM40 hMz
  go_enter Tryd.func7, Tryd.ntmps7
  go_wp2_with (first
    | (go_at_call 9; with_reducible refine (HAl.out _ hb0).mono ?_; rintro e w1 ⟨rfl, hb1⟩; replace hb0 := bnext hb0 hb1; clear hb1)
    | (go_at_call 10; with_reducible refine (HSt.out _).mono ?_; rintro e w2 ⟨rfl, rfl⟩)
    | (go_at_call 20; with_reducible refine (HFw.out _ hb0).mono ?_; rintro e w3 ⟨vM, rfl, oM, hb3⟩; obtain ⟨aoM, cM, rfl⟩ := own_slice oM; replace oM := own_mono oM hb0.size; replace hb0 := bnext hb0 hb3; clear hb3)
    | (go_at_call 18; with_reducible refine (HNw.out _).mono ?_; rintro e w4 ⟨p, v0, rfl, hR4, hp4, hb4⟩; replace oM := own_next oM hb4 (Nat.le_refl _); replace hp4 := Nat.le_trans hb0.size hp4; replace hb0 := bnext hb0 hb4; clear hb4))
  have HS0 : Hid (LS w w4 p v0 K M (.slice aoM M.length cM) 0) := ⟨by rw [ol_nil _ _ _ (Nat.zero_mod _)]; exact hR4, oM, hp4, hb0, Nat.zero_le _, HM.out.1, HM.out.2, HT.out.next hb0⟩
  clear hR4 oM hp4 hb0 HAl HSt HFw HNw
  go_loopg [7] M.length (fun g i wr => ∃ (j : Nat) (v : Value), j ≤ M.length ∧ g = M.length - j ∧ i = .int .i64 (j : Int) ∧ LS w wr p v K M (.slice aoM M.length cM) j)
  case atStart =>
    go_light
    exact ⟨0, v0, Nat.zero_le _, rfl, rfl, HS0.out⟩
  case round =>
    clear HS0
    obtain ⟨j, v, hj, rfl, rfl, hS⟩ := hrel
    by_cases hlt : j < M.length
    · have hz : (j : Int) < (M.length : Int) := by omega
      have hz0 : (0 : Int) ≤ (j : Int) := Int.natCast_nonneg _
      have hz9 : (j : Int) < 40 := by have := HM.out.1; omega
      obtain ⟨gM, cM', hvM, _, hcM, _⟩ := own_form hS.own (by omega)
      obtain ⟨rfl, _, rfl⟩ := Value.slice.inj hvM
      clear hvM
      obtain ⟨x, hx⟩ : ∃ x, M.getD j ByteArray.empty = x := ⟨_, rfl⟩
      have cx := (own_cell hS.own hlt).1
      rw [hx] at cx
      obtain ⟨d, hd⟩ : ∃ d, nd (clk K) M 0 j = d := ⟨_, rfl⟩
      obtain ⟨j1, hj1⟩ : ∃ j1, j + 1 = j1 := ⟨_, rfl⟩
      obtain ⟨P1, hP1⟩ : ∃ P1, Hid (ol (gN (clk K) M) 41 j1 = P1) := ⟨_, rfl⟩
      obtain ⟨A, hA⟩ : ∃ A, Hid ((List.range (Pl.trl 40 j + 1)).map (fun i => nd (clk K) M (0 + i) (j / 2 ^ i)) = A) := ⟨_, rfl⟩
      obtain ⟨T, hT⟩ : ∃ T, Pl.trl 64 j = T := ⟨_, rfl⟩
      have hT40 : Pl.trl 40 j = T := by rw [← hT, ← trl_more 40 j 24 (by omega)]
      have hTl : T ≤ 40 := by rw [← hT40]; exact trl_le' 40 j
      have hAl : A.length = T + 1 := by rw [← hA.out, List.length_map, List.length_range, hT40]
      have hAd := did_list HK.out.1 HK.out.2 M 0 j j (by rw [Nat.pow_zero, Nat.one_mul]) (by decide) (by show j + 1 ≤ _; omega)
      rw [hd] at hAd
      have HLf : Hid (Calls Tryd.prog 23 #[.int .i64 K, .string x] wr fun e w' => e = .returned (.string d) ∧ Below wr.heap.size wr w') := leaf_any wr hS.tb K x (by have := hS.size x (by rw [← hx]; exact getD_mem hlt); omega) d (by rw [← hd, nd, hx])
      have HAd : Hid (∀ W, Below wr.heap.size wr W → Calls Tryd.prog 15 #[.pointer (some ⟨p, 0, none⟩), .string d] W fun e w' => ∃ vm v', e = .returned (.tuple #[vm, .int .i64 0]) ∧ LS w w' p v' K M (.slice (some ⟨gM, 0, none⟩) M.length cM) j1 ∧ OwnS w' w.heap.size vm A) := fun W hb => by
        have s := hS.next hb
        refine (add_any W s.tb p v K j _ s.rg d 0 j1 P1 A ?_).mono ?_
        · obtain ⟨q1, q2, q3, q4⟩ := hAd.out
          rw [Int.ofNat_zero] at q1 q2 q3 q4
          refine ⟨q1, by rw [q2]; exact hj1, by rw [q3, ← hP1.out, ← hj1], by rw [q4]; exact hA.out⟩
        · rintro e w' ⟨vm, v', rfl, hD⟩
          exact ⟨vm, v', rfl, s.did hD hP1.out.symm (by omega), own_mono hD.own s.below.size⟩
      have HTr : Hid (∀ W, Calls Tryd.prog 24 #[.int .u64 (j : Int)] W fun e w' => e = .returned (.int .i64 (T : Int)) ∧ W = w') := fun W => ltrail_any j W (by omega) T hT
      obtain ⟨n0, hn0⟩ : ∃ n0, Pl.N j = n0 := ⟨_, rfl⟩
      have HNd : Hid (∀ W, Calls Tryd.prog 25 #[.int .u64 (j : Int)] W fun e w' => e = .returned (.tuple #[.int .u64 (n0 : Int), .bool true]) ∧ W = w') := fun W => by
        have := Pl.nodes_yes j W (by omega)
        rw [hn0] at this
        exact this.mono fun _ _ h => ⟨h.1, h.2.symm⟩
      have e1 : IntKind.i64.wrap ((j : Int) + 1) = (j1 : Int) := by rw [IntKind.wrap_i64]; omega
      have e2 : IntKind.u64.wrap (j1 : Int) = (j1 : Int) := u64_id _ (by omega) (by omega)
      have e3 : IntKind.u64.wrap (j : Int) = (j : Int) := u64_id _ (by omega) (by omega)
      obtain ⟨T1, hT1⟩ : ∃ T1, T + 1 = T1 := ⟨_, rfl⟩
      have e4 : IntKind.i64.wrap (1 + (T : Int)) = (T1 : Int) := by rw [IntKind.wrap_i64]; omega
      have g1 : (j1 : Int) ≤ (cM : Int) := by omega
      have g2 : (0 : Int) ≤ (j1 : Int) := Int.natCast_nonneg _
      have HX : Hid (j1 = j + 1 ∧ j1 ≤ M.length ∧ T ≤ 40 ∧ A.length = T1 ∧ n0 = Pl.N j ∧ (∀ q, q ≤ T → A.getD q ByteArray.empty = nd (clk K) M q (j / 2 ^ q)) ∧ (∀ q, q ≤ T → j % 2 ^ q = 2 ^ q - 1) ∧ M.length ≤ cM ∧ T1 = T + 1) := by
        refine ⟨hj1.symm, by omega, hTl, by omega, hn0.symm, fun q hq => ?_, fun q hq => trl_ones 40 j q (by omega), hcM, hT1.symm⟩
        rw [← hA.out, List.getD_eq_getElem?_getD, List.getElem?_map, List.getElem?_range (by omega)]
        simp
      have HZA : Hid (∀ s ∈ A, s.size ≤ 9223372036854775807) := fun s hs => by
        rw [← hA.out] at hs
        obtain ⟨q, _, rfl⟩ := List.mem_map.1 hs
        rw [nd_size (clk_le K)]
        have := clk_le K
        omega
      have hA0 : 0 < A.length := by omega
      have HA0 := hide hA0
      clear hx hd hj1 hA hT hT40 hTl hAl hAd hn0 hcM hA0 hT1
      have HL : Hid (M.length ≤ 40 ∧ j < 40) := ⟨HM.out.1, by omega⟩
      have HS := hide hS
      clear hS
      go_wp2_with (first
        | (go_at_call 23; with_reducible refine HLf.out.mono ?_; rintro e w5 ⟨rfl, hb5⟩)
        | (go_at_call 15; with_reducible refine (HAd.out _ hb5).mono ?_; rintro e w6 ⟨vm, v', rfl, hS6, oA6⟩; obtain ⟨ga, ca, hvm, _⟩ := own_form oA6 HA0.out; rw [HX.out.2.2.2.1] at hvm; subst hvm; have HS6 := hide (And.intro hS6 oA6); clear hS6 oA6)
        | (go_at_call 24; with_reducible refine (HTr.out _).mono ?_; rintro e w7 ⟨rfl, rfl⟩)
        | (go_at_call 25; with_reducible refine (HNd.out _).mono ?_; rintro e w7 ⟨rfl, rfl⟩))
      clear HLf HAd HTr HNd HS hb5 cx
      go_loopg [13] T1 (fun g i wr => ∃ q : Nat, q ≤ T1 ∧ g = T1 - q ∧ i = .int .i64 (q : Int) ∧ LS w wr p v' K M (.slice (some ⟨gM, 0, none⟩) M.length cM) j1 ∧ OwnS wr w.heap.size (.slice (some ⟨ga, 0, none⟩) T1 ca) A)
      case atStart =>
        go_light
        exact ⟨0, Nat.zero_le _, rfl, rfl, HS6.out.1, HS6.out.2⟩
      case round =>
        clear HS6
        obtain ⟨q, hq, rfl, rfl, hS6, oA6⟩ := hrel
        by_cases hqt : q < T1
        · have hy0 : (q : Int) < (T1 : Int) := by omega
          have hy1 : (0 : Int) ≤ (q : Int) := Int.natCast_nonneg _
          obtain ⟨x1, x2, x3, x4, x5, x6, x7, x8, x9⟩ := HX.out
          have hq9 : (q : Int) ≤ 40 := by omega
          obtain ⟨y, hy⟩ : ∃ y, j / 2 ^ q = y := ⟨_, rfl⟩
          obtain ⟨z, hzz⟩ : ∃ z, A.getD q ByteArray.empty = z := ⟨_, rfl⟩
          obtain ⟨x0, hx0⟩ : ∃ x0, n0 + q = x0 := ⟨_, rfl⟩
          have hnd : nd (clk K) M q y = z := by rw [← hzz, ← hy]; exact (x6 q (by omega)).symm
          obtain ⟨b1, b2, b3⟩ := Pl.new_at q j (x7 q (by omega)) (by omega)
          have hb1 : Pl.at' q y = x0 := by rw [← hy, ← hx0, x5]; exact b1
          have hb2 : y < Pl.pw (40 - q) := by rw [← hy]; exact b2
          obtain ⟨c1, c2⟩ := Pl.at_blk q y b3 hb2
          rw [hb1] at c1 c2
          have HBk : Hid (∀ W, Calls Tryd.prog 26 #[.int .u64 (x0 : Int)] W fun e w' => e = .returned (.tuple #[.agg #[.int .i64 (q : Int), .int .u64 (y : Int)], .bool true]) ∧ Below W.heap.size W w') := fun W => by
            have := Pl.block_yes x0 W c1
            rw [c2] at this
            exact this
          have hyl : (y + 1) * 2 ^ q ≤ j1 := by
            have h1 := Pl.ones_end q j (x7 q (by omega))
            rw [x1, h1, ← hy]
            exact Nat.le_refl _
          have hx0b : x0 ≤ 2199023255550 := c1
          have HTre : Hid (∀ W, Below wr.heap.size wr W → Calls Tryd.prog 21 #[.int .i64 K, .slice (some ⟨gM, 0, none⟩) j1 cM, .agg #[.int .i64 (q : Int), .int .u64 (y : Int)]] W fun e w' => e = .returned (.tuple #[.string z, .bool true]) ∧ Below W.heap.size W w') := fun W hb => by
            have s := hS6.next hb
            exact tree_yes W s.tb K _ gM 0 j1 cM (M.take j1) (s.so x2) (fun t ht => s.size t (List.mem_of_mem_take ht)) (by omega) q y b3 hyl z (by rw [nd_take _ _ _ _ _ x2 hyl]; exact hnd)
          have HCz : Hid (∀ W, Below wr.heap.size wr W → W.cell? ⟨ga, q, none⟩ = some (.string z)) := fun W hb => by
            rw [← hzz]; exact (own_cell (own_next oA6 hb (Nat.le_refl _)) (by omega)).1
          have e6 : IntKind.u64.wrap (q : Int) = (q : Int) := u64_id _ hy1 (by omega)
          have e7 : IntKind.u64.wrap ((n0 : Int) + (q : Int)) = (x0 : Int) := by rw [u64_id _ (by omega) (by omega)]; omega
          have hb0 := Below.refl wr.heap.size wr
          have HQ : Hid (∀ W, Below wr.heap.size wr W → LS w W p v' K M (.slice (some ⟨gM, 0, none⟩) M.length cM) j1 ∧ OwnS W w.heap.size (.slice (some ⟨ga, 0, none⟩) T1 ca) A) := fun W hb => ⟨hS6.next hb, own_next oA6 hb (Nat.le_refl _)⟩
          clear x1 x2 x3 x4 x5 x6 x7 x8 x9 hy hzz hx0 hnd b1 b2 b3 hb1 hb2 c1 c2 hyl hx0b hS6 oA6
          go_wp2_with (first
            | (go_at_call 26; with_reducible refine (HBk.out _).mono ?_; rintro e w8 ⟨rfl, hb8⟩; replace hb0 := bnext hb0 hb8; clear hb8)
            | (go_at_call 21; with_reducible refine (HTre.out _ (bal hb0 _)).mono ?_; rintro e w9 ⟨rfl, hb9⟩; replace hb0 := bnext (bal hb0 _) hb9; clear hb9; have cz := HCz.out _ hb0))
          go_roundg (T1 - (q + 1))
          case rel =>
            go_light
            exact ⟨q + 1, by omega, rfl, by go_num, (HQ.out _ hb0).1, (HQ.out _ hb0).2⟩
          case measure => go_light; omega
        · obtain rfl : q = T1 := by omega
          have hy0 : ¬ ((q : Int) < (q : Int)) := by omega
          obtain ⟨x1, x2, x3, x4, x5, x6, x7, x8, x9⟩ := HX.out
          obtain ⟨r, hr⟩ : ∃ r, Hid (rgD K j1 (ol (gN (clk K) M) 41 j1) = r) := ⟨_, rfl⟩
          have HRo : Hid (∀ W, LS w W p v' K M (.slice (some ⟨gM, 0, none⟩) M.length cM) j1 → Calls Tryd.prog 17 #[.pointer (some ⟨p, 0, none⟩)] W fun e w' => e = .returned (.agg #[.int .u64 (j1 : Int), .string r]) ∧ Below W.heap.size W w') := fun W s => rroot_any W s.tb p v' K j1 _ s.rg r hr
          have HSz : Hid (∀ W, LS w W p v' K M (.slice (some ⟨gM, 0, none⟩) M.length cM) j1 → Calls Tryd.prog 16 #[.pointer (some ⟨p, 0, none⟩)] W fun e w' => e = .returned (.int .u64 (j1 : Int)) ∧ Below W.heap.size W w') := fun W s => size_any W p v' K j1 _ s.rg
          have HRt : Hid (Calls Tryd.prog 27 #[.int .i64 K, .slice (some ⟨gM, 0, none⟩) j1 cM, .int .u64 (j1 : Int)] wr fun e w' => e = .returned (.tuple #[.agg #[.int .u64 (j1 : Int), .string r], .int .i64 0]) ∧ Below wr.heap.size wr w') :=
            proot_ok wr hS6.tb K HK.out.1 HK.out.2 _ gM 0 j1 cM (M.take j1) (hS6.so x2) (fun t ht => hS6.size t (List.mem_of_mem_take ht)) (by omega) (by omega) j1 (Nat.le_refl _) r (by show _ = _; rw [root_list M j1 x2]; exact hr.out)
          have HZP : Hid ((∀ s ∈ P1, s.size ≤ 9223372036854775807) ∧ P1.length ≤ 8796093022208) := by
            have h1 := hS6.rg.small
            have h2 := hS6.rg.short
            rw [hP1.out] at h1 h2
            exact ⟨fun s hs => Nat.le_trans (h1 s hs) (by decide), by omega⟩
          have HPk1 : Hid (∀ W, LS w W p v' K M (.slice (some ⟨gM, 0, none⟩) M.length cM) j1 → Calls Tryd.prog 13 #[.pointer (some ⟨p, 0, none⟩)] W fun e w' => ∃ u, e = .returned u ∧ OwnS w' W.heap.size u P1 ∧ Below W.heap.size W w') := fun W s => by
            have := rpeaks_own W p v' K j1 _ s.rg
            rw [hP1.out] at this
            exact this
          have HPk2 : Hid (∀ W, LS w W p v' K M (.slice (some ⟨gM, 0, none⟩) M.length cM) j1 → Calls Tryd.prog 28 #[.int .i64 K, .slice (some ⟨gM, 0, none⟩) j1 cM] W fun e w' => ∃ u, e = .returned u ∧ OwnS w' W.heap.size u P1 ∧ Below W.heap.size W w') := fun W s =>
            peaks_any W s.tb K _ gM 0 j1 cM (M.take j1) (s.so x2) (fun t ht => s.size t (List.mem_of_mem_take ht)) (by omega) P1 (by show _ = _; rw [pks_ol _ M j1 x2 41]; exact hP1.out)
          have HQ : Hid (∀ W, Below wr.heap.size wr W → LS w W p v' K M (.slice (some ⟨gM, 0, none⟩) M.length cM) j1) := fun W hb => hS6.next hb
          have HJ : Hid (j1 ≤ M.length ∧ j1 = j + 1) := ⟨x2, x1⟩
          clear x1 x2 x3 x4 x5 x6 x7 x8 x9 hS6 oA6 HX hr hP1
          go_upto_region 24 with (go_at_call 27; with_reducible refine HRt.out.mono ?_; rintro e w8 ⟨rfl, hb8⟩)
          have R8 := rt_new w8 j1 r 39
          have B8 := bal hb8 (.cells #[.int .u64 (j1 : Int), .string r] 39)
          have hg8 : w8.heap.size < (w8.alloc (.cells #[.int .u64 (j1 : Int), .string r] 39)).heap.size := by simp
          generalize w8.alloc (.cells #[.int .u64 (j1 : Int), .string r] 39) = w0 at *
          generalize w8.heap.size = g at *
          have HK2 : Hid (∀ W, Below w0.heap.size w0 W → LS w W p v' K M (.slice (some ⟨gM, 0, none⟩) M.length cM) j1 ∧ Rt W g j1 r) := fun W h => ⟨HQ.out W (bnext B8 h), R8.below h hg8⟩
          have HK0 := HK
          clear HK
          have HK := HK2
          clear HK2 R8 B8 hg8 hb8 HRt HQ
          refine wp_region_planG (by kernel_rfl) [119, 120, 121, 122, 123, 124, 125, 126, 127, 128, 129, 130, 131, 132, 133, 134, 135, 136, 137, 138, 139, 140, 141, 142, 143] [.int .i64 0, .bool false, .bool false, .pointer (some ⟨p, 0, none⟩), .agg #[.int .u64 (j1 : Int), .string r], .agg #[.int .u64 (j1 : Int), .string r], .bool false, .bool false, .bool false, .pointer (some ⟨p, 0, none⟩), .int .u64 (j1 : Int), .int .i64 (j : Int), .int .i64 (j1 : Int), .int .u64 (j1 : Int), .bool false, .bool false, .bool false, .pointer (some ⟨p, 0, none⟩), undef, .int .i64 K, .slice (some ⟨gM, 0, none⟩) j1 cM, undef, .bool true, .bool false, .bool false] [(18, P1), (21, P1)] (by kernel_rfl) rfl ?step ?fin
          case fin =>
            intro f Wc hB hf
            have HLs := hide (HK.out Wc hB).1
            rw [show mixG [.int .i64 0, .bool false, .bool false, .pointer (some ⟨p, 0, none⟩), .agg #[.int .u64 (j1 : Int), .string r], .agg #[.int .u64 (j1 : Int), .string r], .bool false, .bool false, .bool false, .pointer (some ⟨p, 0, none⟩), .int .u64 (j1 : Int), .int .i64 (j : Int), .int .i64 (j1 : Int), .int .u64 (j1 : Int), .bool false, .bool false, .bool false, .pointer (some ⟨p, 0, none⟩), undef, .int .i64 K, .slice (some ⟨gM, 0, none⟩) j1 cM, undef, .bool true, .bool false, .bool false] [(18, P1), (21, P1)] f = [.int .i64 0, .bool false, .bool false, .pointer (some ⟨p, 0, none⟩), .agg #[.int .u64 (j1 : Int), .string r], .agg #[.int .u64 (j1 : Int), .string r], .bool false, .bool false, .bool false, .pointer (some ⟨p, 0, none⟩), .int .u64 (j1 : Int), .int .i64 (j : Int), .int .i64 (j1 : Int), .int .u64 (j1 : Int), .bool false, .bool false, .bool false, .pointer (some ⟨p, 0, none⟩), f 18, .int .i64 K, .slice (some ⟨gM, 0, none⟩) j1 cM, f 21, .bool true, .bool false, .bool false] from rfl]
            generalize f 18 = x18
            generalize f 21 = x21
            clear hf
            clear HK hB f HPk1 HPk2 HZP HRo HSz
            simp only [puts]
            go_simp
            go_wp2
            go_roundg (M.length - j1)
            case rel =>
              go_light
              exact ⟨j1, v', HJ.out.1, rfl, rfl, HLs.out⟩
            case measure => go_light; have := HJ.out; omega
          case step =>
            refine ⟨?_, ?_, ?_, ?_, ?_, ?_, ?_, ?_, ?_, ?_, ?_, ?_, ?_, ?_, ?_, ?_, ?_, ?_, ?_, ?_, ?_, ?_, ?_, ?_, ?_, trivial⟩
            · intro Ac Wc Kc hB hsm dep hK
              have t19 : Ac.tmps.getD 19 undef = .int .i64 0 := hsm 19 rfl
              show Oper.wp _ _ Ac Wc Kc _
              go_simp
              exact hK _ _ rfl (Below.refl _ _)
            · intro Ac Wc Kc hB hsm dep hK
              have t119 : Ac.tmps.getD 119 undef = .int .i64 0 := dep 0 rfl
              show Oper.wp _ _ Ac Wc Kc _
              go_simp
              exact hK _ _ rfl (Below.refl _ _)
            · intro Ac Wc Kc hB hsm dep hK
              have t120 : Ac.tmps.getD 120 undef = .bool false := dep 1 rfl
              show Oper.wp _ _ Ac Wc Kc _
              go_simp
              exact hK _ _ rfl (Below.refl _ _)
            · intro Ac Wc Kc hB hsm dep hK
              have t5 : Ac.tmps.getD 5 undef = .pointer (some ⟨p, 0, none⟩) := hsm 5 rfl
              refine ⟨false, (show Ac.tmps.getD 121 undef = .bool false from dep 2 rfl), ?_⟩
              rw [if_pos rfl]
              go_simp
              exact hK _ _ rfl (Below.refl _ _)
            · intro Ac Wc Kc hB hsm dep hK
              have t122 : Ac.tmps.getD 122 undef = .pointer (some ⟨p, 0, none⟩) := dep 3 rfl
              refine ⟨false, (show Ac.tmps.getD 121 undef = .bool false from dep 2 rfl), ?_⟩
              rw [if_pos rfl]
              go_simp
              refine (HRo.out Wc (HK.out Wc hB).1).mono ?_
              rintro e w' ⟨rfl, hb⟩
              exact hK _ _ rfl hb
            · intro Ac Wc Kc hB hsm dep hK
              have t18 : Ac.tmps.getD 18 undef = .pointer (some ⟨g, 0, none⟩) := hsm 18 rfl
              refine ⟨false, (show Ac.tmps.getD 121 undef = .bool false from dep 2 rfl), ?_⟩
              rw [if_pos rfl]
              have c0 := (HK.out Wc hB).2.c0
              have c1 := (HK.out Wc hB).2.c1
              go_simp
              exact hK _ _ rfl (Below.refl _ _)
            · intro Ac Wc Kc hB hsm dep hK
              have t123 : Ac.tmps.getD 123 undef = .agg #[.int .u64 (j1 : Int), .string r] := dep 4 rfl
              have t124 : Ac.tmps.getD 124 undef = .agg #[.int .u64 (j1 : Int), .string r] := dep 5 rfl
              refine ⟨false, (show Ac.tmps.getD 121 undef = .bool false from dep 2 rfl), ?_⟩
              rw [if_pos rfl]
              go_simp
              exact hK _ _ rfl (Below.refl _ _)
            · intro Ac Wc Kc hB hsm dep hK
              have t121 : Ac.tmps.getD 121 undef = .bool false := dep 2 rfl
              have t125 : Ac.tmps.getD 125 undef = .bool false := dep 6 rfl
              show Oper.wp _ _ Ac Wc Kc _
              go_simp
              exact hK _ _ rfl (Below.refl _ _)
            · intro Ac Wc Kc hB hsm dep hK
              have t126 : Ac.tmps.getD 126 undef = .bool false := dep 7 rfl
              show Oper.wp _ _ Ac Wc Kc _
              go_simp
              exact hK _ _ rfl (Below.refl _ _)
            · intro Ac Wc Kc hB hsm dep hK
              have t5 : Ac.tmps.getD 5 undef = .pointer (some ⟨p, 0, none⟩) := hsm 5 rfl
              refine ⟨false, (show Ac.tmps.getD 127 undef = .bool false from dep 8 rfl), ?_⟩
              rw [if_pos rfl]
              go_simp
              exact hK _ _ rfl (Below.refl _ _)
            · intro Ac Wc Kc hB hsm dep hK
              have t128 : Ac.tmps.getD 128 undef = .pointer (some ⟨p, 0, none⟩) := dep 9 rfl
              refine ⟨false, (show Ac.tmps.getD 127 undef = .bool false from dep 8 rfl), ?_⟩
              rw [if_pos rfl]
              go_simp
              refine (HSz.out Wc (HK.out Wc hB).1).mono ?_
              rintro e w' ⟨rfl, hb⟩
              exact hK _ _ rfl hb
            · intro Ac Wc Kc hB hsm dep hK
              have t7 : Ac.tmps.getD 7 undef = .int .i64 (j : Int) := hsm 7 rfl
              refine ⟨false, (show Ac.tmps.getD 127 undef = .bool false from dep 8 rfl), ?_⟩
              rw [if_pos rfl]
              go_simp
              exact hK _ _ rfl (Below.refl _ _)
            · intro Ac Wc Kc hB hsm dep hK
              have t130 : Ac.tmps.getD 130 undef = .int .i64 (j : Int) := dep 11 rfl
              refine ⟨false, (show Ac.tmps.getD 127 undef = .bool false from dep 8 rfl), ?_⟩
              rw [if_pos rfl]
              go_simp
              exact hK _ _ rfl (Below.refl _ _)
            · intro Ac Wc Kc hB hsm dep hK
              have t131 : Ac.tmps.getD 131 undef = .int .i64 (j1 : Int) := dep 12 rfl
              refine ⟨false, (show Ac.tmps.getD 127 undef = .bool false from dep 8 rfl), ?_⟩
              rw [if_pos rfl]
              go_simp
              exact hK _ _ rfl (Below.refl _ _)
            · intro Ac Wc Kc hB hsm dep hK
              have t129 : Ac.tmps.getD 129 undef = .int .u64 (j1 : Int) := dep 10 rfl
              have t132 : Ac.tmps.getD 132 undef = .int .u64 (j1 : Int) := dep 13 rfl
              refine ⟨false, (show Ac.tmps.getD 127 undef = .bool false from dep 8 rfl), ?_⟩
              rw [if_pos rfl]
              go_simp
              exact hK _ _ rfl (Below.refl _ _)
            · intro Ac Wc Kc hB hsm dep hK
              have t127 : Ac.tmps.getD 127 undef = .bool false := dep 8 rfl
              have t133 : Ac.tmps.getD 133 undef = .bool false := dep 14 rfl
              show Oper.wp _ _ Ac Wc Kc _
              go_simp
              exact hK _ _ rfl (Below.refl _ _)
            · intro Ac Wc Kc hB hsm dep hK
              have t134 : Ac.tmps.getD 134 undef = .bool false := dep 15 rfl
              show Oper.wp _ _ Ac Wc Kc _
              go_simp
              exact hK _ _ rfl (Below.refl _ _)
            · intro Ac Wc Kc hB hsm dep hK
              have t5 : Ac.tmps.getD 5 undef = .pointer (some ⟨p, 0, none⟩) := hsm 5 rfl
              refine ⟨false, (show Ac.tmps.getD 135 undef = .bool false from dep 16 rfl), ?_⟩
              rw [if_pos rfl]
              go_simp
              exact hK _ _ rfl (Below.refl _ _)
            · intro Ac Wc Kc hB hsm dep hK
              have t136 : Ac.tmps.getD 136 undef = .pointer (some ⟨p, 0, none⟩) := dep 17 rfl
              refine ⟨false, (show Ac.tmps.getD 135 undef = .bool false from dep 16 rfl), ?_⟩
              rw [if_pos rfl]
              go_simp
              refine (HPk1.out Wc (HK.out Wc hB).1).mono ?_
              rintro e w' ⟨v, rfl, ho, hb⟩
              exact hK _ _ (rdl_own ho HZP.out.1) hb
            · intro Ac Wc Kc hB hsm dep hK
              have t0 : Ac.tmps.getD 0 undef = .int .i64 K := hsm 0 rfl
              refine ⟨false, (show Ac.tmps.getD 135 undef = .bool false from dep 16 rfl), ?_⟩
              rw [if_pos rfl]
              go_simp
              exact hK _ _ rfl (Below.refl _ _)
            · intro Ac Wc Kc hB hsm dep hK
              have t10 : Ac.tmps.getD 10 undef = .slice (some ⟨gM, 0, none⟩) j1 cM := hsm 10 rfl
              refine ⟨false, (show Ac.tmps.getD 135 undef = .bool false from dep 16 rfl), ?_⟩
              rw [if_pos rfl]
              go_simp
              exact hK _ _ rfl (Below.refl _ _)
            · intro Ac Wc Kc hB hsm dep hK
              have t138 : Ac.tmps.getD 138 undef = .int .i64 K := dep 19 rfl
              have t139 : Ac.tmps.getD 139 undef = .slice (some ⟨gM, 0, none⟩) j1 cM := dep 20 rfl
              refine ⟨false, (show Ac.tmps.getD 135 undef = .bool false from dep 16 rfl), ?_⟩
              rw [if_pos rfl]
              go_simp
              refine (HPk2.out Wc (HK.out Wc hB).1).mono ?_
              rintro e w' ⟨v, rfl, ho, hb⟩
              exact hK _ _ (rdl_own ho HZP.out.1) hb
            · intro Ac Wc Kc hB hsm dep hK
              obtain ⟨ao137, b137, c137, t137, r137⟩ := (show RdL Wc (Ac.tmps.getD 137 undef) P1 from dep 18 rfl)
              obtain ⟨ao140, b140, c140, t140, r140⟩ := (show RdL Wc (Ac.tmps.getD 140 undef) P1 from dep 21 rfl)
              refine ⟨false, (show Ac.tmps.getD 135 undef = .bool false from dep 16 rfl), ?_⟩
              rw [if_pos rfl]
              go_simp
              refine (same_any Wc _ _ 0 _ _ P1 r137 _ _ 0 _ r140 HZP.out.2).mono ?_
              rintro e w' ⟨rfl, hb⟩
              exact hK _ _ rfl hb
            · intro Ac Wc Kc hB hsm dep hK
              have t141 : Ac.tmps.getD 141 undef = .bool true := dep 22 rfl
              refine ⟨false, (show Ac.tmps.getD 135 undef = .bool false from dep 16 rfl), ?_⟩
              rw [if_pos rfl]
              go_simp
              exact hK _ _ rfl (Below.refl _ _)
            · intro Ac Wc Kc hB hsm dep hK
              have t135 : Ac.tmps.getD 135 undef = .bool false := dep 16 rfl
              have t142 : Ac.tmps.getD 142 undef = .bool false := dep 23 rfl
              show Oper.wp _ _ Ac Wc Kc _
              go_simp
              exact hK _ _ rfl (Below.refl _ _)
    · obtain rfl : j = M.length := by omega
      have hz : ¬ ((M.length : Int) < (M.length : Int)) := by omega
      have HB := hide hS.below
      clear hS
      go_wp2
      go_ret
      exact ⟨rfl, HB.out⟩
theorem list_row (w : World) (ht : Tb w) (k : Int) (ao : Option Addr) (b off len cap : Nat) (L : List ByteArray) (hr : RdS w ao b off len L) (hmx : len ≤ 8796093021952) :
    Calls Tryd.prog 7 #[.int .i64 k, .slice ao len cap] w fun e w' => e = .returned (.bool true) ∧ Below w.heap.size w w' := by
  obtain rfl := hr.hl
  exact list_walk w ht k ao b off cap L hr (by omega)
end Go.Proofs.YtncndefggegicaaDoor
