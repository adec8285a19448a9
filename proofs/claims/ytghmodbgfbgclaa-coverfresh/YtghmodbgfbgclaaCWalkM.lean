/-
  The walk of CoverLeaves. Own work.
-/
import Derived.Test.YtghmodbgfbgclaaCWalkL
import Derived.Test.YtghmodbgfbgclaaCWalkI
import Derived.Deep.Cut
import Derived.Deep.CutRange
namespace Go.Proofs.Ytghmodbgfbgclaa
open Go.RowKit
attribute [local go_sem ↓] Go.wp_at_zero Go.wp_at_succ
theorem own_one (w : World) (B x : Nat) (hB : B ≤ w.heap.size) : Own (w.alloc (.cells #[.int .u64 (x : Int)] 22)) B (.slice (some ⟨w.heap.size, 0, none⟩) 1 1) [x] :=
  ⟨rfl, .inr ⟨w.heap.size, 1, #[.int .u64 (x : Int)], rfl, hB, heap_new _ _, Nat.le_refl _, by decide, rfl, rfl⟩⟩
/-- Where CoverLeaves stands among blocks and numbers. -/
structure Lv (n : Nat) (S : List Nat) (R : List (Nat × Nat)) (i j p : Nat) : Prop where
  til : Til (But n S) n p (R.drop i)
  chain : Chain p (S.drop j) n
  low : ∀ t, t < j → S.getD t 0 < p
theorem lv_start {n : Nat} {S : List Nat} (hn : n ≤ 2 ^ 40) (hc : Chain 0 S n) : Lv n S (rst 0 n S) 0 0 0 := ⟨rst_but n S hn hc, hc, fun t ht => absurd ht (Nat.not_lt_zero t)⟩
theorem lv_num {n : Nat} {S : List Nat} {R : List (Nat × Nat)} {i j p : Nat} (h : Lv n S R i j p) (hj : j < S.length) (hs : S.getD j 0 = p) : Lv n S R i (j + 1) (p + 1) := by
  obtain ⟨h1, h2, h3⟩ := h
  have hd := drop_at 0 S j hj
  rw [hs] at hd
  rw [hd] at h2
  have hle := chain_le h2.2
  refine ⟨til_skip h1 (fun hA => hA.2 ?_) (by omega), h2.2, fun t ht => ?_⟩
  · rw [← hs, List.getD_eq_getElem?_getD, List.getElem?_eq_getElem hj]; exact List.getElem_mem _
  · by_cases e : t = j
    · rw [e, hs]; omega
    · have := h3 t (by omega); omega
theorem lv_free {n : Nat} {S : List Nat} {R : List (Nat × Nat)} {i j p : Nat} (h : Lv n S R i j p) (hs : ¬ (j < S.length ∧ S.getD j 0 = p)) : p ∉ S := fun hm => by
  obtain ⟨t, ht, he⟩ := List.getElem_of_mem hm
  have hg : S.getD t 0 = p := by rw [List.getD_eq_getElem?_getD, List.getElem?_eq_getElem ht, he]; rfl
  by_cases hj : t < j
  · have := h.low t hj; omega
  · by_cases e : t = j
    · exact hs ⟨e ▸ ht, e ▸ hg⟩
    · have hjl : j < S.length := by omega
      have hc := h.chain
      have := chain_drop hc (t - j) (by rw [List.length_drop]; omega)
      have h0 := this.2.2 0 (by omega)
      have h1 := (chain_drop hc 0 (by rw [List.length_drop]; omega)).2.1
      have e1 : (S.drop j).getD (t - j) 0 = S.getD t 0 := by rw [List.getD_eq_getElem?_getD, List.getElem?_drop, List.getD_eq_getElem?_getD, show j + (t - j) = t by omega]
      rw [e1, hg] at h0
      omega
/-- No number and no block is left: all is tiled. -/
theorem lv_end {n : Nat} {S : List Nat} {R : List (Nat × Nat)} {i j p : Nat} (h : Lv n S R i j p) (hi : R.length ≤ i) (hs : ¬ (j < S.length ∧ S.getD j 0 = p)) : p = n := by
  have h1 := h.til
  rw [List.drop_eq_nil_iff.2 hi] at h1
  have hle := h1.1
  by_cases e : p = n
  · exact e
  · exact absurd ⟨by omega, lv_free h hs⟩ (h1.2 p (Nat.le_refl _) (by omega))
theorem lv_block {n : Nat} {S : List Nat} {R : List (Nat × Nat)} {i j p : Nat} (h : Lv n S R i j p) (hi : i < R.length) (hs : ¬ (j < S.length ∧ S.getD j 0 = p)) (hn : n ≤ 2 ^ 40) :
    ∃ a k, R.getD i (0, 0) = (a, k) ∧ k * pw a = p ∧ (k + 1) * pw a ≤ n ∧ a ≤ 40 ∧ k < pw (40 - a) ∧ Lv n S R (i + 1) j ((k + 1) * pw a) ∧ ((k / 2 + 1) * pw (a + 1) ≤ n → ∃ t, t < S.length ∧ k / 2 * pw (a + 1) ≤ S.getD t 0 ∧ S.getD t 0 < (k / 2 + 1) * pw (a + 1)) := by
  have hf := lv_free h hs
  obtain ⟨h1, h2, h3⟩ := h
  have hd := drop_at (0, 0) R i hi
  obtain ⟨⟨a, k⟩, hx⟩ : ∃ x, R.getD i (0, 0) = x := ⟨_, rfl⟩
  rw [hx] at hd
  rw [hd] at h1
  obtain ⟨a1, a2, a3, a4, a5, a6⟩ := h1
  dsimp only at a1 a2 a3 a4 a5 a6
  have hlt := blk_lt a k
  have hp : k * pw a = p := by
    by_cases e : p = k * pw a
    · exact e.symm
    · exact absurd ⟨by omega, hf⟩ (a3 p (Nat.le_refl _) (by omega))
  obtain ⟨m1, m2⟩ := blk_may (Nat.le_trans a2 hn)
  refine ⟨a, k, hx, hp, a2, m1, m2, ⟨a6, chain_jump h2 a2 (fun s hs1 hs2 hs3 => (a4 s (by omega) hs3).2 (List.mem_of_mem_drop hs1)), fun t ht => by have := h3 t ht; omega⟩, fun hle => ?_⟩
  have hex : ∃ s, s ∈ S ∧ k / 2 * pw (a + 1) ≤ s ∧ s < (k / 2 + 1) * pw (a + 1) := Classical.byContradiction fun hno => a5 (fun s s1 s2 => ⟨by omega, fun hm => hno ⟨s, hm, s1, s2⟩⟩)
  obtain ⟨s, hm, s1, s2⟩ := hex
  obtain ⟨t, ht, he⟩ := List.getElem_of_mem hm
  exact ⟨t, ht, by rw [List.getD_eq_getElem?_getD, List.getElem?_eq_getElem ht, he]; exact s1, by rw [List.getD_eq_getElem?_getD, List.getElem?_eq_getElem ht, he]; exact s2⟩
set_option maxHeartbeats 8000000 in
set_option maxRecDepth 100000 in
theorem leaves_walk (a : Nat) (ha : a < 2 ^ 64) (w : World) (ao : Option Addr) (b off m cap : Nat) (l : List Nat) (r : Rd w ao b off m l) (hm : m ≤ maxLen) (hc : m ≤ cap) (hn : ao = none → cap = 0) :
    Calls Try.prog 6 #[.int .u64 (a : Int), .slice ao m cap] w fun e w' => e = .returned (.bool true) ∧ Below w.heap.size w w' := by
  have HA := fun w' => alive_any w'
  obtain ⟨n0, hn0⟩ : ∃ n0, a % (1099511627775 + 1) = n0 := ⟨_, rfl⟩
  obtain ⟨n, hnn⟩ : ∃ n, n0 + 1 = n := ⟨_, rfl⟩
  have W1 : ∀ w', Calls Try.prog 9 #[.int .u64 (a : Int), .int .u64 1099511627775] w' fun x w'' => x = .returned (.int .u64 (n0 : Int)) ∧ w' = w'' := fun w' => by
    have := within_any a 1099511627775 w' (by decide); rw [hn0] at this; exact this
  have en : IntKind.u64.wrap ((n0 : Int) + 1) = (n : Int) := by rw [IntKind.wrap_u64]; omega
  obtain ⟨q, hq⟩ : ∃ q, a / 3 = q := ⟨_, rfl⟩
  have eq : (a : Int) / 3 = (q : Int) := by omega
  have eq2 : IntKind.u64.wrap (q : Int) = (q : Int) := by rw [IntKind.wrap_u64]; omega
  have HF := fun w' (hb : Below w.heap.size w w') => few_any w' ao b off m cap l (r.below hb) hm hc
  have HN := num_any
  have HNN : Hid ((ao = none → cap = 0) ∧ n ≤ 2 ^ 40 ∧ 0 < n) := ⟨hn, by omega, by omega⟩
  clear r hm hc hn hn0 hnn hq ha
  go_enter Try.func6, Try.ntmps6
  go_upto_region 4 with (first
    | (go_at_call 8; with_reducible refine (HA _).mono ?_; rintro e w1 ⟨rfl, hb1⟩)
    | (go_at_call 9; with_reducible refine (W1 _).mono ?_; rintro e w2 ⟨rfl, rfl⟩))
  have HF2 := HF (w1.alloc (.cells #[.int .u64 (q : Int)] 22)) (bal hb1 _)
  clear HA W1 HF
  go_wp2_with (first
    | (go_at_call 11; with_reducible refine HF2.mono ?_; rintro e w2 ⟨k, rfl, hk1, hk2, hk3, rk, rfl⟩)
    | (at_builtin; refine wpList_append_U _ rfl _ _ rfl w1.heap.size _ [q] rfl (own_one w1 w1.heap.size q (Nat.le_refl _)) _ (l.take k) rfl (rd_rdc rk HNN.out.1) ?c1 ?c2 ?_))
  case c1 => simp; omega
  case c2 => simp
  intro v2 w2 r1 r2 _
  have hb2 : Below w1.heap.size w1 w2 := ((Below.refl _ w1).alloc (Nat.le_refl _) _).grown r2 (by simp) (fun j hj => by cases hj; exact Nat.le_refl _)
  have hlen := rk.len
  obtain ⟨ao2, b2, m2, cap2, rfl, rr, _, _⟩ := own_rd r1
  have hm2 : m2 = k + 1 := by
    have h9 : ([q] ++ l.take k).length = m2 := rr.len
    rw [List.length_append, hlen] at h9
    simp only [List.length_cons, List.length_nil] at h9; omega
  obtain ⟨hnn, n40, n0p⟩ := HNN.out
  have HRI := rising_any n w2 ao2 b2 0 m2 cap2 _ rr (by omega) n0p n40
  have HM2 : Hid (0 < m2) := by show 0 < m2; omega
  clear rr r1 r2 rk hlen hm2 hnn n40 n0p hk1 hk2 hk3 HF2
  go_upto_region 5 with ((go_at_call 10; with_reducible refine HRI.mono ?_; rintro e w3 ⟨v3, S, rfl, o3, hch, hs60, hne, hb3⟩))
  have hS := hne HM2.out
  obtain ⟨hnn, n40, n0p⟩ := HNN.out
  have he := chain_inc hch hS n40
  obtain ⟨aS, bS, pS, capS, rfl, rS, _, _⟩ := own_rd o3
  have hpS := rS.len
  have R1 := rest_ok n w3 aS bS 0 pS capS S rS (by omega) he
  have C1 := fun w' (hb : Below w3.heap.size w3 w') => count_ok n w' aS bS 0 pS capS S (rS.below hb) (by omega) he
  have hrl := rst_len n n40 S 0 hch
  have hrc := fun c (hc : n ≤ pw c) => rst_count n c S n40 hch hc
  have hlv := lv_start n40 hch
  rw [hpS] at hrl hrc
  have HCE := fun w' => ceil_any n w' n40 n0p
  clear HRI hne he HM2
  generalize rst 0 n S = R at *
  go_upto_region 7 with (first
    | (go_at_call 14; with_reducible refine R1.mono ?_; rintro e w4 ⟨v4, rfl, o4, hb4⟩)
    | (go_at_call 22; with_reducible refine (C1 _ hb4).mono ?_; rintro e w5 ⟨rfl, hb5⟩))
  have q4 := ownB_next o4 hb5
  obtain ⟨aR, gR, mR, capR, rfl, rR, _⟩ := own_rdB q4
  have hmR := rR.len
  rw [zl_len] at hmR
  rw [hmR] at hrl hrc ⊢
  have hwR : IntKind.u64.wrap (mR : Int) = (mR : Int) := by rw [IntKind.wrap_u64]; omega
  have HD : ∀ c, n ≤ pw c → c ≤ 64 → IntKind.i64.wrap ((pS : Int) * (c : Int)) = (pS : Int) * (c : Int) ∧ IntKind.i64.wrap ((pS : Int) * (c : Int) + 40) = (pS : Int) * (c : Int) + 40 ∧ decide ((pS : Int) * (c : Int) + 40 < (mR : Int)) = false := fun c h1 h2 => by
    have h3 := hrc c h1
    have h4 : pS * c ≤ 60 * 64 := Nat.mul_le_mul (by omega) h2
    have h5 : (pS : Int) * (c : Int) = ((pS * c : Nat) : Int) := by simp
    rw [h5]
    generalize pS * c = d at *
    refine ⟨by rw [IntKind.wrap_i64]; omega, by rw [IntKind.wrap_i64]; omega, decide_eq_false (by omega)⟩
  have HW5 : Hid (Below w.heap.size w w5 ∧ Rd w5 aS bS 0 pS S ∧ RdB w5 aR gR mR (zl R) ∧ R.length = mR ∧ S.length = pS ∧ Lv n S R 0 0 0 ∧ n ≤ 2 ^ 40 ∧ pS ≤ 60 ∧ mR ≤ 5000 ∧ Chain 0 S n ∧ 0 < pS) := ⟨bnext (bnext (bnext (bnext hb1 hb2) hb3) hb4) hb5, (rS.below hb4).below hb5, rR, hmR, hpS, hlv, n40, by omega, by omega, hch, by have := List.length_pos_iff.2 hS; omega⟩
  have hmR' : (mR : Int) ≤ 5000 := by have := HW5.out.2.2.2.2.2.2.2.2.1; omega
  have hpS' : (pS : Int) ≤ 60 := by omega
  clear R1 C1 hb1 hb2 hb3 hb4 hb5 o3 o4 q4 rS rR hmR hpS hlv n40 n0p hnn hrl hrc hch hS hs60
  go_wp2_with (first
    | (go_at_call 16; with_reducible refine (HN _ _).mono ?_; rintro e w9 ⟨rfl, rfl⟩)
    | (go_at_call 23; with_reducible refine (HCE _).mono ?_; rintro e w9 ⟨c, rfl, hc1, hc2, rfl⟩; obtain ⟨f1, f2, f3⟩ := HD c hc1 hc2))
  clear f1 f2 f3 hc1 hc2 HCE HD hwR
  go_loopg [11, 12, 13, 14, 15, 16] (mR + pS) (fun gg at0 i0 j0 x0 y0 ok0 wr => ∃ i j p : Nat, i ≤ mR ∧ j ≤ pS ∧ gg = (mR - i) + (pS - j) ∧ at0 = .int .u64 (p : Int) ∧ i0 = .int .i64 (i : Int) ∧ j0 = .int .i64 (j : Int) ∧ Lv n S R i j p ∧ p ≤ n ∧ Below w5.heap.size w5 wr)
  case atStart =>
    go_light
    exact ⟨0, 0, 0, Nat.zero_le _, Nat.zero_le _, rfl, rfl, rfl, rfl, HW5.out.2.2.2.2.2.1, Nat.zero_le _, Below.refl _ _⟩
  case round =>
    obtain ⟨i, j, p, hi, hj, rfl, rfl, rfl, rfl, hlv, hpn, hb⟩ := hrel
    obtain ⟨y1, y2, y3, y4, y5, y6, y7, y8, y9, y10, y11⟩ := HW5.out
    have hi0 : (0 : Int) ≤ (i : Int) := Int.natCast_nonneg _
    have hj0 : (0 : Int) ≤ (j : Int) := Int.natCast_nonneg _
    have hi5 : (i : Int) ≤ 5000 := by omega
    have hj6 : (j : Int) ≤ 60 := by omega
    have ep : IntKind.u64.wrap ((p : Int) + 1) = (p : Int) + 1 := by rw [IntKind.wrap_u64]; omega
    have rs := y2.below hb
    obtain rfl := rs.addr y11
    by_cases hjl : j < pS
    · have hjl' : (j : Int) < (pS : Int) := by omega
      have cj := rs.cell j hjl
      rw [Nat.zero_add] at cj
      obtain ⟨s, hs⟩ : ∃ s, S.getD j 0 = s := ⟨_, rfl⟩
      rw [hs] at cj
      by_cases hsp : s = p
      · subst hsp
        have hlv2 := lv_num hlv (by omega) hs
        have hle : s + 1 ≤ n := til_le hlv2.til
        have HX : Hid (Lv n S R i (j + 1) (s + 1) ∧ s + 1 ≤ n ∧ Below w5.heap.size w5 wr ∧ i ≤ mR ∧ j + 1 ≤ pS) := ⟨hlv2, hle, hb, hi, hjl⟩
        clear hlv hlv2 hle hb hi hs y1 y2 y3 y4 y5 y6 y7 y8 y9 y10 y11 rs hpn hj
        by_cases hil : i < mR
        · have hil' : (i : Int) < (mR : Int) := by omega
          go_wp2
          go_roundg ((mR - i) + (pS - (j + 1)))
          case rel =>
            go_light
            obtain ⟨x1, x2, x3, x4, x5⟩ := HX.out
            exact ⟨i, j + 1, s + 1, x4, x5, rfl, by go_num, rfl, by go_num, x1, x2, x3⟩
          case measure => go_light; omega
        · have hil' : ¬ (i : Int) < (mR : Int) := by omega
          go_wp2
          go_roundg ((mR - i) + (pS - (j + 1)))
          case rel =>
            go_light
            obtain ⟨x1, x2, x3, x4, x5⟩ := HX.out
            exact ⟨i, j + 1, s + 1, x4, x5, rfl, by go_num, rfl, by go_num, x1, x2, x3⟩
          case measure => go_light; omega
      · by_cases hil : i < mR
        · have HNO : ¬ (j < S.length ∧ S.getD j 0 = p) := fun h => hsp (hs.symm.trans h.2)
          obtain ⟨a1, k1, z1, z2, z3, z4, z5, z6, z7⟩ := lv_block hlv (by omega) HNO y7
          have rr := y3.below hb
          obtain rfl := rr.addr (by omega)
          have hc := rr.cell i hil
          rw [zl_getD, z1] at hc
          obtain ⟨c1, c2⟩ := hc
          dsimp only at c1 c2
          have hk40 := may_big z5
          have SP := fun w' => span_yes a1 k1 w' z4 z5
          rw [z2] at SP
          obtain ⟨y, hy⟩ : ∃ y, (k1 + 1) * pw a1 = y := ⟨_, rfl⟩
          rw [hy] at SP z3 z6
          have z3' : ¬ (n : Int) < (y : Int) := by omega
          have z3'' : ¬ n < y := by omega
          obtain ⟨h1, hh1⟩ : ∃ h1 : Nat, a1 + 1 = h1 := ⟨_, rfl⟩
          obtain ⟨q2, hq2⟩ : ∃ q2 : Nat, k1 / 2 = q2 := ⟨_, rfl⟩
          have eh : IntKind.i64.wrap ((a1 : Int) + 1) = (h1 : Int) := by rw [IntKind.wrap_i64]; omega
          have eq3 : IntKind.u64.wrap ((k1 : Int) / 2) = (q2 : Int) := by rw [IntKind.wrap_u64]; omega
          obtain ⟨px, py, ok, HS, hok⟩ : ∃ (px py : Nat) (ok : Bool), (∀ w', Calls Try.prog 19 #[.agg #[.int .i64 (h1 : Int), .int .u64 (q2 : Int)]] w' fun e w'' => e = .returned (.tuple #[.int .u64 (px : Int), .int .u64 (py : Int), .bool ok]) ∧ Below w'.heap.size w' w'') ∧ (ok = true → py ≤ n → ∃ t, t < S.length ∧ px ≤ S.getD t 0 ∧ S.getD t 0 < py) := by
            by_cases h40 : a1 = 40
            · obtain rfl : h1 = 41 := by omega
              exact ⟨0, 0, false, fun w' => span_no q2 w', fun h => by cases h⟩
            · have hq3 : q2 < pw (40 - h1) := by
                have := z5
                rw [show 40 - a1 = (40 - h1) + 1 by omega, pw_succ] at this; omega
              rw [hh1, hq2] at z7
              exact ⟨_, _, true, fun w' => span_yes h1 q2 w' (by omega) hq3, fun _ => z7⟩
          have HX : Hid (Lv n S R (i + 1) j y ∧ y ≤ n ∧ Below w5.heap.size w5 wr ∧ i + 1 ≤ mR ∧ j ≤ pS ∧ (ok = true → py ≤ n → ∃ t, t < S.length ∧ px ≤ S.getD t 0 ∧ S.getD t 0 < py) ∧ w.heap.size ≤ wr.heap.size) := ⟨z6, z3, hb, hil, by omega, hok, by have := y1.size; have := hb.size; omega⟩
          have hil' : (i : Int) < (mR : Int) := by omega
          have hine : ¬ (i : Int) = (mR : Int) := by omega
          clear z1 z2 z3 z4 z5 z6 z7 hlv hb hi hj y1 y3 y4 y6 y7 y9 y10 rr hpn hk40 hy hh1 hq2 hok HNO
          go_upto_region 20 with ((go_at_call 19; with_reducible refine (SP _).mono ?_; rintro e w6 ⟨rfl, hb6⟩))
          have k1' := (hb6.cell (p := ⟨gR, i * 2, none⟩) (World.block_lt_of_cell? wr _ c1)).trans c1
          have k2' := (hb6.cell (p := ⟨gR, i * 2 + 1, none⟩) (World.block_lt_of_cell? wr _ c2)).trans c2
          go_region_with (go_at_call 19; with_reducible refine (HS _).mono ?_; rintro e w8 ⟨rfl, hb8⟩)
          all_goals
            have b8 : Below wr.heap.size wr w8 := bnext hb6 ⟨hb8.os, hb8.tape, hb8.output, hb8.size, hb8.block⟩
            have m1 := (b8.cell (p := ⟨gR, i * 2, none⟩) (World.block_lt_of_cell? wr _ c1)).trans c1
            have m2' := (b8.cell (p := ⟨gR, i * 2 + 1, none⟩) (World.block_lt_of_cell? wr _ c2)).trans c2
            clear c1 c2 k1' k2' hb6 hb8 HS
            cases ok with
            | false =>
              go_wp2_with (go_at_call 19; with_reducible refine (SP _).mono ?_; rintro e w9 ⟨rfl, hb9⟩)
              go_roundg ((mR - (i + 1)) + (pS - j))
              case rel =>
                go_light
                obtain ⟨x1, x2, x3, x4, x5, _⟩ := HX.out
                exact ⟨i + 1, j, y, x4, x5, rfl, rfl, by go_num, rfl, x1, x2, bnext (bnext x3 b8) hb9⟩
              case measure => go_light; have := HX.out.2.2.2.1; omega
            | true =>
              by_cases hpy : py ≤ n
              · have hpy' : (py : Int) ≤ (n : Int) := by omega
                have HH := holds_yes w8 (some ⟨bS, 0, none⟩) bS 0 pS capS S px py (rs.below b8) (by omega) (by obtain ⟨t, t1, t2, t3⟩ := HX.out.2.2.2.2.2.1 rfl hpy; exact ⟨t, by omega, t2, t3⟩)
                go_wp2_with (first
                  | (go_at_call 24; with_reducible refine HH.mono ?_; rintro e w10 ⟨rfl, hb10⟩; have m3 := (hb10.cell (p := ⟨gR, i * 2, none⟩) (World.block_lt_of_cell? w8 _ m1)).trans m1; have m4 := (hb10.cell (p := ⟨gR, i * 2 + 1, none⟩) (World.block_lt_of_cell? w8 _ m2')).trans m2')
                  | (go_at_call 19; with_reducible refine (SP _).mono ?_; rintro e w9 ⟨rfl, hb9⟩))
                go_roundg ((mR - (i + 1)) + (pS - j))
                case rel =>
                  go_light
                  obtain ⟨x1, x2, x3, x4, x5, _⟩ := HX.out
                  exact ⟨i + 1, j, y, x4, x5, rfl, rfl, by go_num, rfl, x1, x2, bnext (bnext (bnext x3 b8) hb10) hb9⟩
                case measure => go_light; have := HX.out.2.2.2.1; omega
              · have hpy' : ¬ (py : Int) ≤ (n : Int) := by omega
                go_wp2_with (go_at_call 19; with_reducible refine (SP _).mono ?_; rintro e w9 ⟨rfl, hb9⟩)
                go_roundg ((mR - (i + 1)) + (pS - j))
                case rel =>
                  go_light
                  obtain ⟨x1, x2, x3, x4, x5, _⟩ := HX.out
                  exact ⟨i + 1, j, y, x4, x5, rfl, rfl, by go_num, rfl, x1, x2, bnext (bnext x3 b8) hb9⟩
                case measure => go_light; have := HX.out.2.2.2.1; omega
        · have hend := lv_end hlv (by omega) (fun h => hsp (hs.symm.trans h.2))
          have hcd := chain_drop hlv.chain 0 (by rw [List.length_drop]; omega)
          have e1 : (S.drop j).getD 0 0 = s := by rw [List.getD_eq_getElem?_getD, List.getElem?_drop, Nat.add_zero, ← List.getD_eq_getElem?_getD, hs]
          rw [e1] at hcd
          omega
    · obtain rfl : j = pS := by omega
      have hjl' : ¬ (j : Int) < (j : Int) := by omega
      by_cases hil : i < mR
      · have HNO : ¬ (j < S.length ∧ S.getD j 0 = p) := fun h => by omega
        obtain ⟨a1, k1, z1, z2, z3, z4, z5, z6, z7⟩ := lv_block hlv (by omega) HNO y7
        have rr := y3.below hb
        obtain rfl := rr.addr (by omega)
        have hc := rr.cell i hil
        rw [zl_getD, z1] at hc
        obtain ⟨c1, c2⟩ := hc
        dsimp only at c1 c2
        have hk40 := may_big z5
        have SP := fun w' => span_yes a1 k1 w' z4 z5
        rw [z2] at SP
        obtain ⟨y, hy⟩ : ∃ y, (k1 + 1) * pw a1 = y := ⟨_, rfl⟩
        rw [hy] at SP z3 z6
        have z3' : ¬ (n : Int) < (y : Int) := by omega
        have z3'' : ¬ n < y := by omega
        obtain ⟨h1, hh1⟩ : ∃ h1 : Nat, a1 + 1 = h1 := ⟨_, rfl⟩
        obtain ⟨q2, hq2⟩ : ∃ q2 : Nat, k1 / 2 = q2 := ⟨_, rfl⟩
        have eh : IntKind.i64.wrap ((a1 : Int) + 1) = (h1 : Int) := by rw [IntKind.wrap_i64]; omega
        have eq3 : IntKind.u64.wrap ((k1 : Int) / 2) = (q2 : Int) := by rw [IntKind.wrap_u64]; omega
        obtain ⟨px, py, ok, HS, hok⟩ : ∃ (px py : Nat) (ok : Bool), (∀ w', Calls Try.prog 19 #[.agg #[.int .i64 (h1 : Int), .int .u64 (q2 : Int)]] w' fun e w'' => e = .returned (.tuple #[.int .u64 (px : Int), .int .u64 (py : Int), .bool ok]) ∧ Below w'.heap.size w' w'') ∧ (ok = true → py ≤ n → ∃ t, t < S.length ∧ px ≤ S.getD t 0 ∧ S.getD t 0 < py) := by
          by_cases h40 : a1 = 40
          · obtain rfl : h1 = 41 := by omega
            exact ⟨0, 0, false, fun w' => span_no q2 w', fun h => by cases h⟩
          · have hq3 : q2 < pw (40 - h1) := by
              have := z5
              rw [show 40 - a1 = (40 - h1) + 1 by omega, pw_succ] at this; omega
            rw [hh1, hq2] at z7
            exact ⟨_, _, true, fun w' => span_yes h1 q2 w' (by omega) hq3, fun _ => z7⟩
        have HX : Hid (Lv n S R (i + 1) j y ∧ y ≤ n ∧ Below w5.heap.size w5 wr ∧ i + 1 ≤ mR ∧ j ≤ j ∧ (ok = true → py ≤ n → ∃ t, t < S.length ∧ px ≤ S.getD t 0 ∧ S.getD t 0 < py) ∧ w.heap.size ≤ wr.heap.size) := ⟨z6, z3, hb, hil, by omega, hok, by have := y1.size; have := hb.size; omega⟩
        have hil' : (i : Int) < (mR : Int) := by omega
        have hine : ¬ (i : Int) = (mR : Int) := by omega
        clear z1 z2 z3 z4 z5 z6 z7 hlv hb hi hj y1 y3 y4 y6 y7 y9 y10 rr hpn hk40 hy hh1 hq2 hok HNO
        go_upto_region 20 with ((go_at_call 19; with_reducible refine (SP _).mono ?_; rintro e w6 ⟨rfl, hb6⟩))
        have k1' := (hb6.cell (p := ⟨gR, i * 2, none⟩) (World.block_lt_of_cell? wr _ c1)).trans c1
        have k2' := (hb6.cell (p := ⟨gR, i * 2 + 1, none⟩) (World.block_lt_of_cell? wr _ c2)).trans c2
        go_region_with (go_at_call 19; with_reducible refine (HS _).mono ?_; rintro e w8 ⟨rfl, hb8⟩)
        all_goals
          have b8 : Below wr.heap.size wr w8 := bnext hb6 ⟨hb8.os, hb8.tape, hb8.output, hb8.size, hb8.block⟩
          have m1 := (b8.cell (p := ⟨gR, i * 2, none⟩) (World.block_lt_of_cell? wr _ c1)).trans c1
          have m2' := (b8.cell (p := ⟨gR, i * 2 + 1, none⟩) (World.block_lt_of_cell? wr _ c2)).trans c2
          clear c1 c2 k1' k2' hb6 hb8 HS
          cases ok with
          | false =>
            go_wp2_with (go_at_call 19; with_reducible refine (SP _).mono ?_; rintro e w9 ⟨rfl, hb9⟩)
            go_roundg ((mR - (i + 1)) + (j - j))
            case rel =>
              go_light
              obtain ⟨x1, x2, x3, x4, x5, _⟩ := HX.out
              exact ⟨i + 1, j, y, x4, x5, rfl, rfl, by go_num, rfl, x1, x2, bnext (bnext x3 b8) hb9⟩
            case measure => go_light; have := HX.out.2.2.2.1; omega
          | true =>
            by_cases hpy : py ≤ n
            · have hpy' : (py : Int) ≤ (n : Int) := by omega
              have HH := holds_yes w8 (some ⟨bS, 0, none⟩) bS 0 j capS S px py (rs.below b8) (by omega) (by obtain ⟨t, t1, t2, t3⟩ := HX.out.2.2.2.2.2.1 rfl hpy; exact ⟨t, by omega, t2, t3⟩)
              go_wp2_with (first
                | (go_at_call 24; with_reducible refine HH.mono ?_; rintro e w10 ⟨rfl, hb10⟩; have m3 := (hb10.cell (p := ⟨gR, i * 2, none⟩) (World.block_lt_of_cell? w8 _ m1)).trans m1; have m4 := (hb10.cell (p := ⟨gR, i * 2 + 1, none⟩) (World.block_lt_of_cell? w8 _ m2')).trans m2')
                | (go_at_call 19; with_reducible refine (SP _).mono ?_; rintro e w9 ⟨rfl, hb9⟩))
              go_roundg ((mR - (i + 1)) + (j - j))
              case rel =>
                go_light
                obtain ⟨x1, x2, x3, x4, x5, _⟩ := HX.out
                exact ⟨i + 1, j, y, x4, x5, rfl, rfl, by go_num, rfl, x1, x2, bnext (bnext (bnext x3 b8) hb10) hb9⟩
              case measure => go_light; have := HX.out.2.2.2.1; omega
            · have hpy' : ¬ (py : Int) ≤ (n : Int) := by omega
              go_wp2_with (go_at_call 19; with_reducible refine (SP _).mono ?_; rintro e w9 ⟨rfl, hb9⟩)
              go_roundg ((mR - (i + 1)) + (j - j))
              case rel =>
                go_light
                obtain ⟨x1, x2, x3, x4, x5, _⟩ := HX.out
                exact ⟨i + 1, j, y, x4, x5, rfl, rfl, by go_num, rfl, x1, x2, bnext (bnext x3 b8) hb9⟩
              case measure => go_light; have := HX.out.2.2.2.1; omega
      · obtain rfl : i = mR := by omega
        have hil' : ¬ (i : Int) < (i : Int) := by omega
        have hend := lv_end hlv (by omega) (fun h => by omega)
        have hend' := hend.symm
        subst hend'
        obtain ⟨t, ht⟩ : ∃ t, j / 2 = t := ⟨_, rfl⟩
        have et : (j : Int) / 2 = (t : Int) := by omega
        have et2 : IntKind.i64.wrap (t : Int) = (t : Int) := by rw [IntKind.wrap_i64]; omega
        have et3 : (t : Int) < (j : Int) := by omega
        have et4 : (0 : Int) ≤ (t : Int) := Int.natCast_nonneg _
        have ct := rs.cell t (by omega)
        rw [Nat.zero_add] at ct
        obtain ⟨o, ho⟩ : ∃ o, S.getD t 0 = o := ⟨_, rfl⟩
        have hon := (chain_drop y10 t (by omega)).1
        rw [ho] at ct hon
        have ho1 : IntKind.u64.wrap ((o : Int) + 1) = ((o + 1 : Nat) : Int) := by rw [IntKind.wrap_u64]; omega
        have hco : Chain 0 [o] n := ⟨Nat.zero_le _, hon⟩
        have RA := rest_ok n (wr.alloc (.cells #[.int .u64 (o : Int)] 22)) (some ⟨wr.heap.size, 0, none⟩) wr.heap.size 0 1 1 [o] (rd_one wr o) (by decide) (chain_inc hco (by simp) y7)
        have RB : ∀ w', Calls Try.prog 13 #[.int .u64 0, .int .u64 (o : Int), .int .u64 (n : Int)] w' fun x w'' => ∃ v, x = .returned (.tuple #[v, .int .i64 0]) ∧ OwnB w'' w'.heap.size v (zl (cov 0 o)) ∧ Below w'.heap.size w' w'' := fun w' => range_ok 0 o n w' y7 (by omega) (Nat.zero_le _)
        have RC := fun w' => range_ok (o + 1) n n w' y7 (Nat.le_refl _) (by omega)
        have hle1 := cov_len 0 o (Nat.zero_le _) (by omega)
        have hle2 := cov_len (o + 1) n (by omega) y7
        have er : zl (rst 0 n [o]) = zl (cov 0 o) ++ zl (cov (o + 1) n) := by rw [← zl_app]; rfl
        rw [er] at RA
        have HZ : Hid ((zl (cov 0 o)).length ≤ 80 ∧ (zl (cov (o + 1) n)).length ≤ 80) := ⟨by rw [zl_len]; exact hle1, by rw [zl_len]; exact hle2⟩
        have HB : Hid (Below w.heap.size w wr) := bnext y1 hb
        generalize zl (cov 0 o) = P at *
        generalize zl (cov (o + 1) n) = Q at *
        obtain ⟨o1, hoo⟩ : ∃ o1, o + 1 = o1 := ⟨_, rfl⟩
        rw [hoo] at ho1 RC
        clear er hle1 hle2 hco hon ho hlv hb hi hj y1 y2 y3 y4 y5 y6 y7 y8 y9 y10 y11 rs hpn hend ht HW5 hoo hil hjl
        go_upto_region 31 with (first
          | (go_at_call 14; with_reducible refine RA.mono ?_; rintro e x1 ⟨u1, rfl, p1, hc1⟩)
          | (go_at_call 13; with_reducible refine (RB _).mono ?_; rintro e x2 ⟨u2, rfl, p2, hc2⟩)
          | (go_at_call 13; with_reducible refine (RC _).mono ?_; rintro e x3 ⟨u3, rfl, p3, hc3⟩))
        have s1 := ownB_next (ownB_next p1 hc2) hc3
        have s2 := ownB_next p2 hc3
        have HB3 : Hid (Below w.heap.size w x3) := bnext (bnext (bnext HB.out (below_new hc1)) hc2) hc3
        clear p1 p2 hc1 hc2 hc3 RA RB RC HB
        go_wp2_with (first
          | (go_at_call 16; with_reducible refine (HN _ _).mono ?_; rintro e w9 ⟨rfl, rfl⟩)
          | (at_builtin; refine wpList_free rfl ?_; refine wpList_append_B _ rfl _ _ rfl x3.heap.size (.slice none 0 0) [] rfl (World.ownsRow_nil _ _ _ _) u2 P rfl (rdc_own s2) ?c1 ?c2 ?_))
        case c1 => have := HZ.out; simp; omega
        case c2 => exact Nat.le_refl _
        intro v7 w7 r1 r2 r3
        have hb7 : Below x3.heap.size x3 w7 := (Below.refl _ _).grown r2 (Nat.le_refl _) (fun j hj => by cases hj)
        have q7 := ownB_next p3 hb7
        have hs7 := hb7.size
        clear r2 r3 s2 p3
        go_wp2_with (at_builtin; refine wpList_free rfl ?_; refine wpList_append_B _ rfl _ _ rfl x3.heap.size v7 P rfl r1 u3 Q rfl (rdc_own q7) ?c1 ?c2 ?_)
        case c1 => have := HZ.out; omega
        case c2 => exact hs7
        intro v8 w8 g1 g2 g3
        have hb8 := (ownB_step0 hb7 hs7 r1 g2).1
        have SS := same_own w8 u1 v8 _ _ _ _ (ownB_next s1 hb8) g1
        rw [decide_eq_true rfl] at SS
        clear g1 g2 g3 q7 r1 hb7 hs7 s1
        go_wp2_with (go_at_call 15; with_reducible refine SS.mono ?_; rintro e w9 ⟨rfl, hb9⟩)
        go_ret
        exact ⟨rfl, bnext (bnext HB3.out hb8) hb9⟩
theorem leaves_lawrow (a : Int) (w0 : (Lit.int .u64 a).wf = true) (w : World) (ao : Option Addr) (b off m cap : Nat) (l : List Nat) (r : Rd w ao b off m l) (hm : m ≤ maxLen) (hc : m ≤ cap) (hn : ao = none → cap = 0) :
    Calls Try.prog 6 #[.int .u64 a, .slice ao m cap] w fun e w' => e = .returned (.bool true) ∧ Below w.heap.size w w' := by
  obtain ⟨p, rfl, hp⟩ := u64_nat w0
  exact leaves_walk p hp w ao b off m cap l r hm hc hn
end Go.Proofs.Ytghmodbgfbgclaa
