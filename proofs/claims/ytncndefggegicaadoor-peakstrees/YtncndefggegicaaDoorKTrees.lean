/-
  The walk of PeaksTrees. Own work.
-/
import Derived.Test.YtncndefggegicaaDoorKList
namespace Go.Proofs.YtncndefggegicaaDoor
open Go.RowKit
attribute [local go_sem ↓] Go.wp_at_zero Go.wp_at_succ
/-- A list of numbers that can be read. -/
structure RdZ (w : World) (ao : Option Addr) (b off len : Nat) (l : Nat → Int) : Prop where
  ptr : 0 < len → ao = some ⟨b, off, none⟩
  cell : ∀ j, j < len → w.cell? ⟨b, off + j, none⟩ = some (.int .i64 (l j))
theorem RdZ.next {w W : World} {ao : Option Addr} {b off len : Nat} {l : Nat → Int} (h : RdZ w ao b off len l) (hb : Below w.heap.size w W) : RdZ W ao b off len l :=
  ⟨h.ptr, fun j hj => (hb.cell (p := ⟨b, off + j, none⟩) (World.block_lt_of_cell? _ _ (h.cell j hj))).trans (h.cell j hj)⟩
/-- Two ranges of one list: the first has m items, the second m2. -/
structure TS (w wr : World) (pa : Nat) (va : Value) (pb : Nat) (vb : Value) (K : Int) (M : List ByteArray) (vM : Value) (m m2 : Nat) : Prop where
  ra : Rg wr pa va K m (ol (gN (clk K) M) 41 m)
  rb : Rg wr pb vb K m2 (ol (gN (clk K) M) 41 m2)
  own : OwnS wr w.heap.size vM M
  ha : w.heap.size ≤ pa
  hb : w.heap.size ≤ pb
  ne : pa ≠ pb
  below : Below w.heap.size w wr
  m40 : M.length ≤ 40
  z200 : ∀ s ∈ M, s.size ≤ 200
  tb : Tb wr
section
variable {w wr W : World} {pa pb : Nat} {va vb vM : Value} {K : Int} {M : List ByteArray} {m m2 : Nat}
theorem TS.next (s : TS w wr pa va pb vb K M vM m m2) (hb : Below wr.heap.size wr W) : TS w W pa va pb vb K M vM m m2 :=
  ⟨s.ra.next hb (Nat.le_refl _), s.rb.next hb (Nat.le_refl _), own_next s.own hb (Nat.le_refl _), s.ha, s.hb, s.ne, bnext s.below hb, s.m40, s.z200, s.tb.next hb⟩
theorem TS.didA {j' : Nat} {vm v' : Value} {A P' : List ByteArray} (s : TS w wr pa va pb vb K M vM m m2) (h : Did wr W pa va K j' P' vm A v') (hP : P' = ol (gN (clk K) M) 41 j') : TS w W pa v' pb vb K M vM j' m2 :=
  ⟨hP ▸ h.rg, s.rb.ch s.ra h.ch s.ne.symm, own_ch s.own s.ra h.ch, s.ha, s.hb, s.ne, s.below.trans (h.ch.below.mono s.ha), s.m40, s.z200, s.tb.ch s.ra h.ch⟩
theorem TS.didB {j' : Nat} {vm v' : Value} {A P' : List ByteArray} (s : TS w wr pa va pb vb K M vM m m2) (h : Did wr W pb vb K j' P' vm A v') (hP : P' = ol (gN (clk K) M) 41 j') : TS w W pa va pb v' K M vM m j' :=
  ⟨s.ra.ch s.rb h.ch s.ne, hP ▸ h.rg, own_ch s.own s.rb h.ch, s.ha, s.hb, s.ne, s.below.trans (h.ch.below.mono s.hb), s.m40, s.z200, s.tb.ch s.rb h.ch⟩
theorem TS.size (s : TS w wr pa va pb vb K M vM m m2) : ∀ x ∈ M, x.size ≤ 140737488351232 := fun x hx => Nat.le_trans (s.z200 x hx) (by decide)
theorem TS.list (s : TS w wr pa va pb vb K M vM m m2) (h : 0 < M.length) : ∃ g c, vM = .slice (some ⟨g, 0, none⟩) M.length c ∧ M.length ≤ c := by
  obtain ⟨g, c, h1, _, h2, _⟩ := own_form s.own h
  exact ⟨g, c, h1, h2⟩
end
theorem fe_zero {K : Int} (k1 : 1 ≤ K) (k2 : K ≤ 32) : fe K 0 [] = 0 := by
  rw [fe, if_neg (by omega), if_neg (by omega), if_neg]
  rintro (h | h)
  · exact h (by rw [Pl.ones_zero]; rfl)
  · exact h fun s hs => by cases hs
set_option maxRecDepth 100000 in
set_option maxHeartbeats 2000000 in
theorem trees_walk (w : World) (ht : Tb w) (k : Int) (ao : Option Addr) (b off cap : Nat) (L : List ByteArray) (hr : RdS w ao b off L.length L) (hmx : L.length ≤ 8796093022208) (az : Option Addr) (bz oz nz cz : Nat) (lz : Nat → Int) (hz : RdZ w az bz oz nz lz) :
    Calls Tryd.prog 6 #[.int .i64 k, .slice ao L.length cap, .slice az nz cz] w fun e w' => e = .returned (.bool true) ∧ Below w.heap.size w w' := by
  obtain ⟨K, hK⟩ : ∃ K, stg k = K := ⟨_, rfl⟩
  obtain ⟨k1, k2⟩ := stg_in k
  rw [hK] at k1 k2
  obtain ⟨M, hM⟩ : ∃ M, Hid (fewL L 40 = M) := ⟨_, rfl⟩
  have hM40 : M.length ≤ 40 := by rw [← hM.out, fewL_len]; omega
  have hMz : ∀ s ∈ M, s.size ≤ 200 := by rw [← hM.out]; exact fewL_size
  have HAl : Hid (∀ W, Below w.heap.size w W → Calls Tryd.prog 9 #[] W fun e w' => e = .returned (.bool true) ∧ Below W.heap.size W w') := fun W hb => alive_any W (ht.next hb)
  have HSt : Hid (∀ W, Calls Tryd.prog 10 #[.int .i64 k] W fun e w' => e = .returned (.int .i64 K) ∧ W = w') := fun W => strength_any W k K hK
  have HFw : Hid (∀ W, Below w.heap.size w W → Calls Tryd.prog 20 #[.slice ao L.length cap, .int .i64 40] W fun e w' => ∃ v, e = .returned v ∧ OwnS w' W.heap.size v M ∧ Below W.heap.size W w') := fun W hb => few_any W ao b off cap L (hr.next hb (Nat.le_refl _)) hmx 40 (by decide) M hM
  have HNw : Hid (∀ W, Calls Tryd.prog 18 #[.int .i64 K] W fun e w' => ∃ p v, e = .returned (.tuple #[.pointer (some ⟨p, 0, none⟩), .int .i64 0]) ∧ Rg w' p v K 0 [] ∧ W.heap.size ≤ p ∧ Below W.heap.size W w') := fun W =>
    (knew_any W K 0 (fe_zero k1 k2)).mono fun e w' h => by
      obtain ⟨p, v, h1, h2, h3, _, h5⟩ := h.ok
      exact ⟨p, v, h1, h2, h3, h5⟩
  have HK := hide (And.intro k1 k2)
  have HM : Hid (M.length ≤ 40 ∧ ∀ s ∈ M, s.size ≤ 200) := ⟨hM40, hMz⟩
  have HT := hide ht
  have HZ := hide hz
  have hb0 := Below.refl w.heap.size w
  clear ht hr hmx hM hK k1 k2 hM40 hMz hz
  go_enter Tryd.func6, Tryd.ntmps6
  go_upto_region 6 with (first
    | (go_at_call 9; with_reducible refine (HAl.out _ hb0).mono ?_; rintro e w1 ⟨rfl, hb1⟩; replace hb0 := bnext hb0 hb1; clear hb1)
    | (go_at_call 10; with_reducible refine (HSt.out _).mono ?_; rintro e w2 ⟨rfl, rfl⟩)
    | (go_at_call 20; with_reducible refine (HFw.out _ hb0).mono ?_; rintro e w3 ⟨vM, rfl, oM, hb3⟩; obtain ⟨aoM, cM, rfl⟩ := own_slice oM; replace oM := own_mono oM hb0.size; replace hb0 := bnext hb0 hb3; clear hb3)
    | (go_at_call 18; with_reducible refine (HNw.out _).mono ?_; rintro e w4 ⟨pa, va0, rfl, hR4, hp4, hb4⟩; replace oM := own_next oM hb4 (Nat.le_refl _); replace hp4 := Nat.le_trans hb0.size hp4; replace hb0 := bnext hb0 hb4; clear hb4))
  go_wp2_with (go_at_call 18; with_reducible refine (HNw.out _).mono ?_; rintro e w5 ⟨pb, vb0, rfl, hR5, hp5, hb5⟩)
  have HS0 : Hid (TS w w5 pa va0 pb vb0 K M (.slice aoM M.length cM) 0 0) := by
    have hlt := hR4.lt
    rw [← ol_nil (gN (clk K) M) 41 0 (Nat.zero_mod _)] at hR4 hR5
    have h0 := hb0.size
    exact ⟨hR4.next hb5 (Nat.le_refl _), hR5, own_next oM hb5 (Nat.le_refl _), hp4, Nat.le_trans h0 hp5, by omega, bnext hb0 hb5, HM.out.1, HM.out.2, HT.out.next (bnext hb0 hb5)⟩
  clear hR4 hR5 oM hp4 hp5 hb0 hb5 HAl HSt HFw HNw
  go_loopg [11, 12] M.length (fun g a i wr => ∃ (m ii : Nat) (va vb : Value), m ≤ M.length ∧ ii ≤ m ∧ g = M.length - m ∧ a = .int .i64 (m : Int) ∧ i = .int .i64 (ii : Int) ∧ TS w wr pa va pb vb K M (.slice aoM M.length cM) m m)
  case atStart =>
    go_light
    exact ⟨0, 0, va0, vb0, Nat.zero_le _, Nat.zero_le _, rfl, rfl, rfl, HS0.out⟩
  case round =>
    clear HS0
    obtain ⟨m, ii, va, vb, hm, hii, rfl, rfl, rfl, hS⟩ := hrel
    by_cases hlt : m < M.length
    · have hz1 : (m : Int) < (M.length : Int) := by omega
      have hz0 : (0 : Int) ≤ (m : Int) := Int.natCast_nonneg _
      have hz9 : (m : Int) < 40 := by have := HM.out.1; omega
      have hi9 : (ii : Int) < 40 := by omega
      have hi0 : (0 : Int) ≤ (ii : Int) := Int.natCast_nonneg _
      obtain ⟨gM, cM', hvM, hcM⟩ := hS.list (by omega)
      obtain ⟨rfl, _, rfl⟩ := Value.slice.inj hvM
      clear hvM
      have HS : Hid (TS w wr pa va pb vb K M (.slice (some ⟨gM, 0, none⟩) M.length cM) m m ∧ M.length ≤ cM ∧ m < M.length ∧ M.length ≤ 40 ∧ ii ≤ m) := ⟨hS, hcM, hlt, HM.out.1, hii⟩
      clear hS hcM hm hii hlt
      go_upto_if 50 with (fail)
      go_cut [13, 50] from 51 to 57 (fun y _ wx => ∃ h0 : Nat, y = .int .i64 (h0 : Int) ∧ h0 ≤ 5 ∧ wr = wx)
      case first =>
        by_cases hiz : ii < nz
        · have hiz1 : (ii : Int) < (nz : Int) := by omega
          have hrz := HZ.out.next HS.out.1.below
          obtain rfl := hrz.ptr (by omega)
          have cz := hrz.cell ii hiz
          obtain ⟨z, hzz⟩ : ∃ z, lz ii = z := ⟨_, rfl⟩
          rw [hzz] at cz
          obtain ⟨h0, hh0⟩ : ∃ h0 : Nat, IntKind.u64.wrap z % 6 = (h0 : Int) := ⟨(IntKind.u64.wrap z % 6).toNat, by rw [Int.toNat_of_nonneg (Int.emod_nonneg _ (by decide))]⟩
          have h05 : (h0 : Int) < 6 := by rw [← hh0]; exact Int.emod_lt_of_pos _ (by decide)
          have hn : 0 ≤ IntKind.u64.wrap z := by rw [IntKind.wrap_u64]; omega
          have e1 : Int.tmod (IntKind.u64.wrap z) 6 = (h0 : Int) := by rw [Int.tmod_eq_emod_of_nonneg hn]; exact hh0
          have e2 : IntKind.u64.wrap (h0 : Int) = (h0 : Int) := u64_id _ (by omega) (by omega)
          have e3 : IntKind.i64.wrap (h0 : Int) = (h0 : Int) := by rw [IntKind.wrap_i64]; omega
          clear hrz hzz
          go_wp2
          go_meet
          case rel =>
            go_light
            exact ⟨h0, rfl, by omega, rfl⟩
        · have hiz1 : ¬ ((ii : Int) < (nz : Int)) := by omega
          go_wp2
          go_meet
          case rel =>
            go_light
            exact ⟨0, rfl, by omega, rfl⟩
      case rest =>
        obtain ⟨h0, rfl, hh5, rfl⟩ := hcut
        go_wp2
        go_loopg [13] h0 (fun g y wx => ∃ h : Nat, h ≤ 5 ∧ h = g ∧ y = .int .i64 (h : Int) ∧ wr = wx)
        case atStart =>
          go_light
          exact ⟨h0, hh5, rfl, rfl, rfl⟩
        case round =>
          obtain ⟨h, hh, hg, rfl, rfl⟩ := hrel
          subst hg
          clear hh5
          obtain ⟨q, hq⟩ : ∃ q, 2 ^ h = q := ⟨_, rfl⟩
          have hq32 : q ≤ 32 := by rw [← hq]; exact Nat.pow_le_pow_right (n := 2) (by decide) hh
          have hq1 : 1 ≤ q := by rw [← hq]; exact Nat.two_pow_pos h
          have s0 : (0 : Int) ≤ (h : Int) := Int.natCast_nonneg _
          have s1 : (h : Int) < 64 := by omega
          have s2 : IntKind.u64.wrap (h : Int) = (h : Int) := u64_id _ s0 (by omega)
          have s3 : IntKind.i64.wrap ((2 : Int) ^ h) = (q : Int) := by
            have e : ((2 : Int) ^ h) = (q : Int) := by rw [← hq]; simp
            rw [e, IntKind.wrap_i64]; omega
          have s4 : ¬ ((q : Int) = 0) := by omega
          obtain ⟨t, htq⟩ : ∃ t, m + q = t := ⟨_, rfl⟩
          have s5 : IntKind.i64.wrap ((m : Int) + (q : Int)) = (t : Int) := by rw [IntKind.wrap_i64]; omega
          have s6 : Int.tmod (m : Int) (q : Int) = ((m % q : Nat) : Int) := by rw [Int.tmod_eq_emod_of_nonneg (by omega)]; simp
          have s7 : IntKind.i64.wrap ((m % q : Nat) : Int) = ((m % q : Nat) : Int) := by
            have := Nat.mod_lt m hq1
            rw [IntKind.wrap_i64]; omega
          obtain ⟨rm, hrm⟩ : ∃ rm, m % q = rm := ⟨_, rfl⟩
          rw [hrm] at s6 s7
          by_cases hex : h = 0 ∨ (rm = 0 ∧ t ≤ M.length)
          · have hfin : rm = 0 ∧ t ≤ M.length := by
              rcases hex with h0 | h0
              · subst h0
                obtain rfl : q = 1 := by rw [← hq]
                have := HS.out.2.2.1
                exact ⟨by rw [← hrm, Nat.mod_one], by omega⟩
              · exact h0
            obtain ⟨hr0, htM⟩ := hfin
            subst hr0
            have s9 : ¬ ((M.length : Int) < (t : Int)) := by omega
            have HE : Hid (2 ^ h = q ∧ m % q = 0 ∧ m + q = t ∧ t ≤ M.length ∧ h ≤ 5 ∧ 1 ≤ q ∧ q ≤ 32) := ⟨hq, hrm, htq, htM, hh, hq1, hq32⟩
            clear hex hq hrm htq htM hh hq1 hq32
            go_upto_region 16 with (fail)
            go_cut [77] from 58 to 76 (fun y wx => y = .bool false ∧ wr = wx)
            case first =>
              by_cases h0 : h = 0
              · subst h0
                have p0 : ¬ ((0 : Int) < ((0 : Nat) : Int)) := by omega
                clear s0 s1 s2 s3
                go_wp2
                go_meet
                case rel =>
                  go_light
                  exact ⟨rfl, rfl⟩
              · have p0 : (0 : Int) < (h : Int) := by omega
                clear h0
                go_wp2
                go_meet
                case rel =>
                  go_light
                  exact ⟨rfl, rfl⟩
            case rest =>
              obtain ⟨rfl, rfl⟩ := hcut
              obtain ⟨x1, x2, x3, x4, x5, x6, x7⟩ := HE.out
              obtain ⟨hS, hcM, hlt, hM40, hii⟩ := HS.out
              obtain ⟨y, hy⟩ : ∃ y, m / q = y := ⟨_, rfl⟩
              have hmq : m = 2 ^ h * y := by have := Nat.div_add_mod m q; rw [x1, ← hy]; omega
              obtain ⟨d, hd⟩ : ∃ d, nd (clk K) M h y = d := ⟨_, rfl⟩
              have hyl : (y + 1) * 2 ^ h ≤ M.length := by rw [Nat.add_mul, Nat.mul_comm y, ← hmq, x1]; omega
              have t1 : (m : Int) / 2 ^ h = (y : Int) := by
                have e : ((2 : Int) ^ h) = (q : Int) := by rw [← x1]; simp
                rw [e, ← hy]; simp
              have hym : y ≤ m := by rw [← hy]; exact Nat.div_le_self _ _
              have t2 : IntKind.u64.wrap (y : Int) = (y : Int) := u64_id _ (by omega) (by omega)
              have HTre : Hid (Calls Tryd.prog 21 #[.int .i64 K, .slice (some ⟨gM, 0, none⟩) M.length cM, .agg #[.int .i64 (h : Int), .int .u64 (y : Int)]] wr fun e w' => e = .returned (.tuple #[.string d, .bool true]) ∧ Below wr.heap.size wr w') := by
                obtain ⟨aoo, bo, co, hvo, hro, _, _⟩ := owns_rds hS.own (fun x hx => Nat.le_trans (hS.size x hx) (by decide))
                obtain ⟨e1, _, _⟩ := Value.slice.inj hvo
                have := hro.ptr (by omega)
                rw [← e1] at this hro
                exact tree_yes wr hS.tb K _ bo 0 M.length cM M hro hS.size (by omega) h y (by omega) hyl d hd
              have hDd := did_list HK.out.1 HK.out.2 M h y m hmq (by omega) (by rw [x1]; omega)
              rw [hd, x1, x3] at hDd
              obtain ⟨P1, hP1⟩ : ∃ P1, Hid (ol (gN (clk K) M) 41 t = P1) := ⟨_, rfl⟩
              obtain ⟨A1, hA1⟩ : ∃ A1, an K m (ol (gN (clk K) M) 41 m) (h : Int) d = A1 := ⟨_, rfl⟩
              have HJn : Hid (∀ W, Below wr.heap.size wr W → Calls Tryd.prog 22 #[.pointer (some ⟨pa, 0, none⟩), .int .i64 (h : Int), .string d] W fun e w' => ∃ va', e = .returned (.int .i64 0) ∧ TS w w' pa va' pb vb K M (.slice (some ⟨gM, 0, none⟩) M.length cM) t m) := fun W hb => by
                have s := hS.next hb
                refine (join_any W s.tb pa va K m _ s.ra (h : Int) d 0 t P1 A1 ?_).mono ?_
                · obtain ⟨q1, q2, q3, q4⟩ := hDd.out
                  exact ⟨q1, q2, by rw [q3]; exact hP1.out, hA1⟩
                · rintro e w' ⟨vm, v', rfl, hD⟩
                  exact ⟨v', rfl, s.didA hD hP1.out.symm⟩
              have HQ : Hid (q ≤ 32 ∧ m + q = t ∧ t ≤ M.length ∧ 1 ≤ q ∧ M.length ≤ 40 ∧ ii ≤ m) := ⟨x7, x3, x4, x6, hM40, hii⟩
              clear x1 x2 x3 x4 x5 x6 x7 hS hcM hlt hM40 hii hy hmq hd hyl hym hDd hA1
              go_wp2_with (first
                | (go_at_call 21; with_reducible refine HTre.out.mono ?_; rintro e w6 ⟨rfl, hb6⟩)
                | (go_at_call 22; with_reducible refine (HJn.out _ hb6).mono ?_; rintro e w7 ⟨va', rfl, hS7⟩))
              have HS7 := hide hS7
              clear hS7 hb6 HTre HJn
              go_loopg [16] q (fun g y wx => ∃ (j : Nat) (vb' : Value), j ≤ q ∧ g = q - j ∧ y = .int .i64 (j : Int) ∧ TS w wx pa va' pb vb' K M (.slice (some ⟨gM, 0, none⟩) M.length cM) t (m + j))
              case atStart =>
                go_light
                exact ⟨0, vb, Nat.zero_le _, rfl, rfl, HS7.out⟩
              case round =>
                clear HS7
                obtain ⟨j, vb', hj, rfl, rfl, hS8⟩ := hrel
                by_cases hjq : j < q
                · have v0 : (j : Int) < (q : Int) := by omega
                  have v1 : (0 : Int) ≤ (j : Int) := Int.natCast_nonneg _
                  have v9 : (j : Int) < 32 := by have := HQ.out.1; omega
                  obtain ⟨mj, hmj⟩ : ∃ mj, m + j = mj := ⟨_, rfl⟩
                  rw [hmj] at hS8
                  obtain ⟨z1, z2, z3, z4, z5, z6⟩ := HQ.out
                  have v2 : IntKind.i64.wrap ((m : Int) + (j : Int)) = (mj : Int) := by rw [IntKind.wrap_i64]; omega
                  have v3 : (mj : Int) < (M.length : Int) := by omega
                  have v4 : (0 : Int) ≤ (mj : Int) := Int.natCast_nonneg _
                  obtain ⟨x, hx⟩ : ∃ x, M.getD mj ByteArray.empty = x := ⟨_, rfl⟩
                  have cx := (own_cell hS8.own (j := mj) (by omega)).1
                  rw [hx] at cx
                  obtain ⟨dl, hdl⟩ : ∃ dl, nd (clk K) M 0 mj = dl := ⟨_, rfl⟩
                  have HLf : Hid (Calls Tryd.prog 23 #[.int .i64 K, .string x] wr fun e w' => e = .returned (.string dl) ∧ Below wr.heap.size wr w') := leaf_any wr hS8.tb K x (by have := hS8.size x (by rw [← hx]; exact getD_mem (by omega)); omega) dl (by rw [← hdl, nd, hx])
                  have hDl := did_list HK.out.1 HK.out.2 M 0 mj mj (by rw [Nat.pow_zero, Nat.one_mul]) (by decide) (by show mj + 1 ≤ _; omega)
                  rw [hdl] at hDl
                  obtain ⟨m2, hm2⟩ : ∃ m2, mj + 1 = m2 := ⟨_, rfl⟩
                  obtain ⟨P2, hP2⟩ : ∃ P2, Hid (ol (gN (clk K) M) 41 m2 = P2) := ⟨_, rfl⟩
                  obtain ⟨A2, hA2⟩ : ∃ A2, an K mj (ol (gN (clk K) M) 41 mj) 0 dl = A2 := ⟨_, rfl⟩
                  have HAd : Hid (∀ W, Below wr.heap.size wr W → Calls Tryd.prog 15 #[.pointer (some ⟨pb, 0, none⟩), .string dl] W fun e w' => ∃ vm vb', e = .returned (.tuple #[vm, .int .i64 0]) ∧ TS w w' pa va' pb vb' K M (.slice (some ⟨gM, 0, none⟩) M.length cM) t m2) := fun W hb => by
                    have s := hS8.next hb
                    refine (add_any W s.tb pb vb' K mj _ s.rb dl 0 m2 P2 A2 ?_).mono ?_
                    · obtain ⟨q1, q2, q3, q4⟩ := hDl.out
                      rw [Int.ofNat_zero] at q1 q2 q3 q4
                      exact ⟨q1, by rw [q2]; exact hm2, by rw [q3, ← hP2.out, ← hm2], hA2⟩
                    · rintro e w' ⟨vm, v', rfl, hD⟩
                      exact ⟨vm, v', rfl, s.didB hD hP2.out.symm⟩
                  have HM2 : Hid (m + (j + 1) = m2) := by show _ = _; omega
                  clear hx hdl hDl hm2 hP2 hA2 hmj hS8 z1 z2 z3 z4 z5 z6
                  go_wp2_with (first
                    | (go_at_call 23; with_reducible refine HLf.out.mono ?_; rintro e w8 ⟨rfl, hb8⟩)
                    | (go_at_call 15; with_reducible refine (HAd.out _ hb8).mono ?_; rintro e w9 ⟨vm, vb2, rfl, hS9⟩))
                  have HS9 := hide hS9
                  clear hS9 hb8
                  go_roundg (q - (j + 1))
                  case rel =>
                    go_light
                    exact ⟨j + 1, vb2, by omega, rfl, by go_num, by rw [HM2.out]; exact HS9.out⟩
                  case measure => go_light; omega
                · obtain rfl : j = q := by omega
                  have v0 : ¬ ((j : Int) < (j : Int)) := by omega
                  obtain ⟨z1, z2, z3, z4, z5, z6⟩ := HQ.out
                  rw [z2] at hS8
                  have v2 : IntKind.u64.wrap (t : Int) = (t : Int) := u64_id _ (by omega) (by omega)
                  obtain ⟨r, hr⟩ : ∃ r, Hid (rgD K t (ol (gN (clk K) M) 41 t) = r) := ⟨_, rfl⟩
                  have HC : Hid (∀ W, Below wr.heap.size wr W → TS w W pa va' pb vb' K M (.slice (some ⟨gM, 0, none⟩) M.length cM) t t) := fun W hb => hS8.next hb
                  have HSa : Hid (∀ W, Below wr.heap.size wr W → Calls Tryd.prog 16 #[.pointer (some ⟨pa, 0, none⟩)] W fun e w' => e = .returned (.int .u64 (t : Int)) ∧ Below W.heap.size W w') := fun W hb => size_any W pa va' K t _ (HC.out W hb).ra
                  have HSb : Hid (∀ W, Below wr.heap.size wr W → Calls Tryd.prog 16 #[.pointer (some ⟨pb, 0, none⟩)] W fun e w' => e = .returned (.int .u64 (t : Int)) ∧ Below W.heap.size W w') := fun W hb => size_any W pb vb' K t _ (HC.out W hb).rb
                  have HRa : Hid (∀ W, Below wr.heap.size wr W → Calls Tryd.prog 17 #[.pointer (some ⟨pa, 0, none⟩)] W fun e w' => e = .returned (.agg #[.int .u64 (t : Int), .string r]) ∧ Below W.heap.size W w') := fun W hb => rroot_any W (HC.out W hb).tb pa va' K t _ (HC.out W hb).ra r hr
                  have HRb : Hid (∀ W, Below wr.heap.size wr W → Calls Tryd.prog 17 #[.pointer (some ⟨pb, 0, none⟩)] W fun e w' => e = .returned (.agg #[.int .u64 (t : Int), .string r]) ∧ Below W.heap.size W w') := fun W hb => rroot_any W (HC.out W hb).tb pb vb' K t _ (HC.out W hb).rb r hr
                  have HPa : Hid (∀ W, Below wr.heap.size wr W → Calls Tryd.prog 13 #[.pointer (some ⟨pa, 0, none⟩)] W fun e w' => ∃ u, e = .returned u ∧ OwnS w' W.heap.size u P1 ∧ Below W.heap.size W w') := fun W hb => by
                    have := rpeaks_own W pa va' K t _ (HC.out W hb).ra
                    rw [hP1.out] at this
                    exact this
                  have HPb : Hid (∀ W, Below wr.heap.size wr W → Calls Tryd.prog 13 #[.pointer (some ⟨pb, 0, none⟩)] W fun e w' => ∃ u, e = .returned u ∧ OwnS w' W.heap.size u P1 ∧ Below W.heap.size W w') := fun W hb => by
                    have := rpeaks_own W pb vb' K t _ (HC.out W hb).rb
                    rw [hP1.out] at this
                    exact this
                  have HZP : Hid ((∀ s ∈ P1, s.size ≤ 140737488351232) ∧ P1.length ≤ 8796093022208) := by
                    have h1 := hS8.ra.small
                    have h2 := hS8.ra.short
                    rw [hP1.out] at h1 h2
                    exact ⟨h1, by omega⟩
                  have hb0 := Below.refl wr.heap.size wr
                  have w2 : IntKind.i64.wrap ((ii : Int) + 1) = (ii : Int) + 1 := by rw [IntKind.wrap_i64]; omega
                  clear z1 z2 z3 z4 z5 z6 hS8 hr hP1
                  go_wp2_with (first
                    | (go_at_call 16; with_reducible refine (HSa.out _ hb0).mono ?_; rintro e w8 ⟨rfl, hb8⟩; replace hb0 := bnext hb0 hb8; clear hb8)
                    | (go_at_call 16; with_reducible refine (HSb.out _ hb0).mono ?_; rintro e w8 ⟨rfl, hb8⟩; replace hb0 := bnext hb0 hb8; clear hb8)
                    | (go_at_call 17; with_reducible refine (HRa.out _ hb0).mono ?_; rintro e w8 ⟨rfl, hb8⟩; replace hb0 := bnext hb0 hb8; clear hb8)
                    | (go_at_call 17; with_reducible refine (HRb.out _ hb0).mono ?_; rintro e w8 ⟨rfl, hb8⟩; replace hb0 := bnext hb0 hb8; clear hb8)
                    | (go_at_call 13; with_reducible refine (HPa.out _ hb0).mono ?_; rintro e w8 ⟨ua, rfl, oa, hb8⟩; replace hb0 := bnext hb0 hb8; clear hb8)
                    | (go_at_call 13; with_reducible refine (HPb.out _ hb0).mono ?_; rintro e w9 ⟨ub, rfl, ob, hb9⟩; replace oa := own_next oa hb9 (Nat.le_refl _); replace hb0 := bnext hb0 hb9; clear hb9)
                    | (go_at_call 14; with_reducible refine (same_own _ _ _ _ _ _ oa ob HZP.out.1 HZP.out.2).mono ?_; rintro e w10 ⟨rfl, hb10⟩; replace hb0 := bnext hb0 hb10; clear hb10))
                  have HF := hide (HC.out _ hb0)
                  clear HSa HSb HRa HRb HPa HPb oa ob hb0
                  go_roundg (M.length - t)
                  case rel =>
                    go_light
                    exact ⟨t, ii + 1, va', vb', HQ.out.2.2.1, by have := HQ.out; omega, rfl, rfl, rfl, HF.out⟩
                  case measure => go_light; have := HQ.out; omega
          · have hp : (0 : Int) < (h : Int) := by omega
            obtain ⟨h2, rfl⟩ : ∃ h2, h = h2 + 1 := ⟨h - 1, by omega⟩
            have s8 : IntKind.i64.wrap (h2 : Int) = (h2 : Int) := by rw [IntKind.wrap_i64]; omega
            have HH := hide hh
            clear hq hh htq hrm
            by_cases hr0 : rm = 0
            · subst hr0
              have s9 : (M.length : Int) < (t : Int) := by omega
              clear hex
              go_wp2
              go_roundg h2
              case rel =>
                go_light
                exact ⟨h2, by have := HH.out; omega, rfl, rfl, rfl⟩
              case measure => go_light; omega
            · have s9 : ¬ ((rm : Int) = 0) := by omega
              clear hex hr0
              go_wp2
              go_roundg h2
              case rel =>
                go_light
                exact ⟨h2, by have := HH.out; omega, rfl, rfl, rfl⟩
              case measure => go_light; omega
    · obtain rfl : m = M.length := by omega
      have hz1 : ¬ ((M.length : Int) < (M.length : Int)) := by omega
      have HB := hide hS.below
      clear hS
      go_wp2
      go_ret
      exact ⟨rfl, HB.out⟩
theorem trees_row (w : World) (ht : Tb w) (k : Int) (ao : Option Addr) (b off len cap : Nat) (L : List ByteArray) (hr : RdS w ao b off len L) (hmx : len ≤ 8796093021952) (az : Option Addr) (bz oz nz cz : Nat) (lz : Nat → Int) (hz : RdZ w az bz oz nz lz) :
    Calls Tryd.prog 6 #[.int .i64 k, .slice ao len cap, .slice az nz cz] w fun e w' => e = .returned (.bool true) ∧ Below w.heap.size w w' := by
  obtain rfl := hr.hl
  exact trees_walk w ht k ao b off cap L hr (by omega) az bz oz nz cz lz hz
end Go.Proofs.YtncndefggegicaaDoor
