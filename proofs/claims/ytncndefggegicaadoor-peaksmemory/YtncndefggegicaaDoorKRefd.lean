/-
  The walk of PeaksRefused. Own work.
-/
import Derived.Test.YtncndefggegicaaDoorKOps
import Derived.Test.YtncndefggegicaaDoorPlanU
import Derived.Deep.CutBlock
import Derived.Laws.Bits64b
import Derived.RowKit
namespace Go.Proofs.YtncndefggegicaaDoor
open Go.RowKit
open Pl (ones)
attribute [local go_sem ↓] Go.wp_at_zero Go.wp_at_succ
/-- A box. -/
def Bx (w : World) (g : Nat) (cs : Array Value) (t : Nat) : Prop := w.heap[g]? = some (.cells cs t (0, 0))
theorem Bx.lt {w : World} {g t : Nat} {cs : Array Value} (h : Bx w g cs t) : g < w.heap.size := (Array.getElem?_eq_some_iff.1 h).1
theorem Bx.next {w W : World} {g t : Nat} {cs : Array Value} (h : Bx w g cs t) (hb : Below w.heap.size w W) : Bx W g cs t := by rw [Bx, hb.block g h.lt]; exact h
theorem Bx.ch {w W : World} {g t p : Nat} {cs : Array Value} (h : Bx w g cs t) (hc : Ch p w W) (hne : g ≠ p) : Bx W g cs t := by rw [Bx, hc.block g h.lt hne]; exact h
theorem Bx.cell {w : World} {g t : Nat} {cs : Array Value} (h : Bx w g cs t) (j : Nat) : w.cell? ⟨g, j, none⟩ = cs[j]? := cell_of_row w g j cs t (0, 0) h
theorem bx_new (w : World) (cs : Array Value) (t : Nat) : Bx (w.alloc (.cells cs t)) w.heap.size cs t := heap_alloc_new w _
/-- The lowest one goes. -/
theorem ones_clear : ∀ (k i : Nat), i ≠ 0 → i < 2 ^ k → ones k (i &&& (i - 1)) + 1 = ones k i
  | 0, i, h0, h => by simp at h; omega
  | k + 1, i, h0, h => by
    rw [ones, ones, Nat.and_div_two, Nat.and_mod_two_pow (n := 1)]
    rw [Nat.pow_succ] at h
    by_cases ho : i % 2 = 1
    · have e1 : (i - 1) / 2 = i / 2 := by omega
      have e2 : (i - 1) % 2 ^ 1 = 0 := by omega
      rw [e1, e2, Nat.and_self, Nat.and_zero]
      omega
    · have e1 : (i - 1) / 2 = i / 2 - 1 := by omega
      have e2 : i % 2 ^ 1 = 0 := by omega
      have := ones_clear k (i / 2) (by omega) (by omega)
      rw [e1, e2, Nat.zero_and]
      omega
theorem clear_lt {i : Nat} (h0 : i ≠ 0) : i &&& (i - 1) < i := Nat.lt_of_le_of_lt Nat.and_le_right (by omega)
set_option maxRecDepth 100000 in
set_option maxHeartbeats 2000000 in
theorem refd_walk (w : World) (ht : Tb w) (k : Int) (n0 : Nat) (hn0 : n0 < 18446744073709551616) (a1 : Option Addr) (b1 o1 n1 c1 : Nat) (l1 : Nat → OpV) (hr1 : RdO w a1 b1 o1 n1 l1) :
    Calls Tryd.prog 5 #[.int .i64 k, .int .u64 (n0 : Int), .slice a1 n1 c1] w fun e w' => e = .returned (.bool true) ∧ Below w.heap.size w w' := by
  obtain ⟨K, hK⟩ : ∃ K, stg k = K := ⟨_, rfl⟩
  obtain ⟨k1, k2⟩ := stg_in k
  rw [hK] at k1 k2
  obtain ⟨N, hN⟩ : ∃ N, n0 % 1099511627777 = N := ⟨_, rfl⟩
  have hN40 : N ≤ 1099511627776 := by omega
  have eN : (n0 : Int) % 1099511627777 = (N : Int) := by omega
  have eN2 : Int.tmod (n0 : Int) 1099511627777 = (N : Int) := by rw [Int.tmod_eq_emod_of_nonneg (by omega)]; exact eN
  have eN3 : IntKind.u64.wrap (N : Int) = (N : Int) := u64_id _ (by omega) (by omega)
  obtain ⟨dp, hdp⟩ : ∃ dp, padS ⟨#[112]⟩ K.toNat = dp := ⟨_, rfl⟩
  have hkk : (K.toNat : Int) = K := Int.toNat_of_nonneg (by omega)
  have hcl := clk_of k1 k2
  have zdp : dp.size = clk K := by rw [← hdp, padS_size]; omega
  have HAl : Hid (∀ W, Below w.heap.size w W → Calls Tryd.prog 9 #[] W fun e w' => e = .returned (.bool true) ∧ Below W.heap.size W w') := fun W hb => alive_any W (ht.next hb)
  have HSt : Hid (∀ W, Calls Tryd.prog 10 #[.int .i64 k] W fun e w' => e = .returned (.int .i64 K) ∧ W = w') := fun W => strength_any W k K hK
  have HDp : Hid (∀ W, Calls Tryd.prog 11 #[.string ⟨#[112]⟩, .int .i64 K] W fun e w' => e = .returned (.string dp) ∧ Below W.heap.size W w') := fun W => by
    have := digest_any W ⟨#[112]⟩ (by decide) K.toNat (by omega) dp hdp
    rw [hkk] at this
    exact this
  have HT := hide ht
  have HR1 := hide hr1
  have HK := hide (And.intro k1 k2)
  have HN : Hid (N ≤ 1099511627776 ∧ dp.size = clk K ∧ dp.size ≤ 32) := ⟨hN40, zdp, by have := clk_le K; omega⟩
  have hb0 := Below.refl w.heap.size w
  clear ht hr1 hK k1 k2 hN hN40 hdp hkk hcl zdp hn0
  go_enter Tryd.func5, Tryd.ntmps5
  go_wp2_with (first
    | (go_at_call 9; with_reducible refine (HAl.out _ hb0).mono ?_; rintro e w1 ⟨rfl, hb1⟩; replace hb0 := bnext hb0 hb1; clear hb1)
    | (go_at_call 10; with_reducible refine (HSt.out _).mono ?_; rintro e w2 ⟨rfl, rfl⟩))
  have HB0 := hide hb0
  clear hb0 HAl HSt eN eN2
  go_loopg [7, 8] N (fun g v y wr => ∃ (i a : Nat), i ≤ N ∧ i = g ∧ y = .int .u64 (i : Int) ∧ Hid (a + ones 64 i = ones 64 N ∧ OwnS wr w.heap.size v (List.replicate a dp) ∧ Below w.heap.size w wr))
  case atStart =>
    go_light
    exact ⟨N, 0, Nat.le_refl _, rfl, rfl, ⟨by omega, owns_nil _ _, HB0.out⟩⟩
  case round =>
    clear HB0
    obtain ⟨i, a, hi, hg, rfl, HL⟩ := hrel
    subst hg
    by_cases hi0 : 0 < i
    · have z0 : (0 : Int) < (i : Int) := by omega
      obtain ⟨im, him⟩ : ∃ im, i - 1 = im := ⟨_, rfl⟩
      obtain ⟨i2, hi2⟩ : ∃ i2, i &&& im = i2 := ⟨_, rfl⟩
      have hN40 := HN.out.1
      have e1 : IntKind.u64.wrap ((i : Int) - 1) = (im : Int) := by rw [u64_id _ (by omega) (by omega)]; omega
      have e2 : bits BinOp.and IntKind.u64 (i : Int) (im : Int) = (i2 : Int) := by
        have := bits_and_u64_nat i im (by omega) (by omega)
        rw [hi2] at this
        exact this
      have hlt : i2 < i := by rw [← hi2, ← him]; exact clear_lt (by omega)
      have hon : ones 64 i2 + 1 = ones 64 i := by rw [← hi2, ← him]; exact ones_clear 64 i (by omega) (by omega)
      have HE : Hid (i2 < i ∧ i ≤ N ∧ (a + 1) + ones 64 i2 = ones 64 N ∧ a ≤ 64) := ⟨hlt, hi, by have := HL.out.1; omega, by have := HL.out.1; have := Pl.ones_le 64 N; omega⟩
      clear him hi2 hlt hon hi hi0 hN40
      go_wp2_with (first
        | (go_at_call 11; with_reducible refine (HDp.out _).mono ?_; rintro e w3 ⟨rfl, hb3⟩)
        | (at_builtin; refine wpList_append_S _ rfl _ _ rfl w.heap.size _ (List.replicate a dp) rfl (own_al (own_next HL.out.2.1 hb3 (Nat.le_refl _)) _) (some ⟨w3.heap.size, 0, none⟩) w3.heap.size 0 1 [dp] rfl (rds_one w3 dp (by have := HN.out.2.2; omega)) (fun h => by cases h) ?c1 ?c2 ?_))
      case c1 => have := HE.out.2.2.2; simp; omega
      case c2 => have := (bnext HL.out.2.2 hb3).size; simp; omega
      intro v4 w4 h4 hb4
      have HX : Hid ((a + 1) + ones 64 i2 = ones 64 N ∧ OwnS w4 w.heap.size v4 (List.replicate (a + 1) dp) ∧ Below w.heap.size w w4) := ⟨HE.out.2.2.1, by rw [List.replicate_succ']; exact h4, (bal (bnext HL.out.2.2 hb3) _).trans hb4⟩
      clear h4 hb4 hb3
      go_wp2
      go_roundg i2
      case rel =>
        go_light
        exact ⟨i2, a + 1, by have := HE.out; omega, rfl, rfl, HX⟩
      case measure => go_light; exact HE.out.1
    · obtain rfl : i = 0 := by omega
      have z0 : ¬ ((0 : Int) < ((0 : Nat) : Int)) := by omega
      have ha : a = ones 64 N := by have := HL.out.1; rw [Pl.ones_zero] at this; omega
      obtain ⟨L, hL⟩ : ∃ L, List.replicate a dp = L := ⟨_, rfl⟩
      have hLl : L.length = ones 64 N := by rw [← hL, List.length_replicate]; exact ha
      have hLs : ∀ s ∈ L, s.size = clk K := fun s hs => by rw [← hL] at hs; rw [List.eq_of_mem_replicate hs]; exact HN.out.2.1
      have oL := HL.out.2.1
      rw [hL] at oL
      obtain ⟨aoL, bL, cL, hv, rL, _, nL⟩ := owns_rds oL (fun s hs => by rw [hLs s hs]; have := clk_le K; omega)
      have hfe : fe K N L = 0 := by
        have h1 := HK.out.1
        have h2 := HK.out.2
        have h3 := HN.out.1
        rw [fe, if_neg (by omega), if_neg (by omega), if_neg]
        rintro (e | e)
        · exact e hLl
        · exact e fun s hs => by rw [hLs s hs]; exact clk_of h1 h2
      have HF : Hid (Calls Tryd.prog 12 #[.int .i64 K, .int .u64 (N : Int), .slice aoL L.length cL] wr fun e w' => ∃ p v, e = .returned (.tuple #[.pointer (some ⟨p, 0, none⟩), .int .i64 0]) ∧ Rg w' p v K N L ∧ wr.heap.size ≤ p ∧ Below wr.heap.size wr w') := by
        have h3 := HN.out.1
        have h4 := Pl.ones_le 64 N
        exact (from_any wr K N (by omega) aoL bL 0 cL L rL nL (by omega) 0 hfe).mono fun e w' h => by
          obtain ⟨p, v, h1, h2, h3, _, h5⟩ := h.ok
          exact ⟨p, v, h1, h2, h3, h5⟩
      subst hv
      have HB := hide HL.out.2.2
      clear HL ha hL hLl hLs oL rL nL hfe hi HDp
      go_wp2_with (go_at_call 12; with_reducible refine HF.out.mono ?_; rintro e w5 ⟨p, v0, rfl, hR5, hp5, hb5⟩)
      have HS5 : Hid (Rg w5 p v0 K N L ∧ Below w.heap.size w w5) := ⟨hR5, bnext HB.out hb5⟩
      have HP : Hid (w.heap.size ≤ p) := Nat.le_trans HB.out.size hp5
      clear hR5 hp5 hb5 HF HB
      go_loopg [11] 60 (fun g i wr => ∃ (j : Nat) (v : Value) (n : Nat) (P : List ByteArray), j ≤ n1 ∧ j ≤ 60 ∧ g = 60 - j ∧ i = .int .i64 (j : Int) ∧ Hid (Rg wr p v K n P ∧ Below w.heap.size w wr))
      case atStart =>
        go_light
        exact ⟨0, v0, N, L, Nat.zero_le _, Nat.zero_le _, rfl, rfl, HS5⟩
      case round =>
        clear HS5
        obtain ⟨j, v, n, P, hj, hj2, rfl, rfl, HS⟩ := hrel
        by_cases hlt : j < n1 ∧ j < 60
        · have z1 : (j : Int) < (n1 : Int) := by omega
          have z2 : (j : Int) < 60 := by omega
          have z0 : (0 : Int) ≤ (j : Int) := Int.natCast_nonneg _
          have hr := HR1.out.next HS.out.2
          obtain rfl := hr.ptr (by omega)
          obtain ⟨f0, f1, f2, f3, f4⟩ := hr.five hlt.1 rfl
          have ho := (hr.cell j hlt.1).2.2.2.2.2
          obtain ⟨e0, n', P', A, he⟩ : ∃ e0 n' P' A, Hid (er K n (opH (l1 j)) (opS (l1 j) K) = e0 ∧ nxN K n (opH (l1 j)) (opS (l1 j) K) = n' ∧ nxP K n P (opH (l1 j)) (opS (l1 j) K) = P' ∧ opA K n P (l1 j) = A) := ⟨_, _, _, _, rfl, rfl, rfl, rfl⟩
          have HD : Hid (∀ W, Below wr.heap.size wr W → Calls Tryd.prog 19 #[.pointer (some ⟨p, 0, none⟩), .agg #[.int .i64 (l1 j).kind, .int .i64 (l1 j).which, .int .i64 (l1 j).h, .string (l1 j).s, .bool (l1 j).r], .int .i64 K] W fun e w' => ∃ vm v', e = .returned (.tuple #[vm, .int .i64 (e0 : Int)]) ∧ Did W w' p v K n' P' vm A v') := fun W hb =>
            does_any W (HT.out.next (bnext HS.out.2 hb)) p v K n P (HS.out.1.next hb (Nat.le_refl _)) (l1 j) ho e0 n' P' A he
          have HJ : Hid (j < n1 ∧ j < 60) := hlt
          obtain ⟨rr, hrr⟩ : ∃ rr, Hid (rgD K n P = rr) := ⟨_, rfl⟩
          have HRt : Hid (∀ W, Below wr.heap.size wr W → Calls Tryd.prog 17 #[.pointer (some ⟨p, 0, none⟩)] W fun e w' => e = .returned (.agg #[.int .u64 (n : Int), .string rr]) ∧ Below W.heap.size W w') := fun W hb => rroot_any W (HT.out.next (bnext HS.out.2 hb)) p v K n P (HS.out.1.next hb (Nat.le_refl _)) rr hrr
          have HPk : Hid (∀ W, Below wr.heap.size wr W → Calls Tryd.prog 13 #[.pointer (some ⟨p, 0, none⟩)] W fun e w' => ∃ u, e = .returned u ∧ OwnS w' W.heap.size u P ∧ Below W.heap.size W w') := fun W hb => rpeaks_own W p v K n P (HS.out.1.next hb (Nat.le_refl _))
          have HSz : Hid (∀ W, Below wr.heap.size wr W → Calls Tryd.prog 16 #[.pointer (some ⟨p, 0, none⟩)] W fun e w' => e = .returned (.int .u64 (n : Int)) ∧ Below W.heap.size W w') := fun W hb => size_any W p v K n P (HS.out.1.next hb (Nat.le_refl _))
          obtain ⟨hh, hhh⟩ : ∃ hh, opH (l1 j) = hh := ⟨_, rfl⟩
          obtain ⟨d, hd⟩ : ∃ d, opS (l1 j) K = d := ⟨_, rfl⟩
          rw [hhh, hd] at he
          have HG : Hid ((∀ W, Calls Tryd.prog 11 #[.string (l1 j).s, .int .i64 K] W fun e w' => e = .returned (.string (padS (l1 j).s K.toNat)) ∧ Below W.heap.size W w')) := fun W => by
            have hk1 := HK.out.1
            have hk2 := HK.out.2
            have := digest_any W (l1 j).s ho K.toNat (by omega) _ rfl
            rw [Int.toNat_of_nonneg (by omega)] at this
            exact this
          generalize l1 j = o at *
          obtain ⟨kd, wh, h, s, r⟩ := o
          have HEr := hide he
          have HRr := hrr
          clear he hr ho hlt hrr
          have hb0 := Below.refl wr.heap.size wr
          go_upto_region 18 with (first
            | (go_at_call 13; with_reducible refine (HPk.out _ (bal hb0 _)).mono ?_; rintro e w6 ⟨u, rfl, ou, hb6⟩; obtain ⟨au, cu, rfl⟩ := own_slice ou; have B6 := (bx_new wr #[.int .i64 kd, .int .i64 wh, .int .i64 h, .string s, .bool r] 46).next hb6; replace hb0 := bnext (bal hb0 _) hb6; clear hb6)
            | (go_at_call 17; with_reducible refine (HRt.out _ hb0).mono ?_; rintro e w7 ⟨rfl, hb7⟩; replace ou := own_next ou hb7 (Nat.le_refl _); replace B6 := B6.next hb7; replace hb0 := bnext hb0 hb7; clear hb7)
            | (go_at_call 16; with_reducible refine (HSz.out _ hb0).mono ?_; rintro e w8 ⟨rfl, hb8⟩; replace ou := own_next ou hb8 (Nat.le_refl _); replace B6 := B6.next hb8; replace hb0 := bnext hb0 hb8; clear hb8))
          have R9 := bx_new w8 #[.int .u64 (n : Int), .string rr] 39
          have B9 := B6.next (bal (Below.refl _ _) (.cells #[.int .u64 (n : Int), .string rr] 39))
          have O9 := own_al ou (.cells #[.int .u64 (n : Int), .string rr] 39)
          have b9 := bal hb0 (.cells #[.int .u64 (n : Int), .string rr] 39)
          have hgr : wr.heap.size ≤ w8.heap.size := hb0.size
          generalize w8.alloc (.cells #[.int .u64 (n : Int), .string rr] 39) = w9 at *
          generalize w8.heap.size = gr at *
          generalize hgo : wr.heap.size = go at *
          have HB9 : Hid (∀ W, Below w9.heap.size w9 W → Below wr.heap.size wr W ∧ Bx W go #[.int .i64 kd, .int .i64 wh, .int .i64 h, .string s, .bool r] 46 ∧ Bx W gr #[.int .u64 (n : Int), .string rr] 39 ∧ OwnS W 0 (.slice au P.length cu) P) := fun W hb => ⟨bnext (by rw [hgo]; exact b9) hb, B9.next hb, R9.next hb, own_next (own_mono O9 (Nat.zero_le _)) hb (Nat.le_refl _)⟩
          have y0 : w9.cell? ⟨go, 0, none⟩ = some (.int .i64 kd) := B9.cell 0
          have y2 : w9.cell? ⟨go, 2, none⟩ = some (.int .i64 h) := B9.cell 2
          have y3 : w9.cell? ⟨go, 3, none⟩ = some (.string s) := B9.cell 3
          have y4 : w9.cell? ⟨go, 4, none⟩ = some (.bool r) := B9.cell 4
          have HGo : Hid (p < go ∧ p < gr) := ⟨by rw [← hgo]; exact HS.out.1.lt, Nat.lt_of_lt_of_le HS.out.1.lt (by rw [hgo]; exact hgr)⟩
          have HHd : Hid (opH ⟨kd, wh, h, s, r⟩ = hh ∧ opS ⟨kd, wh, h, s, r⟩ K = d) := ⟨hhh, hd⟩
          clear R9 B9 O9 b9 ou B6 hb0 hgr hhh hd HPk HRt HSz
          go_upto_if 75 with (fail)
          go_cut [16, 75] from 76 to 77 (fun y _ wx => y = .int .i64 hh ∧ w9 = wx)
          case first =>
            by_cases hkd : Int.tmod kd 2 = 0
            · have hz : (Int.tmod kd 2 == 0) = true := by rw [hkd]; rfl
              have HE : Hid (h = hh) := by have := HHd.out.1; simp only [opH, if_pos hkd] at this; exact this
              clear hkd
              go_wp2
              go_meet
              case rel =>
                go_light
                exact ⟨by rw [HE.out], rfl⟩
            · have hz : (Int.tmod kd 2 == 0) = false := by simpa using hkd
              have HE : Hid (0 = hh) := by have := HHd.out.1; simp only [opH, if_neg hkd] at this; exact this
              clear hkd
              go_wp2
              go_meet
              case rel =>
                go_light
                exact ⟨by rw [HE.out], rfl⟩
          case rest =>
            obtain ⟨rfl, rfl⟩ := hcut
            go_upto_if 81 with (fail)
            go_cut [17, 81] from 82 to 84 (fun y _ wx => y = .string d ∧ Hid (Below w9.heap.size w9 wx))
            case first =>
              cases r with
              | true =>
                have HE : Hid (padS s K.toNat = d) := by have := HHd.out.2; simp only [opS, if_true] at this; exact this
                go_wp2_with (go_at_call 11; with_reducible refine (HG.out _).mono ?_; rintro e w10 ⟨rfl, hb10⟩)
                go_meet
                case rel =>
                  go_light
                  exact ⟨by rw [HE.out], hb10⟩
              | false =>
                have HE : Hid (s = d) := by have := HHd.out.2; simp [opS] at this; exact this
                go_wp2
                go_meet
                case rel =>
                  go_light
                  exact ⟨by rw [HE.out], Below.refl _ _⟩
            case rest =>
              obtain ⟨rfl, HB10⟩ := hcut
              obtain ⟨g1, B10, R10, O10⟩ := HB9.out wc HB10.out
              obtain ⟨x1, x2, x3, x4⟩ := HEr.out
              have hn40 := HS.out.1.hn
              clear y0 y2 y3 y4 HG
              go_upto_block 4 with (fail)
              go_cut [18] from 85 to 111 (fun y wx => y = .int .i64 (e0 : Int) ∧ wc = wx)
              case first =>
                clear x2 x3 x4 B10 R10 O10 g1
                by_cases hsz : (d.size : Int) = K
                · subst hsz
                  by_cases h0 : hh < 0
                  · have e00 : e0 = 41 := by rw [← x1, er, if_neg (by omega), if_pos (.inl h0)]
                    have HE := hide e00
                    clear x1 e00 hn40
                    go_wp2
                    go_meet
                    case rel =>
                      go_light
                      exact ⟨by rw [HE.out]; rfl, rfl⟩
                  · by_cases h4 : 40 < hh
                    · have e00 : e0 = 41 := by rw [← x1, er, if_neg (by omega), if_pos (.inr (.inl h4))]
                      have HE := hide e00
                      have h0' : decide (hh < 0) = false := by simp; omega
                      have h4' : decide ((40 : Int) < hh) = true := by simp; omega
                      clear x1 e00 hn40 h0 h4
                      go_wp2
                      go_meet
                      case rel =>
                        go_light
                        exact ⟨by rw [HE.out]; rfl, rfl⟩
                    · obtain ⟨jh, rfl⟩ : ∃ jh : Nat, hh = (jh : Int) := ⟨hh.toNat, by omega⟩
                      have t1 : ¬ ((jh : Int) < 0) := by omega
                      have t2 : ¬ ((40 : Int) < (jh : Int)) := by omega
                      have t3 : (jh : Int) < 64 := by omega
                      have t4 : (0 : Int) ≤ (jh : Int) := by omega
                      have t5 : IntKind.u64.wrap (jh : Int) = (jh : Int) := u64_id _ t4 (by omega)
                      obtain ⟨q, hq⟩ : ∃ q, 2 ^ jh = q := ⟨_, rfl⟩
                      have hq40 : q ≤ 1099511627776 := by rw [← hq]; exact Nat.pow_le_pow_right (n := 2) (by decide) (by omega : jh ≤ 40)
                      have hq1 : 1 ≤ q := by rw [← hq]; exact Nat.two_pow_pos jh
                      have t6 : IntKind.u64.wrap ((2 : Int) ^ jh) = (q : Int) := by
                        have e : ((2 : Int) ^ jh) = (q : Int) := by rw [← hq]; simp
                        rw [e]; exact u64_id _ (by omega) (by omega)
                      have t7 : ¬ ((q : Int) = 0) := by omega
                      obtain ⟨rm, hrm⟩ : ∃ rm, n % q = rm := ⟨_, rfl⟩
                      have t8 : (n : Int) % (q : Int) = (rm : Int) := by rw [← hrm]; simp
                      have t9 : Int.tmod (n : Int) (q : Int) = (rm : Int) := by rw [Int.tmod_eq_emod_of_nonneg (by omega)]; exact t8
                      have hrq : rm < q := by rw [← hrm]; exact Nat.mod_lt _ (by omega)
                      have t10 : IntKind.u64.wrap (rm : Int) = (rm : Int) := u64_id _ (by omega) (by omega)
                      obtain ⟨sm, hsm⟩ : ∃ sm, n + q = sm := ⟨_, rfl⟩
                      have t11 : IntKind.u64.wrap ((n : Int) + (q : Int)) = (sm : Int) := by rw [u64_id _ (by omega) (by omega)]; omega
                      rw [er, if_neg (by omega), Int.toNat_natCast, hq, hrm, hsm] at x1
                      by_cases hr0 : rm = 0
                      · rw [if_neg (by omega)] at x1
                        have t12 : (rm : Int) = 0 := by omega
                        by_cases hs4 : 1099511627776 < sm
                        · rw [if_pos hs4] at x1
                          have t13 : decide ((1099511627776 : Int) < (sm : Int)) = true := by simp; omega
                          have HE := hide x1
                          subst hr0
                          clear x1 hn40 hq hq40 hq1 hrm hrq hsm h0 h4 hs4 t12
                          go_wp2
                          go_meet
                          case rel =>
                            go_light
                            exact ⟨by rw [← HE.out]; rfl, rfl⟩
                        · rw [if_neg hs4] at x1
                          have t13 : decide ((1099511627776 : Int) < (sm : Int)) = false := by simp; omega
                          have HE := hide x1
                          subst hr0
                          clear x1 hn40 hq hq40 hq1 hrm hrq hsm h0 h4 hs4 t12
                          go_wp2
                          go_meet
                          case rel =>
                            go_light
                            exact ⟨by rw [← HE.out]; rfl, rfl⟩
                      · rw [if_pos (.inr (.inr hr0))] at x1
                        have t12 : ¬ ((rm : Int) = 0) := by omega
                        have HE := hide x1
                        clear x1 hn40 hq hq40 hq1 hrm hrq hsm h0 h4 hr0
                        go_wp2
                        go_meet
                        case rel =>
                          go_light
                          exact ⟨by rw [← HE.out]; rfl, rfl⟩
                · have e00 : e0 = 90 := by rw [← x1, er, if_pos (by omega)]
                  have HE := hide e00
                  clear x1 e00 hn40
                  go_wp2
                  go_meet
                  case rel =>
                    go_light
                    exact ⟨by rw [HE.out]; rfl, rfl⟩
              case rest =>
                obtain ⟨rfl, rfl⟩ := hcut
                have y0 : wc.cell? ⟨go, 0, none⟩ = some (.int .i64 kd) := B10.cell 0
                have y1 : wc.cell? ⟨go, 1, none⟩ = some (.int .i64 wh) := B10.cell 1
                have y2 : wc.cell? ⟨go, 2, none⟩ = some (.int .i64 h) := B10.cell 2
                have y3 : wc.cell? ⟨go, 3, none⟩ = some (.string s) := B10.cell 3
                have y4 : wc.cell? ⟨go, 4, none⟩ = some (.bool r) := B10.cell 4
                have hDoes := HD.out wc (by rw [← hgo]; exact g1)
                have HDo := hide hDoes
                have HW : Hid (Rg wc p v K n P ∧ Bx wc gr #[.int .u64 (n : Int), .string rr] 39 ∧ OwnS wc 0 (.slice au P.length cu) P ∧ Below w.heap.size w wc) := ⟨HS.out.1.next g1 (Nat.le_refl _), R10, O10, bnext HS.out.2 g1⟩
                have HX4 : Hid (er K n hh d = e0 ∧ nxN K n hh d = n' ∧ nxP K n P hh d = P' ∧ opA K n P ⟨kd, wh, h, s, r⟩ = A) := ⟨x1, x2, x3, x4⟩
                have HZP : Hid ((∀ s ∈ P, s.size ≤ 9223372036854775807) ∧ P.length ≤ 8796093022208) := ⟨fun s hs => Nat.le_trans (HS.out.1.small s hs) (by decide), by have := HS.out.1.short; omega⟩
                clear hDoes HD B10 R10 O10 g1 x1 x2 x3 x4 hn40 HB9 HB10
                go_upto_region 34 with (go_at_call 19; with_reducible refine HDo.out.mono ?_; rintro e w11 ⟨vm, v', rfl, hD⟩; obtain ⟨am, cm, rfl⟩ := own_slice hD.own)
                have HY : Hid (∀ W, Below w11.heap.size w11 W → (Tb W ∧ Rg W p v' K n' P') ∧ OwnS W 0 (.slice au P.length cu) P ∧ W.cell? ⟨gr, 0, none⟩ = some (.int .u64 (n : Int)) ∧ W.cell? ⟨gr, 1, none⟩ = some (.string rr)) := fun W hb => by
                  have hB := HW.out.2.2.2.trans (hD.ch.below.mono HP.out)
                  have hR := (HW.out.2.1.ch hD.ch (by have := HGo.out; omega)).next hb
                  exact ⟨⟨HT.out.next (bnext hB hb), hD.rg.next hb (Nat.le_refl _)⟩, own_next (own_ch HW.out.2.2.1 HW.out.1 hD.ch) hb (Nat.le_refl _), hR.cell 0, hR.cell 1⟩
                have HXf : Hid (∀ W, Below w11.heap.size w11 W → Rg W p v' K n' P' ∧ Below w.heap.size w W) := fun W hb => ⟨hD.rg.next hb (Nat.le_refl _), bnext (HW.out.2.2.2.trans (hD.ch.below.mono HP.out)) hb⟩
                have HSz2 : Hid (∀ W, (Tb W ∧ Rg W p v' K n' P') → Calls Tryd.prog 16 #[.pointer (some ⟨p, 0, none⟩)] W fun e w' => e = .returned (.int .u64 (n' : Int)) ∧ Below W.heap.size W w') := fun W h => size_any W p v' K n' P' h.2
                clear hD HDo
                by_cases hz : e0 = 0
                · subst hz
                  obtain ⟨x1, x2, x3, x4⟩ := HX4.out
                  obtain ⟨_, p1, p2, _, p3⟩ := er_ok x1
                  obtain ⟨jh, rfl⟩ : ∃ jh : Nat, hh = (jh : Int) := ⟨hh.toNat, by omega⟩
                  rw [nxN, if_pos x1, Int.toNat_natCast] at x2
                  rw [Int.toNat_natCast] at p3
                  have t3 : (jh : Int) < 64 := by omega
                  have t4 : (0 : Int) ≤ (jh : Int) := by omega
                  have t5 : IntKind.u64.wrap (jh : Int) = (jh : Int) := u64_id _ t4 (by omega)
                  obtain ⟨q, hq⟩ : ∃ q, 2 ^ jh = q := ⟨_, rfl⟩
                  rw [hq] at x2 p3
                  have t6 : IntKind.u64.wrap ((2 : Int) ^ jh) = (q : Int) := by
                    have e : ((2 : Int) ^ jh) = (q : Int) := by rw [← hq]; simp
                    rw [e]; exact u64_id _ (by omega) (by omega)
                  have t11 : IntKind.u64.wrap ((n : Int) + (q : Int)) = (n' : Int) := by rw [u64_id _ (by omega) (by omega)]; omega
                  have HK3 := HY
                  clear x1 x2 x3 x4 p1 p2 p3 hq HX4 HHd HEr HZP HW
                  rw [show ((0 : Nat) : Int) = 0 from rfl]
                  refine wp_region_planGU (by kernel_rfl) [122, 123, 124, 125, 126, 127, 128, 129, 130, 131, 132, 133, 134, 135, 136, 137, 138, 139, 140, 141, 142, 143, 144, 145, 146, 147, 148, 149, 150, 151, 152, 153, 154, 155, 156, 157, 158, 159, 160, 161] [.int .i64 0, .bool false, .bool false, undef, undef, undef, undef, undef, undef, undef, undef, undef, undef, undef, undef, undef, undef, undef, undef, undef, undef, undef, undef, undef, undef, .bool false, .bool false, .int .i64 0, .bool true, .bool true, .pointer (some ⟨p, 0, none⟩), .int .u64 (n' : Int), .int .u64 (n : Int), .int .i64 (jh : Int), .int .u64 (jh : Int), .int .u64 (q : Int), .int .u64 (n' : Int), .bool false, .bool false, .bool false] [] (by kernel_rfl) rfl ?step ?fin
                  case fin =>
                    intro f Wc hB hf
                    have HX := HXf.out Wc hB
                    have HX2 := hide HX
                    rw [show mixG [.int .i64 0, .bool false, .bool false, undef, undef, undef, undef, undef, undef, undef, undef, undef, undef, undef, undef, undef, undef, undef, undef, undef, undef, undef, undef, undef, undef, .bool false, .bool false, .int .i64 0, .bool true, .bool true, .pointer (some ⟨p, 0, none⟩), .int .u64 (n' : Int), .int .u64 (n : Int), .int .i64 (jh : Int), .int .u64 (jh : Int), .int .u64 (q : Int), .int .u64 (n' : Int), .bool false, .bool false, .bool false] [] f = [.int .i64 0, .bool false, .bool false, undef, undef, undef, undef, undef, undef, undef, undef, undef, undef, undef, undef, undef, undef, undef, undef, undef, undef, undef, undef, undef, undef, .bool false, .bool false, .int .i64 0, .bool true, .bool true, .pointer (some ⟨p, 0, none⟩), .int .u64 (n' : Int), .int .u64 (n : Int), .int .i64 (jh : Int), .int .u64 (jh : Int), .int .u64 (q : Int), .int .u64 (n' : Int), .bool false, .bool false, .bool false] from rfl]
                    clear hf
                    clear HK3 hB f HSz2 HY HXf HX
                    simp only [puts]
                    go_simp
                    go_wp2
                    go_roundg (60 - (j + 1))
                    case rel =>
                      go_light
                      exact ⟨j + 1, v', n', P', by have := HJ.out; omega, by have := HJ.out; omega, rfl, by go_num, HX2⟩
                    case measure => go_light; have := HJ.out; omega
                  case step =>
                    refine ⟨?_, ?_, ?_, ?_, ?_, ?_, ?_, ?_, ?_, ?_, ?_, ?_, ?_, ?_, ?_, ?_, ?_, ?_, ?_, ?_, ?_, ?_, ?_, ?_, ?_, ?_, ?_, ?_, ?_, ?_, ?_, ?_, ?_, ?_, ?_, ?_, ?_, ?_, ?_, ?_, trivial⟩
                    · intro Ac Wc Kc hB hsm dep hK
                      have t18 : Ac.tmps.getD 18 undef = .int .i64 0 := hsm 18 rfl
                      show Oper.wp _ _ Ac Wc Kc _
                      go_simp
                      exact hK _ _ rfl (Below.refl _ _)
                    · intro Ac Wc Kc hB hsm dep hK
                      have t122 : Ac.tmps.getD 122 undef = .int .i64 0 := dep 0 rfl
                      show Oper.wp _ _ Ac Wc Kc _
                      go_simp
                      exact hK _ _ rfl (Below.refl _ _)
                    · intro Ac Wc Kc hB hsm dep hK
                      have t123 : Ac.tmps.getD 123 undef = .bool false := dep 1 rfl
                      show Oper.wp _ _ Ac Wc Kc _
                      go_simp
                      exact hK _ _ rfl (Below.refl _ _)
                    · intro Ac Wc Kc hB hsm dep hK
                      refine .inl ⟨false, (show Ac.tmps.getD 124 undef = .bool false from dep 2 rfl), ?_⟩
                      rw [if_neg (by decide)]
                      exact hK _ _ rfl (Below.refl _ _)
                    · intro Ac Wc Kc hB hsm dep hK
                      refine .inl ⟨false, (show Ac.tmps.getD 124 undef = .bool false from dep 2 rfl), ?_⟩
                      rw [if_neg (by decide)]
                      exact hK _ _ rfl (Below.refl _ _)
                    · intro Ac Wc Kc hB hsm dep hK
                      refine .inl ⟨false, (show Ac.tmps.getD 124 undef = .bool false from dep 2 rfl), ?_⟩
                      rw [if_neg (by decide)]
                      exact hK _ _ rfl (Below.refl _ _)
                    · intro Ac Wc Kc hB hsm dep hK
                      refine .inl ⟨false, (show Ac.tmps.getD 124 undef = .bool false from dep 2 rfl), ?_⟩
                      rw [if_neg (by decide)]
                      exact hK _ _ rfl (Below.refl _ _)
                    · intro Ac Wc Kc hB hsm dep hK
                      exact .inr ⟨(show Ac.tmps.getD 128 undef = undef from dep 6 rfl), hK _ _ rfl (Below.refl _ _)⟩
                    · intro Ac Wc Kc hB hsm dep hK
                      exact .inr ⟨(show Ac.tmps.getD 128 undef = undef from dep 6 rfl), hK _ _ rfl (Below.refl _ _)⟩
                    · intro Ac Wc Kc hB hsm dep hK
                      exact .inr ⟨(show Ac.tmps.getD 128 undef = undef from dep 6 rfl), hK _ _ rfl (Below.refl _ _)⟩
                    · intro Ac Wc Kc hB hsm dep hK
                      exact .inr ⟨(show Ac.tmps.getD 128 undef = undef from dep 6 rfl), hK _ _ rfl (Below.refl _ _)⟩
                    · intro Ac Wc Kc hB hsm dep hK
                      refine .inl ⟨false, (show Ac.tmps.getD 124 undef = .bool false from dep 2 rfl), ?_⟩
                      rw [if_neg (by decide)]
                      exact hK _ _ rfl (Below.refl _ _)
                    · intro Ac Wc Kc hB hsm dep hK
                      refine .inl ⟨false, (show Ac.tmps.getD 124 undef = .bool false from dep 2 rfl), ?_⟩
                      rw [if_neg (by decide)]
                      exact hK _ _ rfl (Below.refl _ _)
                    · intro Ac Wc Kc hB hsm dep hK
                      exact .inr ⟨(show Ac.tmps.getD 134 undef = undef from dep 12 rfl), hK _ _ rfl (Below.refl _ _)⟩
                    · intro Ac Wc Kc hB hsm dep hK
                      exact .inr ⟨(show Ac.tmps.getD 134 undef = undef from dep 12 rfl), hK _ _ rfl (Below.refl _ _)⟩
                    · intro Ac Wc Kc hB hsm dep hK
                      exact .inr ⟨(show Ac.tmps.getD 134 undef = undef from dep 12 rfl), hK _ _ rfl (Below.refl _ _)⟩
                    · intro Ac Wc Kc hB hsm dep hK
                      exact .inr ⟨(show Ac.tmps.getD 134 undef = undef from dep 12 rfl), hK _ _ rfl (Below.refl _ _)⟩
                    · intro Ac Wc Kc hB hsm dep hK
                      refine .inl ⟨false, (show Ac.tmps.getD 124 undef = .bool false from dep 2 rfl), ?_⟩
                      rw [if_neg (by decide)]
                      exact hK _ _ rfl (Below.refl _ _)
                    · intro Ac Wc Kc hB hsm dep hK
                      refine .inl ⟨false, (show Ac.tmps.getD 124 undef = .bool false from dep 2 rfl), ?_⟩
                      rw [if_neg (by decide)]
                      exact hK _ _ rfl (Below.refl _ _)
                    · intro Ac Wc Kc hB hsm dep hK
                      exact .inr ⟨(show Ac.tmps.getD 140 undef = undef from dep 18 rfl), hK _ _ rfl (Below.refl _ _)⟩
                    · intro Ac Wc Kc hB hsm dep hK
                      exact .inr ⟨(show Ac.tmps.getD 140 undef = undef from dep 18 rfl), hK _ _ rfl (Below.refl _ _)⟩
                    · intro Ac Wc Kc hB hsm dep hK
                      exact .inr ⟨(show Ac.tmps.getD 140 undef = undef from dep 18 rfl), hK _ _ rfl (Below.refl _ _)⟩
                    · intro Ac Wc Kc hB hsm dep hK
                      exact .inr ⟨(show Ac.tmps.getD 140 undef = undef from dep 18 rfl), hK _ _ rfl (Below.refl _ _)⟩
                    · intro Ac Wc Kc hB hsm dep hK
                      exact .inr ⟨(show Ac.tmps.getD 140 undef = undef from dep 18 rfl), hK _ _ rfl (Below.refl _ _)⟩
                    · intro Ac Wc Kc hB hsm dep hK
                      refine .inl ⟨false, (show Ac.tmps.getD 124 undef = .bool false from dep 2 rfl), ?_⟩
                      rw [if_neg (by decide)]
                      exact hK _ _ rfl (Below.refl _ _)
                    · intro Ac Wc Kc hB hsm dep hK
                      have t124 : Ac.tmps.getD 124 undef = .bool false := dep 2 rfl
                      have t146 : Ac.tmps.getD 146 undef = undef := dep 24 rfl
                      show Oper.wp _ _ Ac Wc Kc _
                      go_simp
                      exact hK _ _ rfl (Below.refl _ _)
                    · intro Ac Wc Kc hB hsm dep hK
                      have t147 : Ac.tmps.getD 147 undef = .bool false := dep 25 rfl
                      show Oper.wp _ _ Ac Wc Kc _
                      go_simp
                      exact hK _ _ rfl (Below.refl _ _)
                    · intro Ac Wc Kc hB hsm dep hK
                      have t18 : Ac.tmps.getD 18 undef = .int .i64 0 := hsm 18 rfl
                      refine .inl ⟨false, (show Ac.tmps.getD 148 undef = .bool false from dep 26 rfl), ?_⟩
                      rw [if_pos rfl]
                      go_simp
                      exact hK _ _ rfl (Below.refl _ _)
                    · intro Ac Wc Kc hB hsm dep hK
                      have t149 : Ac.tmps.getD 149 undef = .int .i64 0 := dep 27 rfl
                      refine .inl ⟨false, (show Ac.tmps.getD 148 undef = .bool false from dep 26 rfl), ?_⟩
                      rw [if_pos rfl]
                      go_simp
                      exact hK _ _ rfl (Below.refl _ _)
                    · intro Ac Wc Kc hB hsm dep hK
                      have t150 : Ac.tmps.getD 150 undef = .bool true := dep 28 rfl
                      refine .inl ⟨false, (show Ac.tmps.getD 148 undef = .bool false from dep 26 rfl), ?_⟩
                      rw [if_pos rfl]
                      go_simp
                      exact hK _ _ rfl (Below.refl _ _)
                    · intro Ac Wc Kc hB hsm dep hK
                      have t9 : Ac.tmps.getD 9 undef = .pointer (some ⟨p, 0, none⟩) := hsm 9 rfl
                      refine .inl ⟨true, (show Ac.tmps.getD 151 undef = .bool true from dep 29 rfl), ?_⟩
                      rw [if_pos rfl]
                      go_simp
                      exact hK _ _ rfl (Below.refl _ _)
                    · intro Ac Wc Kc hB hsm dep hK
                      have t152 : Ac.tmps.getD 152 undef = .pointer (some ⟨p, 0, none⟩) := dep 30 rfl
                      refine .inl ⟨true, (show Ac.tmps.getD 151 undef = .bool true from dep 29 rfl), ?_⟩
                      rw [if_pos rfl]
                      go_simp
                      refine (HSz2.out Wc (HK3.out Wc hB).1).mono ?_
                      rintro e w' ⟨rfl, hb⟩
                      exact hK _ _ rfl hb
                    · intro Ac Wc Kc hB hsm dep hK
                      have t15 : Ac.tmps.getD 15 undef = .int .u64 (n : Int) := hsm 15 rfl
                      refine .inl ⟨true, (show Ac.tmps.getD 151 undef = .bool true from dep 29 rfl), ?_⟩
                      rw [if_pos rfl]
                      go_simp
                      exact hK _ _ rfl (Below.refl _ _)
                    · intro Ac Wc Kc hB hsm dep hK
                      have t16 : Ac.tmps.getD 16 undef = .int .i64 (jh : Int) := hsm 16 rfl
                      refine .inl ⟨true, (show Ac.tmps.getD 151 undef = .bool true from dep 29 rfl), ?_⟩
                      rw [if_pos rfl]
                      go_simp
                      exact hK _ _ rfl (Below.refl _ _)
                    · intro Ac Wc Kc hB hsm dep hK
                      have t155 : Ac.tmps.getD 155 undef = .int .i64 (jh : Int) := dep 33 rfl
                      refine .inl ⟨true, (show Ac.tmps.getD 151 undef = .bool true from dep 29 rfl), ?_⟩
                      rw [if_pos rfl]
                      go_simp
                      exact hK _ _ rfl (Below.refl _ _)
                    · intro Ac Wc Kc hB hsm dep hK
                      have t156 : Ac.tmps.getD 156 undef = .int .u64 (jh : Int) := dep 34 rfl
                      refine .inl ⟨true, (show Ac.tmps.getD 151 undef = .bool true from dep 29 rfl), ?_⟩
                      rw [if_pos rfl]
                      go_simp
                      exact hK _ _ rfl (Below.refl _ _)
                    · intro Ac Wc Kc hB hsm dep hK
                      have t154 : Ac.tmps.getD 154 undef = .int .u64 (n : Int) := dep 32 rfl
                      have t157 : Ac.tmps.getD 157 undef = .int .u64 (q : Int) := dep 35 rfl
                      refine .inl ⟨true, (show Ac.tmps.getD 151 undef = .bool true from dep 29 rfl), ?_⟩
                      rw [if_pos rfl]
                      go_simp
                      exact hK _ _ rfl (Below.refl _ _)
                    · intro Ac Wc Kc hB hsm dep hK
                      have t153 : Ac.tmps.getD 153 undef = .int .u64 (n' : Int) := dep 31 rfl
                      have t158 : Ac.tmps.getD 158 undef = .int .u64 (n' : Int) := dep 36 rfl
                      refine .inl ⟨true, (show Ac.tmps.getD 151 undef = .bool true from dep 29 rfl), ?_⟩
                      rw [if_pos rfl]
                      go_simp
                      exact hK _ _ rfl (Below.refl _ _)
                    · intro Ac Wc Kc hB hsm dep hK
                      have t151 : Ac.tmps.getD 151 undef = .bool true := dep 29 rfl
                      have t159 : Ac.tmps.getD 159 undef = .bool false := dep 37 rfl
                      refine .inl ⟨false, (show Ac.tmps.getD 148 undef = .bool false from dep 26 rfl), ?_⟩
                      rw [if_pos rfl]
                      go_simp
                      exact hK _ _ rfl (Below.refl _ _)
                    · intro Ac Wc Kc hB hsm dep hK
                      have t148 : Ac.tmps.getD 148 undef = .bool false := dep 26 rfl
                      have t160 : Ac.tmps.getD 160 undef = .bool false := dep 38 rfl
                      show Oper.wp _ _ Ac Wc Kc _
                      go_simp
                      exact hK _ _ rfl (Below.refl _ _)
                · obtain ⟨x1, x2, x3, x4⟩ := HX4.out
                  have hne : er K n hh d ≠ 0 := by rw [x1]; exact hz
                  rw [nxN, if_neg hne] at x2
                  rw [nxP, if_neg hne] at x3
                  have hA : A = [] := by
                    rw [← x4, opA]
                    split
                    · rfl
                    · rw [HHd.out.1, HHd.out.2, an, if_neg hne]
                  subst x2 x3 hA
                  have ez : ¬ ((e0 : Int) = 0) := by omega
                  have ez1 : ((e0 : Int) != 0) = true := by simpa using ez
                  have ez2 : ((e0 : Int) == 0) = false := by simpa using ez
                  have HRt2 : Hid (∀ W, (Tb W ∧ Rg W p v' K n P) → Calls Tryd.prog 17 #[.pointer (some ⟨p, 0, none⟩)] W fun e w' => e = .returned (.agg #[.int .u64 (n : Int), .string rr]) ∧ Below W.heap.size W w') := fun W h => rroot_any W h.1 p v' K n P h.2 rr HRr
                  have HPk2 : Hid (∀ W, (Tb W ∧ Rg W p v' K n P) → Calls Tryd.prog 13 #[.pointer (some ⟨p, 0, none⟩)] W fun e w' => ∃ u, e = .returned u ∧ OwnS w' W.heap.size u P ∧ Below W.heap.size W w') := fun W h => rpeaks_own W p v' K n P h.2
                  have HSm : Hid (∀ W, OwnS W 0 (.slice au P.length cu) P → ∀ ao b c, RdS W ao b 0 P.length P → Calls Tryd.prog 14 #[.slice ao P.length c, .slice au P.length cu] W fun e w' => e = .returned (.bool true) ∧ Below W.heap.size W w') := fun W h ao b c hr => by
                    obtain ⟨ao2, b2, c2, hv2, r2, _, _⟩ := owns_rds h HZP.out.1
                    obtain ⟨e1, _, e3⟩ := Value.slice.inj hv2
                    rw [e1, e3]
                    exact same_any W ao b 0 P.length c P hr ao2 b2 0 c2 r2 HZP.out.2
                  have HK3 := HY
                  clear x1 x4 hne hz HX4 HHd HEr HW HRr
                  refine wp_region_planGU (by kernel_rfl) [122, 123, 124, 125, 126, 127, 128, 129, 130, 131, 132, 133, 134, 135, 136, 137, 138, 139, 140, 141, 142, 143, 144, 145, 146, 147, 148, 149, 150, 151, 152, 153, 154, 155, 156, 157, 158, 159, 160, 161] [.int .i64 (e0 : Int), .bool true, .bool true, .slice am 0 cm, .int .i64 0, .bool false, .bool false, .pointer (some ⟨p, 0, none⟩), .int .u64 (n : Int), .int .u64 (n : Int), .bool false, .bool false, .bool false, .pointer (some ⟨p, 0, none⟩), .agg #[.int .u64 (n : Int), .string rr], .agg #[.int .u64 (n : Int), .string rr], .bool false, .bool false, .bool false, .pointer (some ⟨p, 0, none⟩), undef, .slice au P.length cu, .bool true, .bool false, .bool false, .bool false, .bool false, .int .i64 (e0 : Int), .bool false, .bool false, undef, undef, undef, undef, undef, undef, undef, undef, .bool false, .bool false] [(20, P)] (by kernel_rfl) rfl ?step ?fin
                  case fin =>
                    intro f Wc hB hf
                    have HX := HXf.out Wc hB
                    have HX2 := hide HX
                    rw [show mixG [.int .i64 (e0 : Int), .bool true, .bool true, .slice am 0 cm, .int .i64 0, .bool false, .bool false, .pointer (some ⟨p, 0, none⟩), .int .u64 (n : Int), .int .u64 (n : Int), .bool false, .bool false, .bool false, .pointer (some ⟨p, 0, none⟩), .agg #[.int .u64 (n : Int), .string rr], .agg #[.int .u64 (n : Int), .string rr], .bool false, .bool false, .bool false, .pointer (some ⟨p, 0, none⟩), undef, .slice au P.length cu, .bool true, .bool false, .bool false, .bool false, .bool false, .int .i64 (e0 : Int), .bool false, .bool false, undef, undef, undef, undef, undef, undef, undef, undef, .bool false, .bool false] [(20, P)] f = [.int .i64 (e0 : Int), .bool true, .bool true, .slice am 0 cm, .int .i64 0, .bool false, .bool false, .pointer (some ⟨p, 0, none⟩), .int .u64 (n : Int), .int .u64 (n : Int), .bool false, .bool false, .bool false, .pointer (some ⟨p, 0, none⟩), .agg #[.int .u64 (n : Int), .string rr], .agg #[.int .u64 (n : Int), .string rr], .bool false, .bool false, .bool false, .pointer (some ⟨p, 0, none⟩), f 20, .slice au P.length cu, .bool true, .bool false, .bool false, .bool false, .bool false, .int .i64 (e0 : Int), .bool false, .bool false, undef, undef, undef, undef, undef, undef, undef, undef, .bool false, .bool false] from rfl]
                    generalize f 20 = x20
                    clear hf
                    clear HK3 hB f HSz2 HY HXf HX HRt2 HPk2 HSm HZP
                    simp only [puts]
                    go_simp
                    go_wp2
                    go_roundg (60 - (j + 1))
                    case rel =>
                      go_light
                      exact ⟨j + 1, v', n, P, by have := HJ.out; omega, by have := HJ.out; omega, rfl, by go_num, HX2⟩
                    case measure => go_light; have := HJ.out; omega
                  case step =>
                    refine ⟨?_, ?_, ?_, ?_, ?_, ?_, ?_, ?_, ?_, ?_, ?_, ?_, ?_, ?_, ?_, ?_, ?_, ?_, ?_, ?_, ?_, ?_, ?_, ?_, ?_, ?_, ?_, ?_, ?_, ?_, ?_, ?_, ?_, ?_, ?_, ?_, ?_, ?_, ?_, ?_, trivial⟩
                    · intro Ac Wc Kc hB hsm dep hK
                      have t18 : Ac.tmps.getD 18 undef = .int .i64 (e0 : Int) := hsm 18 rfl
                      show Oper.wp _ _ Ac Wc Kc _
                      go_simp
                      exact hK _ _ rfl (Below.refl _ _)
                    · intro Ac Wc Kc hB hsm dep hK
                      have t122 : Ac.tmps.getD 122 undef = .int .i64 (e0 : Int) := dep 0 rfl
                      show Oper.wp _ _ Ac Wc Kc _
                      go_simp
                      exact hK _ _ rfl (Below.refl _ _)
                    · intro Ac Wc Kc hB hsm dep hK
                      have t123 : Ac.tmps.getD 123 undef = .bool true := dep 1 rfl
                      show Oper.wp _ _ Ac Wc Kc _
                      go_simp
                      exact hK _ _ rfl (Below.refl _ _)
                    · intro Ac Wc Kc hB hsm dep hK
                      have t19 : Ac.tmps.getD 19 undef = .slice am 0 cm := hsm 19 rfl
                      refine .inl ⟨true, (show Ac.tmps.getD 124 undef = .bool true from dep 2 rfl), ?_⟩
                      rw [if_pos rfl]
                      go_simp
                      exact hK _ _ rfl (Below.refl _ _)
                    · intro Ac Wc Kc hB hsm dep hK
                      have t125 : Ac.tmps.getD 125 undef = .slice am 0 cm := dep 3 rfl
                      refine .inl ⟨true, (show Ac.tmps.getD 124 undef = .bool true from dep 2 rfl), ?_⟩
                      rw [if_pos rfl]
                      go_simp
                      exact hK _ _ rfl (Below.refl _ _)
                    · intro Ac Wc Kc hB hsm dep hK
                      have t126 : Ac.tmps.getD 126 undef = .int .i64 0 := dep 4 rfl
                      refine .inl ⟨true, (show Ac.tmps.getD 124 undef = .bool true from dep 2 rfl), ?_⟩
                      rw [if_pos rfl]
                      go_simp
                      exact hK _ _ rfl (Below.refl _ _)
                    · intro Ac Wc Kc hB hsm dep hK
                      have t127 : Ac.tmps.getD 127 undef = .bool false := dep 5 rfl
                      refine .inl ⟨true, (show Ac.tmps.getD 124 undef = .bool true from dep 2 rfl), ?_⟩
                      rw [if_pos rfl]
                      go_simp
                      exact hK _ _ rfl (Below.refl _ _)
                    · intro Ac Wc Kc hB hsm dep hK
                      have t9 : Ac.tmps.getD 9 undef = .pointer (some ⟨p, 0, none⟩) := hsm 9 rfl
                      refine .inl ⟨false, (show Ac.tmps.getD 128 undef = .bool false from dep 6 rfl), ?_⟩
                      rw [if_pos rfl]
                      go_simp
                      exact hK _ _ rfl (Below.refl _ _)
                    · intro Ac Wc Kc hB hsm dep hK
                      have t129 : Ac.tmps.getD 129 undef = .pointer (some ⟨p, 0, none⟩) := dep 7 rfl
                      refine .inl ⟨false, (show Ac.tmps.getD 128 undef = .bool false from dep 6 rfl), ?_⟩
                      rw [if_pos rfl]
                      go_simp
                      refine (HSz2.out Wc (HK3.out Wc hB).1).mono ?_
                      rintro e w' ⟨rfl, hb⟩
                      exact hK _ _ rfl hb
                    · intro Ac Wc Kc hB hsm dep hK
                      have t15 : Ac.tmps.getD 15 undef = .int .u64 (n : Int) := hsm 15 rfl
                      refine .inl ⟨false, (show Ac.tmps.getD 128 undef = .bool false from dep 6 rfl), ?_⟩
                      rw [if_pos rfl]
                      go_simp
                      exact hK _ _ rfl (Below.refl _ _)
                    · intro Ac Wc Kc hB hsm dep hK
                      have t130 : Ac.tmps.getD 130 undef = .int .u64 (n : Int) := dep 8 rfl
                      have t131 : Ac.tmps.getD 131 undef = .int .u64 (n : Int) := dep 9 rfl
                      refine .inl ⟨false, (show Ac.tmps.getD 128 undef = .bool false from dep 6 rfl), ?_⟩
                      rw [if_pos rfl]
                      go_simp
                      exact hK _ _ rfl (Below.refl _ _)
                    · intro Ac Wc Kc hB hsm dep hK
                      have t128 : Ac.tmps.getD 128 undef = .bool false := dep 6 rfl
                      have t132 : Ac.tmps.getD 132 undef = .bool false := dep 10 rfl
                      refine .inl ⟨true, (show Ac.tmps.getD 124 undef = .bool true from dep 2 rfl), ?_⟩
                      rw [if_pos rfl]
                      go_simp
                      exact hK _ _ rfl (Below.refl _ _)
                    · intro Ac Wc Kc hB hsm dep hK
                      have t133 : Ac.tmps.getD 133 undef = .bool false := dep 11 rfl
                      refine .inl ⟨true, (show Ac.tmps.getD 124 undef = .bool true from dep 2 rfl), ?_⟩
                      rw [if_pos rfl]
                      go_simp
                      exact hK _ _ rfl (Below.refl _ _)
                    · intro Ac Wc Kc hB hsm dep hK
                      have t9 : Ac.tmps.getD 9 undef = .pointer (some ⟨p, 0, none⟩) := hsm 9 rfl
                      refine .inl ⟨false, (show Ac.tmps.getD 134 undef = .bool false from dep 12 rfl), ?_⟩
                      rw [if_pos rfl]
                      go_simp
                      exact hK _ _ rfl (Below.refl _ _)
                    · intro Ac Wc Kc hB hsm dep hK
                      have t135 : Ac.tmps.getD 135 undef = .pointer (some ⟨p, 0, none⟩) := dep 13 rfl
                      refine .inl ⟨false, (show Ac.tmps.getD 134 undef = .bool false from dep 12 rfl), ?_⟩
                      rw [if_pos rfl]
                      go_simp
                      refine (HRt2.out Wc (HK3.out Wc hB).1).mono ?_
                      rintro e w' ⟨rfl, hb⟩
                      exact hK _ _ rfl hb
                    · intro Ac Wc Kc hB hsm dep hK
                      have t14 : Ac.tmps.getD 14 undef = .pointer (some ⟨gr, 0, none⟩) := hsm 14 rfl
                      refine .inl ⟨false, (show Ac.tmps.getD 134 undef = .bool false from dep 12 rfl), ?_⟩
                      rw [if_pos rfl]
                      have c0 := (HK3.out Wc hB).2.2.1
                      have c1 := (HK3.out Wc hB).2.2.2
                      go_simp
                      exact hK _ _ rfl (Below.refl _ _)
                    · intro Ac Wc Kc hB hsm dep hK
                      have t136 : Ac.tmps.getD 136 undef = .agg #[.int .u64 (n : Int), .string rr] := dep 14 rfl
                      have t137 : Ac.tmps.getD 137 undef = .agg #[.int .u64 (n : Int), .string rr] := dep 15 rfl
                      refine .inl ⟨false, (show Ac.tmps.getD 134 undef = .bool false from dep 12 rfl), ?_⟩
                      rw [if_pos rfl]
                      go_simp
                      exact hK _ _ rfl (Below.refl _ _)
                    · intro Ac Wc Kc hB hsm dep hK
                      have t134 : Ac.tmps.getD 134 undef = .bool false := dep 12 rfl
                      have t138 : Ac.tmps.getD 138 undef = .bool false := dep 16 rfl
                      refine .inl ⟨true, (show Ac.tmps.getD 124 undef = .bool true from dep 2 rfl), ?_⟩
                      rw [if_pos rfl]
                      go_simp
                      exact hK _ _ rfl (Below.refl _ _)
                    · intro Ac Wc Kc hB hsm dep hK
                      have t139 : Ac.tmps.getD 139 undef = .bool false := dep 17 rfl
                      refine .inl ⟨true, (show Ac.tmps.getD 124 undef = .bool true from dep 2 rfl), ?_⟩
                      rw [if_pos rfl]
                      go_simp
                      exact hK _ _ rfl (Below.refl _ _)
                    · intro Ac Wc Kc hB hsm dep hK
                      have t9 : Ac.tmps.getD 9 undef = .pointer (some ⟨p, 0, none⟩) := hsm 9 rfl
                      refine .inl ⟨false, (show Ac.tmps.getD 140 undef = .bool false from dep 18 rfl), ?_⟩
                      rw [if_pos rfl]
                      go_simp
                      exact hK _ _ rfl (Below.refl _ _)
                    · intro Ac Wc Kc hB hsm dep hK
                      have t141 : Ac.tmps.getD 141 undef = .pointer (some ⟨p, 0, none⟩) := dep 19 rfl
                      refine .inl ⟨false, (show Ac.tmps.getD 140 undef = .bool false from dep 18 rfl), ?_⟩
                      rw [if_pos rfl]
                      go_simp
                      refine (HPk2.out Wc (HK3.out Wc hB).1).mono ?_
                      rintro e w' ⟨v, rfl, ho, hb⟩
                      exact hK _ _ (rdl_own ho HZP.out.1) hb
                    · intro Ac Wc Kc hB hsm dep hK
                      have t13 : Ac.tmps.getD 13 undef = .slice au P.length cu := hsm 13 rfl
                      refine .inl ⟨false, (show Ac.tmps.getD 140 undef = .bool false from dep 18 rfl), ?_⟩
                      rw [if_pos rfl]
                      go_simp
                      exact hK _ _ rfl (Below.refl _ _)
                    · intro Ac Wc Kc hB hsm dep hK
                      obtain ⟨ao142, b142, c142, t142, r142⟩ := (show RdL Wc (Ac.tmps.getD 142 undef) P from dep 20 rfl)
                      have t143 : Ac.tmps.getD 143 undef = .slice au P.length cu := dep 21 rfl
                      refine .inl ⟨false, (show Ac.tmps.getD 140 undef = .bool false from dep 18 rfl), ?_⟩
                      rw [if_pos rfl]
                      go_simp
                      refine (HSm.out Wc (HK3.out Wc hB).2.1 _ _ _ r142).mono ?_
                      rintro e w' ⟨rfl, hb⟩
                      exact hK _ _ rfl hb
                    · intro Ac Wc Kc hB hsm dep hK
                      have t144 : Ac.tmps.getD 144 undef = .bool true := dep 22 rfl
                      refine .inl ⟨false, (show Ac.tmps.getD 140 undef = .bool false from dep 18 rfl), ?_⟩
                      rw [if_pos rfl]
                      go_simp
                      exact hK _ _ rfl (Below.refl _ _)
                    · intro Ac Wc Kc hB hsm dep hK
                      have t140 : Ac.tmps.getD 140 undef = .bool false := dep 18 rfl
                      have t145 : Ac.tmps.getD 145 undef = .bool false := dep 23 rfl
                      refine .inl ⟨true, (show Ac.tmps.getD 124 undef = .bool true from dep 2 rfl), ?_⟩
                      rw [if_pos rfl]
                      go_simp
                      exact hK _ _ rfl (Below.refl _ _)
                    · intro Ac Wc Kc hB hsm dep hK
                      have t124 : Ac.tmps.getD 124 undef = .bool true := dep 2 rfl
                      have t146 : Ac.tmps.getD 146 undef = .bool false := dep 24 rfl
                      show Oper.wp _ _ Ac Wc Kc _
                      go_simp
                      exact hK _ _ rfl (Below.refl _ _)
                    · intro Ac Wc Kc hB hsm dep hK
                      have t147 : Ac.tmps.getD 147 undef = .bool false := dep 25 rfl
                      show Oper.wp _ _ Ac Wc Kc _
                      go_simp
                      exact hK _ _ rfl (Below.refl _ _)
                    · intro Ac Wc Kc hB hsm dep hK
                      have t18 : Ac.tmps.getD 18 undef = .int .i64 (e0 : Int) := hsm 18 rfl
                      refine .inl ⟨false, (show Ac.tmps.getD 148 undef = .bool false from dep 26 rfl), ?_⟩
                      rw [if_pos rfl]
                      go_simp
                      exact hK _ _ rfl (Below.refl _ _)
                    · intro Ac Wc Kc hB hsm dep hK
                      have t149 : Ac.tmps.getD 149 undef = .int .i64 (e0 : Int) := dep 27 rfl
                      refine .inl ⟨false, (show Ac.tmps.getD 148 undef = .bool false from dep 26 rfl), ?_⟩
                      rw [if_pos rfl]
                      go_simp
                      exact hK _ _ rfl (Below.refl _ _)
                    · intro Ac Wc Kc hB hsm dep hK
                      have t150 : Ac.tmps.getD 150 undef = .bool false := dep 28 rfl
                      refine .inl ⟨false, (show Ac.tmps.getD 148 undef = .bool false from dep 26 rfl), ?_⟩
                      rw [if_pos rfl]
                      go_simp
                      exact hK _ _ rfl (Below.refl _ _)
                    · intro Ac Wc Kc hB hsm dep hK
                      refine .inl ⟨false, (show Ac.tmps.getD 151 undef = .bool false from dep 29 rfl), ?_⟩
                      rw [if_neg (by decide)]
                      exact hK _ _ rfl (Below.refl _ _)
                    · intro Ac Wc Kc hB hsm dep hK
                      refine .inl ⟨false, (show Ac.tmps.getD 151 undef = .bool false from dep 29 rfl), ?_⟩
                      rw [if_neg (by decide)]
                      exact hK _ _ rfl (Below.refl _ _)
                    · intro Ac Wc Kc hB hsm dep hK
                      refine .inl ⟨false, (show Ac.tmps.getD 151 undef = .bool false from dep 29 rfl), ?_⟩
                      rw [if_neg (by decide)]
                      exact hK _ _ rfl (Below.refl _ _)
                    · intro Ac Wc Kc hB hsm dep hK
                      refine .inl ⟨false, (show Ac.tmps.getD 151 undef = .bool false from dep 29 rfl), ?_⟩
                      rw [if_neg (by decide)]
                      exact hK _ _ rfl (Below.refl _ _)
                    · intro Ac Wc Kc hB hsm dep hK
                      refine .inl ⟨false, (show Ac.tmps.getD 151 undef = .bool false from dep 29 rfl), ?_⟩
                      rw [if_neg (by decide)]
                      exact hK _ _ rfl (Below.refl _ _)
                    · intro Ac Wc Kc hB hsm dep hK
                      refine .inl ⟨false, (show Ac.tmps.getD 151 undef = .bool false from dep 29 rfl), ?_⟩
                      rw [if_neg (by decide)]
                      exact hK _ _ rfl (Below.refl _ _)
                    · intro Ac Wc Kc hB hsm dep hK
                      refine .inl ⟨false, (show Ac.tmps.getD 151 undef = .bool false from dep 29 rfl), ?_⟩
                      rw [if_neg (by decide)]
                      exact hK _ _ rfl (Below.refl _ _)
                    · intro Ac Wc Kc hB hsm dep hK
                      refine .inl ⟨false, (show Ac.tmps.getD 151 undef = .bool false from dep 29 rfl), ?_⟩
                      rw [if_neg (by decide)]
                      exact hK _ _ rfl (Below.refl _ _)
                    · intro Ac Wc Kc hB hsm dep hK
                      have t151 : Ac.tmps.getD 151 undef = .bool false := dep 29 rfl
                      have t159 : Ac.tmps.getD 159 undef = undef := dep 37 rfl
                      refine .inl ⟨false, (show Ac.tmps.getD 148 undef = .bool false from dep 26 rfl), ?_⟩
                      rw [if_pos rfl]
                      go_simp
                      exact hK _ _ rfl (Below.refl _ _)
                    · intro Ac Wc Kc hB hsm dep hK
                      have t148 : Ac.tmps.getD 148 undef = .bool false := dep 26 rfl
                      have t160 : Ac.tmps.getD 160 undef = .bool false := dep 38 rfl
                      show Oper.wp _ _ Ac Wc Kc _
                      go_simp
                      exact hK _ _ rfl (Below.refl _ _)
        · go_upto_region 14 with (fail)
          go_cut [59] from 52 to 58 (fun y wx => y = .bool false ∧ wr = wx)
          case first =>
            by_cases h1 : j < n1
            · have z1 : (j : Int) < (n1 : Int) := by omega
              have z2 : ¬ ((j : Int) < 60) := by omega
              clear h1 hlt
              go_wp2
              go_meet
              case rel =>
                go_light
                exact ⟨rfl, rfl⟩
            · have z1 : ¬ ((j : Int) < (n1 : Int)) := by omega
              clear h1 hlt
              go_wp2
              go_meet
              case rel =>
                go_light
                exact ⟨rfl, rfl⟩
          case rest =>
            obtain ⟨rfl, rfl⟩ := hcut
            go_wp2
            go_ret
            exact ⟨rfl, HS.out.2⟩
theorem refd_row (w : World) (ht : Tb w) (k a : Int) (ha : (Lit.int .u64 a).wf = true) (a1 : Option Addr) (b1 o1 n1 c1 : Nat) (l1 : Nat → OpV) (hr1 : RdO w a1 b1 o1 n1 l1) :
    Calls Tryd.prog 5 #[.int .i64 k, .int .u64 a, .slice a1 n1 c1] w fun e w' => e = .returned (.bool true) ∧ Below w.heap.size w w' := by
  have hw := bounds_u64 ha
  obtain ⟨n0, rfl⟩ : ∃ n0 : Nat, a = (n0 : Int) := ⟨a.toNat, by omega⟩
  exact refd_walk w ht k n0 (by omega) a1 b1 o1 n1 c1 l1 hr1
end Go.Proofs.YtncndefggegicaaDoor
