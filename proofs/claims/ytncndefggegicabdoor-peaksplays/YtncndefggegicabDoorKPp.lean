/-
  The walk of PeaksPlays. Own work.
-/
import Derived.Test.YtncndefggegicabDoorKPlay
import Derived.Laws.StructEq
namespace Go.Proofs.YtncndefggegicabDoor
open Go.RowKit
attribute [local go_sem ↓] Go.wp_at_zero Go.wp_at_succ
/-- A pair, of some size. -/
def PS (W : World) (p q : Nat) (K : Int) : Prop := ∃ v u n P, Pair W p v q u K n P
theorem PS.ch2 {W W' : World} {p q p' q' : Nat} {v u : Value} {k K : Int} {n : Nat} {P : List ByteArray} (h : PS W p' q' K) (hP : Pair W p v q u k n P) (hc : Ch2 p q W W') (h1 : p' ≠ p) (h2 : p' ≠ q) (h3 : q' ≠ p) (h4 : q' ≠ q) : PS W' p' q' K := by
  obtain ⟨v', u', n', P', h⟩ := h
  exact ⟨v', u', n', P', h.rg.ch2 hP.rg hP.rf hc h1 h2, h.rf.ch2 hP.rg hP.rf hc h3 h4, h.pq⟩
set_option maxRecDepth 100000 in
set_option maxHeartbeats 4000000 in
theorem pplays_walk (w : World) (ht : Tb w) (hR : Tr w) (K1 : Int) (fr1 : Bool) (N1 : Nat) (sl1 : Value) (L1 : List ByteArray) (hb1 : RdB w K1 fr1 N1 sl1 L1) (K2 : Int) (fr2 : Bool) (N2 : Nat) (sl2 : Value) (L2 : List ByteArray) (hb2 : RdB w K2 fr2 N2 sl2 L2) (ao : Option Addr) (b off n c : Nat) (l : Nat → OpV) (ho : RdO w ao b off n l) :
    Calls Tryd.prog 3 #[.agg #[.int .i64 K1, .bool fr1, .int .u64 (N1 : Int), sl1], .agg #[.int .i64 K2, .bool fr2, .int .u64 (N2 : Int), sl2], .slice ao n c] w fun e w' => e = .returned (.bool true) ∧ Below w.heap.size w w' := by
  obtain ⟨e1, he1⟩ : ∃ e0, fe K1 (bgN fr1 N1) (bgL fr1 L1) = e0 := ⟨_, rfl⟩
  obtain ⟨m1, hm1⟩ : ∃ n, bgN fr1 N1 = n := ⟨_, rfl⟩
  obtain ⟨P1, hP1⟩ : ∃ P, bgL fr1 L1 = P := ⟨_, rfl⟩
  obtain ⟨e2, he2⟩ : ∃ e0, fe K2 (bgN fr2 N2) (bgL fr2 L2) = e0 := ⟨_, rfl⟩
  obtain ⟨m2, hm2⟩ : ∃ n, bgN fr2 N2 = n := ⟨_, rfl⟩
  obtain ⟨P2, hP2⟩ : ∃ P, bgL fr2 L2 = P := ⟨_, rfl⟩
  have HM1 : Hid (∀ W, Below w.heap.size w W → Calls Tryd.prog 5 #[.agg #[.int .i64 K1, .bool fr1, .int .u64 (N1 : Int), sl1]] W fun e w' => MadeB W w' K1 m1 P1 e1 e) := fun W hb => by
    have := made_any W K1 fr1 N1 sl1 L1 (hb1.next hb) e1 he1
    rw [hm1, hP1] at this
    exact this
  have HM2 : Hid (∀ W, Below w.heap.size w W → Calls Tryd.prog 5 #[.agg #[.int .i64 K2, .bool fr2, .int .u64 (N2 : Int), sl2]] W fun e w' => MadeB W w' K2 m2 P2 e2 e) := fun W hb => by
    have := made_any W K2 fr2 N2 sl2 L2 (hb2.next hb) e2 he2
    rw [hm2, hP2] at this
    exact this
  have HAl : Hid (∀ W, Below w.heap.size w W → Calls Tryd.prog 4 #[] W fun e w' => e = .returned (.bool true) ∧ Below W.heap.size W w') := fun W hb => alive_any W (ht.next hb)
  obtain ⟨ao1, bb1, off1, cap1, hsl1, _, _⟩ := hb1.lst
  obtain ⟨ao2, bb2, off2, cap2, hsl2, _, _⟩ := hb2.lst
  obtain ⟨w0, hw0⟩ : ∃ w0, (w.alloc (.cells #[.int .i64 K1, .bool fr1, .int .u64 (N1 : Int), sl1] 25)).alloc (.cells #[.int .i64 K2, .bool fr2, .int .u64 (N2 : Int), sl2] 25) = w0 := ⟨_, rfl⟩
  have hb : Below w.heap.size w w0 := by rw [← hw0]; exact bal (bal (Below.refl w.heap.size w) _) _
  have XA : w0.heap[w.heap.size]? = some (.cells #[.int .i64 K1, .bool fr1, .int .u64 (N1 : Int), sl1] 25 (0, 0)) := by
    rw [← hw0, Below.heap_alloc _ _ _ (by simp)]; exact heap_alloc_new w _
  have XB : w0.heap[w.heap.size + 1]? = some (.cells #[.int .i64 K2, .bool fr2, .int .u64 (N2 : Int), sl2] 25 (0, 0)) := by
    rw [← hw0, show w.heap.size + 1 = (w.alloc (.cells #[.int .i64 K1, .bool fr1, .int .u64 (N1 : Int), sl1] 25)).heap.size by simp]; exact heap_alloc_new _ _
  have HX : Hid (∀ W, Below w0.heap.size w0 W → (W.cell? ⟨w.heap.size, 0, none⟩ = some (.int .i64 K1) ∧ W.cell? ⟨w.heap.size, 1, none⟩ = some (.bool fr1) ∧ W.cell? ⟨w.heap.size, 2, none⟩ = some (.int .u64 (N1 : Int)) ∧ W.cell? ⟨w.heap.size, 3, none⟩ = some sl1) ∧ W.cell? ⟨w.heap.size + 1, 0, none⟩ = some (.int .i64 K2) ∧ W.cell? ⟨w.heap.size + 1, 1, none⟩ = some (.bool fr2) ∧ W.cell? ⟨w.heap.size + 1, 2, none⟩ = some (.int .u64 (N2 : Int)) ∧ W.cell? ⟨w.heap.size + 1, 3, none⟩ = some sl2) := fun W h => by
    have a1 := (h.block _ (Array.getElem?_eq_some_iff.1 XA).1).trans XA
    have a2 := (h.block _ (Array.getElem?_eq_some_iff.1 XB).1).trans XB
    refine ⟨⟨?_, ?_, ?_, ?_⟩, ?_, ?_, ?_, ?_⟩
    · rw [cell_of_row W _ 0 _ _ (0, 0) a1]; rfl
    · rw [cell_of_row W _ 1 _ _ (0, 0) a1]; rfl
    · rw [cell_of_row W _ 2 _ _ (0, 0) a1]; rfl
    · rw [cell_of_row W _ 3 _ _ (0, 0) a1]; rfl
    · rw [cell_of_row W _ 0 _ _ (0, 0) a2]; rfl
    · rw [cell_of_row W _ 1 _ _ (0, 0) a2]; rfl
    · rw [cell_of_row W _ 2 _ _ (0, 0) a2]; rfl
    · rw [cell_of_row W _ 3 _ _ (0, 0) a2]; rfl
  have HT := hide (And.intro ht hR)
  have HB := hide hb
  have HRo := hide ho
  subst hsl1
  subst hsl2
  clear ht hR hb1 hb2 ho he1 he2 hm1 hm2 hP1 hP2 hb XA XB
  by_cases h1 : e1 = 0
  · subst h1
    by_cases h2 : e2 = 0
    · subst h2
      go_enter Tryd.func3, Tryd.ntmps3
      go_upto_region 7 with (first
        | (go_at_call 4; with_reducible refine (HAl.out _ HB.out).mono ?_; rintro e w1 ⟨rfl, hb1⟩; obtain ⟨y0, y1, y2, y3⟩ := (HX.out _ hb1).1)
        | (go_at_call 5; with_reducible refine (HM1.out _ (bnext HB.out hb1)).mono ?_; intro e w2 hM; obtain ⟨p1, v1, q1, u1, rfl, rg1, rf1, hp1, hq1, hb2⟩ := hM.ok; clear hM; obtain ⟨x0, x1, x2, x3⟩ := (HX.out _ (bnext hb1 hb2)).2)
        | (go_at_call 5; with_reducible refine (HM2.out _ (bnext (bnext HB.out hb1) hb2)).mono ?_; intro e w3 hM; obtain ⟨p2, v2, q2, u2, rfl, rg2, rf2, hp2, hq2, hb3⟩ := hM.ok; clear hM))
      have HS0 : Hid (Below w.heap.size w w3 ∧ PS w3 p1 q1 K1 ∧ PS w3 p2 q2 K2) := ⟨bnext (bnext (bnext HB.out hb1) hb2) hb3, ⟨_, _, _, _, rg1.next hb3 (Nat.le_refl _), rf1.next hb3 (Nat.le_refl _), hq1⟩, ⟨_, _, _, _, rg2, rf2, hq2⟩⟩
      have HQ : Hid (w.heap.size ≤ p1 ∧ p1 < q1 ∧ w.heap.size ≤ p2 ∧ p2 < q2 ∧ q1 < p2 ∧ True ∧ True) := ⟨Nat.le_trans (bnext HB.out hb1).size hp1 , hq1 , Nat.le_trans (bnext (bnext HB.out hb1) hb2).size hp2 , hq2 , Nat.lt_of_lt_of_le rf1.lt hp2 , trivial , trivial⟩
      clear hb1 hb2 hb3 y0 y1 y2 y3 x0 x1 x2 x3 HM1 HM2 HAl HX hw0 rg1 rf1 hp1 hq1 rg2 rf2 hp2 hq2
      go_wp2
      go_loopg [9, 13] 200 (fun g y9 y13 wx => ∃ j : Nat, j ≤ n ∧ j ≤ 200 ∧ g = 200 - j ∧ y9 = .bool true ∧ y13 = .int .i64 (j : Int) ∧ Hid (Below w.heap.size w wx ∧ PS wx p1 q1 K1 ∧ PS wx p2 q2 K2))
      case atStart =>
        go_light
        exact ⟨0, Nat.zero_le _, Nat.zero_le _, rfl, rfl, rfl, HS0⟩
      case round =>
        clear HS0
        obtain ⟨j, hj, hj2, rfl, rfl, rfl, HS⟩ := hrel
        by_cases hlt : j < n ∧ j < 200
        · have z1 : (j : Int) < (n : Int) := by omega
          have z2 : (j : Int) < 200 := by omega
          have z0 : (0 : Int) ≤ (j : Int) := Int.natCast_nonneg _
          have hr := HRo.out.next HS.out.1
          obtain rfl := hr.ptr (by omega)
          obtain ⟨f0, f1, f2, f3, f4⟩ := hr.five hlt.1 rfl
          have HO := hide (hr.cell j hlt.1).2.2.2.2.2
          generalize l j = op at *
          obtain ⟨kd, wh, h, s, r⟩ := op
          obtain ⟨uw, huw⟩ : ∃ uw, IntKind.u64.wrap wh = uw := ⟨_, rfl⟩
          have hu0 : 0 ≤ uw := by rw [← huw, IntKind.wrap_u64]; omega
          have hmm : Int.tmod uw 2 = 0 ∨ Int.tmod uw 2 = 1 := by rw [Int.tmod_eq_emod_of_nonneg hu0]; omega
          clear hr hu0
          rcases hmm with hm | hm
          · have HJ : Hid (j < n ∧ j < 200) := hlt
            clear hlt
            obtain ⟨v, u, k, P, hP⟩ := HS.out.2.1
            have HPl : Hid (Calls Tryd.prog 6 #[.pointer (some ⟨p1, 0, none⟩), .pointer (some ⟨q1, 0, none⟩), .agg #[.int .i64 kd, .int .i64 wh, .int .i64 h, .string s, .bool r]] wr fun e w' => e = .returned (.bool true) ∧ Plyd wr w' p1 q1 K1) :=
              plays_any w wr HT.out.1 HT.out.2 HS.out.1 p1 q1 (by have := HQ.out; omega) v u K1 k P hP ⟨kd, wh, h, s, r⟩ HO.out
            have HPp := hide hP
            clear hP
            go_wp2_with (go_at_call 6; with_reducible refine HPl.out.mono ?_; rintro e w5 ⟨rfl, hPl⟩; have HPd := hide hPl; clear hPl)
            have HS5 : Hid (Below w.heap.size w w5 ∧ PS w5 p1 q1 K1 ∧ PS w5 p2 q2 K2) := ⟨HS.out.1.trans (HPd.out.2.below.mono (by have := HQ.out; omega)), HPd.out.1, HS.out.2.2.ch2 HPp.out HPd.out.2 (by have := HQ.out; omega) (by have := HQ.out; omega) (by have := HQ.out; omega) (by have := HQ.out; omega)⟩
            go_roundg (200 - (j + 1))
            case rel =>
              go_light
              exact ⟨j + 1, by have := HJ.out; omega, by have := HJ.out; omega, rfl, rfl, by have := HJ.out; go_num, HS5⟩
            case measure => go_light; have := HJ.out; omega
          · have HJ : Hid (j < n ∧ j < 200) := hlt
            clear hlt
            obtain ⟨v, u, k, P, hP⟩ := HS.out.2.2
            have HPl : Hid (Calls Tryd.prog 6 #[.pointer (some ⟨p2, 0, none⟩), .pointer (some ⟨q2, 0, none⟩), .agg #[.int .i64 kd, .int .i64 wh, .int .i64 h, .string s, .bool r]] wr fun e w' => e = .returned (.bool true) ∧ Plyd wr w' p2 q2 K2) :=
              plays_any w wr HT.out.1 HT.out.2 HS.out.1 p2 q2 (by have := HQ.out; omega) v u K2 k P hP ⟨kd, wh, h, s, r⟩ HO.out
            have HPp := hide hP
            clear hP
            go_wp2_with (go_at_call 6; with_reducible refine HPl.out.mono ?_; rintro e w5 ⟨rfl, hPl⟩; have HPd := hide hPl; clear hPl)
            have HS5 : Hid (Below w.heap.size w w5 ∧ PS w5 p1 q1 K1 ∧ PS w5 p2 q2 K2) := ⟨HS.out.1.trans (HPd.out.2.below.mono (by have := HQ.out; omega)), HS.out.2.1.ch2 HPp.out HPd.out.2 (by have := HQ.out; omega) (by have := HQ.out; omega) (by have := HQ.out; omega) (by have := HQ.out; omega), HPd.out.1⟩
            go_roundg (200 - (j + 1))
            case rel =>
              go_light
              exact ⟨j + 1, by have := HJ.out; omega, by have := HJ.out; omega, rfl, rfl, by have := HJ.out; go_num, HS5⟩
            case measure => go_light; have := HJ.out; omega
        · go_upto_region 8 with (fail)
          go_cut [42] from 35 to 41 (fun y wx => y = .bool false ∧ wr = wx)
          case first =>
            by_cases h1 : j < n
            · have z1 : (j : Int) < (n : Int) := by omega
              have z2 : ¬ ((j : Int) < 200) := by omega
              clear h1 hlt
              go_wp2
              go_meet
              case rel =>
                go_light
                exact ⟨rfl, rfl⟩
            · have z1 : ¬ ((j : Int) < (n : Int)) := by omega
              clear h1 hlt
              go_wp2
              go_meet
              case rel =>
                go_light
                exact ⟨rfl, rfl⟩
          case rest =>
            obtain ⟨rfl, rfl⟩ := hcut
            clear hlt
            obtain ⟨v1, u1, k1, P1', hP1⟩ := HS.out.2.1
            obtain ⟨rr1, hrr1⟩ : ∃ rr, Hid (rgD K1 k1 P1' = rr) := ⟨_, rfl⟩
            have HA1 : Hid (∀ W, Below wr.heap.size wr W → Pair W p1 v1 q1 u1 K1 k1 P1' ∧ Tb W ∧ Tr W) := fun W hb => ⟨hP1.next hb, HT.out.1.next (bnext HS.out.1 hb), HT.out.2.next (bnext HS.out.1 hb)⟩
            clear hP1
            obtain ⟨v2, u2, k2, P2', hP2⟩ := HS.out.2.2
            obtain ⟨rr2, hrr2⟩ : ∃ rr, Hid (rgD K2 k2 P2' = rr) := ⟨_, rfl⟩
            have HA2 : Hid (∀ W, Below wr.heap.size wr W → Pair W p2 v2 q2 u2 K2 k2 P2' ∧ Tb W ∧ Tr W) := fun W hb => ⟨hP2.next hb, HT.out.1.next (bnext HS.out.1 hb), HT.out.2.next (bnext HS.out.1 hb)⟩
            clear hP2
            have hb0 := Below.refl wr.heap.size wr
            go_wp2_with (first
              | (go_at_call 7; with_reducible refine (size_any _ p1 v1 K1 k1 P1' (HA1.out _ hb0).1.rg).mono ?_; rintro e w5 ⟨rfl, hb5⟩; replace hb0 := bnext hb0 hb5; clear hb5)
              | (go_at_call 8; with_reducible refine (refsize_any _ q1 u1 K1 k1 P1' (HA1.out _ hb0).1.rf).mono ?_; rintro e w5 ⟨rfl, hb5⟩; replace hb0 := bnext hb0 hb5; clear hb5)
              | (go_at_call 10; with_reducible refine (rpeaks_own _ p1 v1 K1 k1 P1' (HA1.out _ hb0).1.rg).mono ?_; rintro e w6 ⟨ua1, rfl, oa1, hb6⟩; replace hb0 := bnext hb0 hb6; clear hb6)
              | (go_at_call 11; with_reducible refine (refpeaks_own _ q1 u1 K1 k1 P1' (HA1.out _ hb0).1.rf).mono ?_; rintro e w7 ⟨ub1, rfl, ob1, hb7⟩; replace hb0 := bnext hb0 hb7; replace oa1 := own_next oa1 hb7 (Nat.le_refl _); clear hb7)
              | (go_at_call 9; with_reducible refine (same_own _ ua1 ub1 _ _ P1' oa1 ob1 (HA1.out _ hb0).1.rg.small (by have := (HA1.out _ hb0).1.rg.short; omega)).mono ?_; rintro e w8 ⟨rfl, hb8⟩; replace hb0 := bnext hb0 hb8; clear hb8)
              | (go_at_call 12; with_reducible refine (rroot_any _ (HA1.out _ hb0).2.1 p1 v1 K1 k1 P1' (HA1.out _ hb0).1.rg rr1 hrr1).mono ?_; rintro e w9 ⟨rfl, hb9⟩; replace hb0 := bnext hb0 hb9; clear hb9)
              | (go_at_call 13; with_reducible refine (refrroot_any _ (HA1.out _ hb0).2.2 q1 u1 K1 k1 P1' (HA1.out _ hb0).1.rf rr1 hrr1).mono ?_; rintro e w9 ⟨rfl, hb9⟩; replace hb0 := bnext hb0 hb9; clear hb9)
              | (go_at_call 7; with_reducible refine (size_any _ p2 v2 K2 k2 P2' (HA2.out _ hb0).1.rg).mono ?_; rintro e w5 ⟨rfl, hb5⟩; replace hb0 := bnext hb0 hb5; clear hb5)
              | (go_at_call 8; with_reducible refine (refsize_any _ q2 u2 K2 k2 P2' (HA2.out _ hb0).1.rf).mono ?_; rintro e w5 ⟨rfl, hb5⟩; replace hb0 := bnext hb0 hb5; clear hb5)
              | (go_at_call 10; with_reducible refine (rpeaks_own _ p2 v2 K2 k2 P2' (HA2.out _ hb0).1.rg).mono ?_; rintro e w6 ⟨ua2, rfl, oa2, hb6⟩; replace hb0 := bnext hb0 hb6; clear hb6)
              | (go_at_call 11; with_reducible refine (refpeaks_own _ q2 u2 K2 k2 P2' (HA2.out _ hb0).1.rf).mono ?_; rintro e w7 ⟨ub2, rfl, ob2, hb7⟩; replace hb0 := bnext hb0 hb7; replace oa2 := own_next oa2 hb7 (Nat.le_refl _); clear hb7)
              | (go_at_call 9; with_reducible refine (same_own _ ua2 ub2 _ _ P2' oa2 ob2 (HA2.out _ hb0).1.rg.small (by have := (HA2.out _ hb0).1.rg.short; omega)).mono ?_; rintro e w8 ⟨rfl, hb8⟩; replace hb0 := bnext hb0 hb8; clear hb8)
              | (go_at_call 12; with_reducible refine (rroot_any _ (HA2.out _ hb0).2.1 p2 v2 K2 k2 P2' (HA2.out _ hb0).1.rg rr2 hrr2).mono ?_; rintro e w9 ⟨rfl, hb9⟩; replace hb0 := bnext hb0 hb9; clear hb9)
              | (go_at_call 13; with_reducible refine (refrroot_any _ (HA2.out _ hb0).2.2 q2 u2 K2 k2 P2' (HA2.out _ hb0).1.rf rr2 hrr2).mono ?_; rintro e w9 ⟨rfl, hb9⟩; replace hb0 := bnext hb0 hb9; clear hb9))
            go_ret
            first | exact ⟨rfl, bnext HS.out.1 hb0⟩ | exact bnext HS.out.1 hb0
    · have H2 := hide h2
      clear h2
      go_enter Tryd.func3, Tryd.ntmps3
      go_upto_region 7 with (first
        | (go_at_call 4; with_reducible refine (HAl.out _ HB.out).mono ?_; rintro e w1 ⟨rfl, hb1⟩; obtain ⟨y0, y1, y2, y3⟩ := (HX.out _ hb1).1)
        | (go_at_call 5; with_reducible refine (HM1.out _ (bnext HB.out hb1)).mono ?_; intro e w2 hM; obtain ⟨p1, v1, q1, u1, rfl, rg1, rf1, hp1, hq1, hb2⟩ := hM.ok; clear hM; obtain ⟨x0, x1, x2, x3⟩ := (HX.out _ (bnext hb1 hb2)).2)
        | (go_at_call 5; with_reducible refine (HM2.out _ (bnext (bnext HB.out hb1) hb2)).mono ?_; intro e w3 hM; obtain ⟨rfl, hb3⟩ := hM.no H2.out; clear hM))
      have HS0 : Hid (Below w.heap.size w w3 ∧ PS w3 p1 q1 K1 ∧ True) := ⟨bnext (bnext (bnext HB.out hb1) hb2) hb3, ⟨_, _, _, _, rg1.next hb3 (Nat.le_refl _), rf1.next hb3 (Nat.le_refl _), hq1⟩, trivial⟩
      have HQ : Hid (w.heap.size ≤ p1 ∧ p1 < q1 ∧ True ∧ True) := ⟨Nat.le_trans (bnext HB.out hb1).size hp1 , hq1 , trivial , trivial⟩
      clear hb1 hb2 hb3 y0 y1 y2 y3 x0 x1 x2 x3 HM1 HM2 HAl HX hw0 rg1 rf1 hp1 hq1
      go_wp2
      go_loopg [9, 13] 200 (fun g y9 y13 wx => ∃ j : Nat, j ≤ n ∧ j ≤ 200 ∧ g = 200 - j ∧ y9 = .bool true ∧ y13 = .int .i64 (j : Int) ∧ Hid (Below w.heap.size w wx ∧ PS wx p1 q1 K1 ∧ True))
      case atStart =>
        go_light
        exact ⟨0, Nat.zero_le _, Nat.zero_le _, rfl, rfl, rfl, HS0⟩
      case round =>
        clear HS0
        obtain ⟨j, hj, hj2, rfl, rfl, rfl, HS⟩ := hrel
        by_cases hlt : j < n ∧ j < 200
        · have z1 : (j : Int) < (n : Int) := by omega
          have z2 : (j : Int) < 200 := by omega
          have z0 : (0 : Int) ≤ (j : Int) := Int.natCast_nonneg _
          have hr := HRo.out.next HS.out.1
          obtain rfl := hr.ptr (by omega)
          obtain ⟨f0, f1, f2, f3, f4⟩ := hr.five hlt.1 rfl
          have HO := hide (hr.cell j hlt.1).2.2.2.2.2
          generalize l j = op at *
          obtain ⟨kd, wh, h, s, r⟩ := op
          obtain ⟨uw, huw⟩ : ∃ uw, IntKind.u64.wrap wh = uw := ⟨_, rfl⟩
          have hu0 : 0 ≤ uw := by rw [← huw, IntKind.wrap_u64]; omega
          have hmm : Int.tmod uw 2 = 0 ∨ Int.tmod uw 2 = 1 := by rw [Int.tmod_eq_emod_of_nonneg hu0]; omega
          clear hr hu0
          rcases hmm with hm | hm
          · have HJ : Hid (j < n ∧ j < 200) := hlt
            clear hlt
            obtain ⟨v, u, k, P, hP⟩ := HS.out.2.1
            have HPl : Hid (Calls Tryd.prog 6 #[.pointer (some ⟨p1, 0, none⟩), .pointer (some ⟨q1, 0, none⟩), .agg #[.int .i64 kd, .int .i64 wh, .int .i64 h, .string s, .bool r]] wr fun e w' => e = .returned (.bool true) ∧ Plyd wr w' p1 q1 K1) :=
              plays_any w wr HT.out.1 HT.out.2 HS.out.1 p1 q1 (by have := HQ.out; omega) v u K1 k P hP ⟨kd, wh, h, s, r⟩ HO.out
            have HPp := hide hP
            clear hP
            go_wp2_with (go_at_call 6; with_reducible refine HPl.out.mono ?_; rintro e w5 ⟨rfl, hPl⟩; have HPd := hide hPl; clear hPl)
            have HS5 : Hid (Below w.heap.size w w5 ∧ PS w5 p1 q1 K1 ∧ True) := ⟨HS.out.1.trans (HPd.out.2.below.mono (by have := HQ.out; omega)), HPd.out.1, trivial⟩
            go_roundg (200 - (j + 1))
            case rel =>
              go_light
              exact ⟨j + 1, by have := HJ.out; omega, by have := HJ.out; omega, rfl, rfl, by have := HJ.out; go_num, HS5⟩
            case measure => go_light; have := HJ.out; omega
          · have HJ : Hid (j < n ∧ j < 200) := hlt
            clear hlt
            go_wp2
            go_roundg (200 - (j + 1))
            case rel =>
              go_light
              exact ⟨j + 1, by have := HJ.out; omega, by have := HJ.out; omega, rfl, rfl, by have := HJ.out; go_num, HS⟩
            case measure => go_light; have := HJ.out; omega
        · go_upto_region 8 with (fail)
          go_cut [42] from 35 to 41 (fun y wx => y = .bool false ∧ wr = wx)
          case first =>
            by_cases h1 : j < n
            · have z1 : (j : Int) < (n : Int) := by omega
              have z2 : ¬ ((j : Int) < 200) := by omega
              clear h1 hlt
              go_wp2
              go_meet
              case rel =>
                go_light
                exact ⟨rfl, rfl⟩
            · have z1 : ¬ ((j : Int) < (n : Int)) := by omega
              clear h1 hlt
              go_wp2
              go_meet
              case rel =>
                go_light
                exact ⟨rfl, rfl⟩
          case rest =>
            obtain ⟨rfl, rfl⟩ := hcut
            clear hlt
            obtain ⟨v1, u1, k1, P1', hP1⟩ := HS.out.2.1
            obtain ⟨rr1, hrr1⟩ : ∃ rr, Hid (rgD K1 k1 P1' = rr) := ⟨_, rfl⟩
            have HA1 : Hid (∀ W, Below wr.heap.size wr W → Pair W p1 v1 q1 u1 K1 k1 P1' ∧ Tb W ∧ Tr W) := fun W hb => ⟨hP1.next hb, HT.out.1.next (bnext HS.out.1 hb), HT.out.2.next (bnext HS.out.1 hb)⟩
            clear hP1
            have hb0 := Below.refl wr.heap.size wr
            go_wp2_with (first
              | (go_at_call 7; with_reducible refine (size_any _ p1 v1 K1 k1 P1' (HA1.out _ hb0).1.rg).mono ?_; rintro e w5 ⟨rfl, hb5⟩; replace hb0 := bnext hb0 hb5; clear hb5)
              | (go_at_call 8; with_reducible refine (refsize_any _ q1 u1 K1 k1 P1' (HA1.out _ hb0).1.rf).mono ?_; rintro e w5 ⟨rfl, hb5⟩; replace hb0 := bnext hb0 hb5; clear hb5)
              | (go_at_call 10; with_reducible refine (rpeaks_own _ p1 v1 K1 k1 P1' (HA1.out _ hb0).1.rg).mono ?_; rintro e w6 ⟨ua1, rfl, oa1, hb6⟩; replace hb0 := bnext hb0 hb6; clear hb6)
              | (go_at_call 11; with_reducible refine (refpeaks_own _ q1 u1 K1 k1 P1' (HA1.out _ hb0).1.rf).mono ?_; rintro e w7 ⟨ub1, rfl, ob1, hb7⟩; replace hb0 := bnext hb0 hb7; replace oa1 := own_next oa1 hb7 (Nat.le_refl _); clear hb7)
              | (go_at_call 9; with_reducible refine (same_own _ ua1 ub1 _ _ P1' oa1 ob1 (HA1.out _ hb0).1.rg.small (by have := (HA1.out _ hb0).1.rg.short; omega)).mono ?_; rintro e w8 ⟨rfl, hb8⟩; replace hb0 := bnext hb0 hb8; clear hb8)
              | (go_at_call 12; with_reducible refine (rroot_any _ (HA1.out _ hb0).2.1 p1 v1 K1 k1 P1' (HA1.out _ hb0).1.rg rr1 hrr1).mono ?_; rintro e w9 ⟨rfl, hb9⟩; replace hb0 := bnext hb0 hb9; clear hb9)
              | (go_at_call 13; with_reducible refine (refrroot_any _ (HA1.out _ hb0).2.2 q1 u1 K1 k1 P1' (HA1.out _ hb0).1.rf rr1 hrr1).mono ?_; rintro e w9 ⟨rfl, hb9⟩; replace hb0 := bnext hb0 hb9; clear hb9))
            go_ret
            first | exact ⟨rfl, bnext HS.out.1 hb0⟩ | exact bnext HS.out.1 hb0
  · have H1 := hide h1
    clear h1
    by_cases h2 : e2 = 0
    · subst h2
      go_enter Tryd.func3, Tryd.ntmps3
      go_upto_region 7 with (first
        | (go_at_call 4; with_reducible refine (HAl.out _ HB.out).mono ?_; rintro e w1 ⟨rfl, hb1⟩; obtain ⟨y0, y1, y2, y3⟩ := (HX.out _ hb1).1)
        | (go_at_call 5; with_reducible refine (HM1.out _ (bnext HB.out hb1)).mono ?_; intro e w2 hM; obtain ⟨rfl, hb2⟩ := hM.no H1.out; clear hM; obtain ⟨x0, x1, x2, x3⟩ := (HX.out _ (bnext hb1 hb2)).2)
        | (go_at_call 5; with_reducible refine (HM2.out _ (bnext (bnext HB.out hb1) hb2)).mono ?_; intro e w3 hM; obtain ⟨p2, v2, q2, u2, rfl, rg2, rf2, hp2, hq2, hb3⟩ := hM.ok; clear hM))
      have HS0 : Hid (Below w.heap.size w w3 ∧ True ∧ PS w3 p2 q2 K2) := ⟨bnext (bnext (bnext HB.out hb1) hb2) hb3, trivial, ⟨_, _, _, _, rg2, rf2, hq2⟩⟩
      have HQ : Hid (w.heap.size ≤ p2 ∧ p2 < q2 ∧ True ∧ True) := ⟨Nat.le_trans (bnext (bnext HB.out hb1) hb2).size hp2 , hq2 , trivial , trivial⟩
      clear hb1 hb2 hb3 y0 y1 y2 y3 x0 x1 x2 x3 HM1 HM2 HAl HX hw0 rg2 rf2 hp2 hq2
      go_wp2
      go_loopg [9, 13] 200 (fun g y9 y13 wx => ∃ j : Nat, j ≤ n ∧ j ≤ 200 ∧ g = 200 - j ∧ y9 = .bool true ∧ y13 = .int .i64 (j : Int) ∧ Hid (Below w.heap.size w wx ∧ True ∧ PS wx p2 q2 K2))
      case atStart =>
        go_light
        exact ⟨0, Nat.zero_le _, Nat.zero_le _, rfl, rfl, rfl, HS0⟩
      case round =>
        clear HS0
        obtain ⟨j, hj, hj2, rfl, rfl, rfl, HS⟩ := hrel
        by_cases hlt : j < n ∧ j < 200
        · have z1 : (j : Int) < (n : Int) := by omega
          have z2 : (j : Int) < 200 := by omega
          have z0 : (0 : Int) ≤ (j : Int) := Int.natCast_nonneg _
          have hr := HRo.out.next HS.out.1
          obtain rfl := hr.ptr (by omega)
          obtain ⟨f0, f1, f2, f3, f4⟩ := hr.five hlt.1 rfl
          have HO := hide (hr.cell j hlt.1).2.2.2.2.2
          generalize l j = op at *
          obtain ⟨kd, wh, h, s, r⟩ := op
          obtain ⟨uw, huw⟩ : ∃ uw, IntKind.u64.wrap wh = uw := ⟨_, rfl⟩
          have hu0 : 0 ≤ uw := by rw [← huw, IntKind.wrap_u64]; omega
          have hmm : Int.tmod uw 2 = 0 ∨ Int.tmod uw 2 = 1 := by rw [Int.tmod_eq_emod_of_nonneg hu0]; omega
          clear hr hu0
          rcases hmm with hm | hm
          · have HJ : Hid (j < n ∧ j < 200) := hlt
            clear hlt
            go_wp2
            go_roundg (200 - (j + 1))
            case rel =>
              go_light
              exact ⟨j + 1, by have := HJ.out; omega, by have := HJ.out; omega, rfl, rfl, by have := HJ.out; go_num, HS⟩
            case measure => go_light; have := HJ.out; omega
          · have HJ : Hid (j < n ∧ j < 200) := hlt
            clear hlt
            obtain ⟨v, u, k, P, hP⟩ := HS.out.2.2
            have HPl : Hid (Calls Tryd.prog 6 #[.pointer (some ⟨p2, 0, none⟩), .pointer (some ⟨q2, 0, none⟩), .agg #[.int .i64 kd, .int .i64 wh, .int .i64 h, .string s, .bool r]] wr fun e w' => e = .returned (.bool true) ∧ Plyd wr w' p2 q2 K2) :=
              plays_any w wr HT.out.1 HT.out.2 HS.out.1 p2 q2 (by have := HQ.out; omega) v u K2 k P hP ⟨kd, wh, h, s, r⟩ HO.out
            have HPp := hide hP
            clear hP
            go_wp2_with (go_at_call 6; with_reducible refine HPl.out.mono ?_; rintro e w5 ⟨rfl, hPl⟩; have HPd := hide hPl; clear hPl)
            have HS5 : Hid (Below w.heap.size w w5 ∧ True ∧ PS w5 p2 q2 K2) := ⟨HS.out.1.trans (HPd.out.2.below.mono (by have := HQ.out; omega)), trivial, HPd.out.1⟩
            go_roundg (200 - (j + 1))
            case rel =>
              go_light
              exact ⟨j + 1, by have := HJ.out; omega, by have := HJ.out; omega, rfl, rfl, by have := HJ.out; go_num, HS5⟩
            case measure => go_light; have := HJ.out; omega
        · go_upto_region 8 with (fail)
          go_cut [42] from 35 to 41 (fun y wx => y = .bool false ∧ wr = wx)
          case first =>
            by_cases h1 : j < n
            · have z1 : (j : Int) < (n : Int) := by omega
              have z2 : ¬ ((j : Int) < 200) := by omega
              clear h1 hlt
              go_wp2
              go_meet
              case rel =>
                go_light
                exact ⟨rfl, rfl⟩
            · have z1 : ¬ ((j : Int) < (n : Int)) := by omega
              clear h1 hlt
              go_wp2
              go_meet
              case rel =>
                go_light
                exact ⟨rfl, rfl⟩
          case rest =>
            obtain ⟨rfl, rfl⟩ := hcut
            clear hlt
            obtain ⟨v2, u2, k2, P2', hP2⟩ := HS.out.2.2
            obtain ⟨rr2, hrr2⟩ : ∃ rr, Hid (rgD K2 k2 P2' = rr) := ⟨_, rfl⟩
            have HA2 : Hid (∀ W, Below wr.heap.size wr W → Pair W p2 v2 q2 u2 K2 k2 P2' ∧ Tb W ∧ Tr W) := fun W hb => ⟨hP2.next hb, HT.out.1.next (bnext HS.out.1 hb), HT.out.2.next (bnext HS.out.1 hb)⟩
            clear hP2
            have hb0 := Below.refl wr.heap.size wr
            go_wp2_with (first
              | (go_at_call 7; with_reducible refine (size_any _ p2 v2 K2 k2 P2' (HA2.out _ hb0).1.rg).mono ?_; rintro e w5 ⟨rfl, hb5⟩; replace hb0 := bnext hb0 hb5; clear hb5)
              | (go_at_call 8; with_reducible refine (refsize_any _ q2 u2 K2 k2 P2' (HA2.out _ hb0).1.rf).mono ?_; rintro e w5 ⟨rfl, hb5⟩; replace hb0 := bnext hb0 hb5; clear hb5)
              | (go_at_call 10; with_reducible refine (rpeaks_own _ p2 v2 K2 k2 P2' (HA2.out _ hb0).1.rg).mono ?_; rintro e w6 ⟨ua2, rfl, oa2, hb6⟩; replace hb0 := bnext hb0 hb6; clear hb6)
              | (go_at_call 11; with_reducible refine (refpeaks_own _ q2 u2 K2 k2 P2' (HA2.out _ hb0).1.rf).mono ?_; rintro e w7 ⟨ub2, rfl, ob2, hb7⟩; replace hb0 := bnext hb0 hb7; replace oa2 := own_next oa2 hb7 (Nat.le_refl _); clear hb7)
              | (go_at_call 9; with_reducible refine (same_own _ ua2 ub2 _ _ P2' oa2 ob2 (HA2.out _ hb0).1.rg.small (by have := (HA2.out _ hb0).1.rg.short; omega)).mono ?_; rintro e w8 ⟨rfl, hb8⟩; replace hb0 := bnext hb0 hb8; clear hb8)
              | (go_at_call 12; with_reducible refine (rroot_any _ (HA2.out _ hb0).2.1 p2 v2 K2 k2 P2' (HA2.out _ hb0).1.rg rr2 hrr2).mono ?_; rintro e w9 ⟨rfl, hb9⟩; replace hb0 := bnext hb0 hb9; clear hb9)
              | (go_at_call 13; with_reducible refine (refrroot_any _ (HA2.out _ hb0).2.2 q2 u2 K2 k2 P2' (HA2.out _ hb0).1.rf rr2 hrr2).mono ?_; rintro e w9 ⟨rfl, hb9⟩; replace hb0 := bnext hb0 hb9; clear hb9))
            go_ret
            first | exact ⟨rfl, bnext HS.out.1 hb0⟩ | exact bnext HS.out.1 hb0
    · have H2 := hide h2
      clear h2
      go_enter Tryd.func3, Tryd.ntmps3
      go_upto_region 7 with (first
        | (go_at_call 4; with_reducible refine (HAl.out _ HB.out).mono ?_; rintro e w1 ⟨rfl, hb1⟩; obtain ⟨y0, y1, y2, y3⟩ := (HX.out _ hb1).1)
        | (go_at_call 5; with_reducible refine (HM1.out _ (bnext HB.out hb1)).mono ?_; intro e w2 hM; obtain ⟨rfl, hb2⟩ := hM.no H1.out; clear hM; obtain ⟨x0, x1, x2, x3⟩ := (HX.out _ (bnext hb1 hb2)).2)
        | (go_at_call 5; with_reducible refine (HM2.out _ (bnext (bnext HB.out hb1) hb2)).mono ?_; intro e w3 hM; obtain ⟨rfl, hb3⟩ := hM.no H2.out; clear hM))
      have HS0 : Hid (Below w.heap.size w w3 ∧ True ∧ True) := ⟨bnext (bnext (bnext HB.out hb1) hb2) hb3, trivial, trivial⟩
      have HQ : Hid (True ∧ True) := ⟨trivial , trivial⟩
      clear hb1 hb2 hb3 y0 y1 y2 y3 x0 x1 x2 x3 HM1 HM2 HAl HX hw0
      go_wp2
      go_loopg [9, 13] 200 (fun g y9 y13 wx => ∃ j : Nat, j ≤ n ∧ j ≤ 200 ∧ g = 200 - j ∧ y9 = .bool true ∧ y13 = .int .i64 (j : Int) ∧ Hid (Below w.heap.size w wx ∧ True ∧ True))
      case atStart =>
        go_light
        exact ⟨0, Nat.zero_le _, Nat.zero_le _, rfl, rfl, rfl, HS0⟩
      case round =>
        clear HS0
        obtain ⟨j, hj, hj2, rfl, rfl, rfl, HS⟩ := hrel
        by_cases hlt : j < n ∧ j < 200
        · have z1 : (j : Int) < (n : Int) := by omega
          have z2 : (j : Int) < 200 := by omega
          have z0 : (0 : Int) ≤ (j : Int) := Int.natCast_nonneg _
          have hr := HRo.out.next HS.out.1
          obtain rfl := hr.ptr (by omega)
          obtain ⟨f0, f1, f2, f3, f4⟩ := hr.five hlt.1 rfl
          have HO := hide (hr.cell j hlt.1).2.2.2.2.2
          generalize l j = op at *
          obtain ⟨kd, wh, h, s, r⟩ := op
          obtain ⟨uw, huw⟩ : ∃ uw, IntKind.u64.wrap wh = uw := ⟨_, rfl⟩
          have hu0 : 0 ≤ uw := by rw [← huw, IntKind.wrap_u64]; omega
          have hmm : Int.tmod uw 2 = 0 ∨ Int.tmod uw 2 = 1 := by rw [Int.tmod_eq_emod_of_nonneg hu0]; omega
          clear hr hu0
          rcases hmm with hm | hm
          · have HJ : Hid (j < n ∧ j < 200) := hlt
            clear hlt
            go_wp2
            go_roundg (200 - (j + 1))
            case rel =>
              go_light
              exact ⟨j + 1, by have := HJ.out; omega, by have := HJ.out; omega, rfl, rfl, by have := HJ.out; go_num, HS⟩
            case measure => go_light; have := HJ.out; omega
          · have HJ : Hid (j < n ∧ j < 200) := hlt
            clear hlt
            go_wp2
            go_roundg (200 - (j + 1))
            case rel =>
              go_light
              exact ⟨j + 1, by have := HJ.out; omega, by have := HJ.out; omega, rfl, rfl, by have := HJ.out; go_num, HS⟩
            case measure => go_light; have := HJ.out; omega
        · go_upto_region 8 with (fail)
          go_cut [42] from 35 to 41 (fun y wx => y = .bool false ∧ wr = wx)
          case first =>
            by_cases h1 : j < n
            · have z1 : (j : Int) < (n : Int) := by omega
              have z2 : ¬ ((j : Int) < 200) := by omega
              clear h1 hlt
              go_wp2
              go_meet
              case rel =>
                go_light
                exact ⟨rfl, rfl⟩
            · have z1 : ¬ ((j : Int) < (n : Int)) := by omega
              clear h1 hlt
              go_wp2
              go_meet
              case rel =>
                go_light
                exact ⟨rfl, rfl⟩
          case rest =>
            obtain ⟨rfl, rfl⟩ := hcut
            clear hlt
            have hb0 := Below.refl wr.heap.size wr
            go_wp2
            go_ret
            first | exact ⟨rfl, bnext HS.out.1 hb0⟩ | exact bnext HS.out.1 hb0
theorem pplays_row (w : World) (ht : Tb w) (hR : Tr w) (K1 : Int) (fr1 : Bool) (a1 : Int) (ha1 : (Lit.int .u64 a1).wf = true) (ao1 : Option Addr) (b1 off1 len1 cap1 : Nat) (L1 : List ByteArray) (hr1 : RdS w ao1 b1 off1 len1 L1) (hsz1 : ∀ s ∈ L1, s.size ≤ 140737488351232) (hmx1 : len1 ≤ 8796093021952) (hno1 : ao1 = none → cap1 = 0)
    (K2 : Int) (fr2 : Bool) (a2 : Int) (ha2 : (Lit.int .u64 a2).wf = true) (ao2 : Option Addr) (b2 off2 len2 cap2 : Nat) (L2 : List ByteArray) (hr2 : RdS w ao2 b2 off2 len2 L2) (hsz2 : ∀ s ∈ L2, s.size ≤ 140737488351232) (hmx2 : len2 ≤ 8796093021952) (hno2 : ao2 = none → cap2 = 0)
    (ao : Option Addr) (b off n c : Nat) (l : Nat → OpV) (ho : RdO w ao b off n l) :
    Calls Tryd.prog 3 #[.agg #[.int .i64 K1, .bool fr1, .int .u64 a1, .slice ao1 len1 cap1], .agg #[.int .i64 K2, .bool fr2, .int .u64 a2, .slice ao2 len2 cap2], .slice ao n c] w fun e w' => e = .returned (.bool true) ∧ Below w.heap.size w w' := by
  have hw1 := bounds_u64 ha1
  have hw2 := bounds_u64 ha2
  obtain ⟨n1, rfl⟩ : ∃ n0 : Nat, a1 = (n0 : Int) := ⟨a1.toNat, by omega⟩
  obtain ⟨n2, rfl⟩ : ∃ n0 : Nat, a2 = (n0 : Int) := ⟨a2.toNat, by omega⟩
  obtain rfl := hr1.hl
  obtain rfl := hr2.hl
  exact pplays_walk w ht hR K1 fr1 n1 _ L1 ⟨by omega, ⟨ao1, b1, off1, cap1, rfl, hr1, hno1⟩, hmx1, hsz1⟩ K2 fr2 n2 _ L2 ⟨by omega, ⟨ao2, b2, off2, cap2, rfl, hr2, hno2⟩, hmx2, hsz2⟩ ao b off n c l ho
end Go.Proofs.YtncndefggegicabDoor
