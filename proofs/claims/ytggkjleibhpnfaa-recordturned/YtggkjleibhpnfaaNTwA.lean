/-
  The walk of RecordTurned. Own work.
-/
import Derived.Test.YtggkjleibhpnfaaNFix
import Derived.Test.YtggkjleibhpnfaaNTur
import Derived.Deep.LoopGhost
namespace Go.Proofs.Ytggkjleibhpnfaa
open Go.RowKit
attribute [local go_sem ↓] Go.wp_at_zero Go.wp_at_succ
theorem bset5 {B : Nat} {a W : World} (h : Below B a W) {b : Nat} (hb : B ≤ b) (v0 v1 v2 v3 v4 : Value) : Below B a (((((W.setCell ⟨b, 0, none⟩ v0).setCell ⟨b, 1, none⟩ v1).setCell ⟨b, 2, none⟩ v2).setCell ⟨b, 3, none⟩ v3).setCell ⟨b, 4, none⟩ v4) :=
  ((((h.setCell hb _).setCell hb _).setCell hb _).setCell hb _).setCell hb _
set_option maxRecDepth 100000 in
set_option maxHeartbeats 4000000 in
theorem turned_walk (w : World) (item : ByteArray) (hi : item.size ≤ 140737488351232) (p : Nat) (hp : p < 18446744073709551616) (dg : ByteArray) (hdg : dg.size ≤ 140737488351232) (k : Int) (ma mb mc : Nat) (ha : ma < 18446744073709551616) (hb : mb < 18446744073709551616) (hc : mc < 18446744073709551616) (md : BitVec 32) (at' : Int) (hat : -9223372036854775808 ≤ at' ∧ at' ≤ 9223372036854775807) (bt : Nat) (hbt : bt < 256) :
    Calls Try.prog 4 #[.string item, .int .u64 (p : Int), .string dg, .agg #[.int .i64 k, .int .u64 (ma : Int), .int .u64 (mb : Int), .int .u64 (mc : Int), .int .u32 (md.toNat : Int)], .int .i64 at', .int .u8 (bt : Int)] w fun e w' => e = .returned (.bool true) ∧ Below w.heap.size w w' := by
  obtain ⟨d, hd⟩ : ∃ d, md.toNat = d := ⟨_, rfl⟩
  have HF : Hid (∀ W, Calls Try.prog 7 #[] W fun e w' => e = .returned (.bool true) ∧ Below W.heap.size W w') := fun W => fixed_any W
  rw [hd]
  obtain ⟨wa, hwa⟩ : ∃ wa, w.alloc (.cells #[.int .i64 k, .int .u64 (ma : Int), .int .u64 (mb : Int), .int .u64 (mc : Int), .int .u32 (d : Int)] 25) = wa := ⟨_, rfl⟩
  have HA : Hid (wa.heap[w.heap.size]? = some (.cells #[.int .i64 k, .int .u64 (ma : Int), .int .u64 (mb : Int), .int .u64 (mc : Int), .int .u32 (d : Int)] 25 (0, 0)) ∧ Below w.heap.size w wa ∧ w.heap.size < wa.heap.size) := by
    rw [← hwa]
    exact ⟨new1 _ _, bal (Below.refl _ _) _, by simp⟩
  go_enter Try.func4, Try.ntmps4
  go_upto_if 28 with (go_at_call 7; with_reducible refine (HF.out _).mono ?_; rintro e w1 ⟨rfl, hb1⟩)
  have HB : Hid (w1.heap[w.heap.size]? = some (.cells #[.int .i64 k, .int .u64 (ma : Int), .int .u64 (mb : Int), .int .u64 (mc : Int), .int .u32 (d : Int)] 25 (0, 0)) ∧ Below w.heap.size w w1) := ⟨(hb1.block _ HA.out.2.2).trans HA.out.1, bnext HA.out.2.1 hb1⟩
  clear hwa HF hb1 HA
  go_cut [5] from 27 to 28 (fun x wx => ∃ b : Nat, Hid (0 < b ∧ b < 256) ∧ x = .int .u8 (b : Int) ∧ wx = w1)
  case first =>
    by_cases h0 : bt = 0
    · subst h0
      go_wp2_with fail
      go_meet
      case rel => exact ⟨1, ⟨by decide, by decide⟩, rfl, rfl⟩
    · have z0 : ((bt : Int) == 0) = false := by simp; omega
      go_wp2_with fail
      go_meet
      case rel => exact ⟨bt, ⟨by omega, hbt⟩, rfl, rfl⟩
  case rest =>
    obtain ⟨b, HBT, rfl, rfl⟩ := hcut
    clear hbt
    go_upto_region 5 with fail
    go_cut [36] from 29 to 35 (fun x wx => x = .bool (decide (dg.size < 1 ∨ 32 < dg.size)) ∧ wx = wc)
    case first =>
      by_cases h1 : dg.size < 1
      · have z1 : (dg.size : Int) < 1 := by omega
        have z3 : decide (dg.size < 1 ∨ 32 < dg.size) = true := decide_eq_true (.inl h1)
        go_wp2_with fail
        go_meet
        case rel => exact ⟨by rw [z3], rfl⟩
      · have z1 : ¬ (dg.size : Int) < 1 := by omega
        by_cases h2 : 32 < dg.size
        · have z2 : (32 : Int) < (dg.size : Int) := by omega
          have z3 : decide (dg.size < 1 ∨ 32 < dg.size) = true := decide_eq_true (.inr h2)
          go_wp2_with fail
          go_meet
          case rel => exact ⟨by rw [z3], rfl⟩
        · have z2 : ¬ (32 : Int) < (dg.size : Int) := by omega
          have z3 : decide (dg.size < 1 ∨ 32 < dg.size) = false := decide_eq_false (by omega)
          go_wp2_with fail
          go_meet
          case rel => exact ⟨by rw [z3], rfl⟩
    obtain ⟨rfl, rfl⟩ := hcut
    go_upto_if 36 with fail
    go_cut [2] from 29 to 36 (fun x wx => ∃ D : ByteArray, 1 ≤ D.size ∧ D.size ≤ 32 ∧ x = .string D ∧ wx = wc)
    case first =>
      by_cases h1 : dg.size < 1 ∨ 32 < dg.size
      · rw [decide_eq_true h1]
        go_wp2_with fail
        go_meet
        case rel => exact ⟨⟨#[100]⟩, by decide, by decide, rfl, rfl⟩
      · rw [decide_eq_false h1]
        go_wp2_with fail
        go_meet
        case rel => exact ⟨dg, by omega, by omega, rfl, rfl⟩
    obtain ⟨D, hD1, hD2, rfl, rfl⟩ := hcut
    clear hdg
    have c0 : wc.cell? ⟨w.heap.size, 0, none⟩ = some (.int .i64 k) := by rw [cell_of_row wc _ _ _ _ (0, 0) HB.out.1]; rfl
    have f0 : wc.frozen? ⟨w.heap.size, 0, none⟩ = false := frozen_of_row wc _ _ _ _ HB.out.1
    go_upto_region 7 with fail
    go_cut [44] from 37 to 43 (fun x wx => x = .bool (decide (k < 1 ∨ 32 < k)) ∧ wx = wc)
    case first =>
      by_cases h1 : k < 1
      · have z3 : decide (k < 1 ∨ 32 < k) = true := decide_eq_true (.inl h1)
        go_wp2_with fail
        go_meet
        case rel => exact ⟨by rw [z3], rfl⟩
      · by_cases h2 : 32 < k
        · have z3 : decide (k < 1 ∨ 32 < k) = true := decide_eq_true (.inr h2)
          go_wp2_with fail
          go_meet
          case rel => exact ⟨by rw [z3], rfl⟩
        · have z3 : decide (k < 1 ∨ 32 < k) = false := decide_eq_false (by omega)
          go_wp2_with fail
          go_meet
          case rel => exact ⟨by rw [z3], rfl⟩
    obtain ⟨rfl, rfl⟩ := hcut
    go_upto_if 44 with fail
    go_cut [] from 37 to 45 (fun wx => ∃ K : Int, 1 ≤ K ∧ K ≤ 32 ∧ Hid (wx.heap[w.heap.size]? = some (.cells #[.int .i64 K, .int .u64 (ma : Int), .int .u64 (mb : Int), .int .u64 (mc : Int), .int .u32 (d : Int)] 25 (0, 0)) ∧ Below w.heap.size w wx))
    case first =>
      by_cases h1 : k < 1 ∨ 32 < k
      · rw [decide_eq_true h1]
        go_wp2_with fail
        go_meet
        case rel => exact ⟨1, by decide, by decide, heap_setCell_same wc w.heap.size 0 _ _ _ HB.out.1, HB.out.2.setCell (Nat.le_refl _) _⟩
      · rw [decide_eq_false h1]
        go_wp2_with fail
        go_meet
        case rel => exact ⟨k, by omega, by omega, HB⟩
    clear HB c0 f0
    obtain ⟨K, hK1, hK2, HB⟩ := hcut
    go_upto_if 48 with fail
    go_cut [0] from 46 to 50 (fun x wx => ∃ I : ByteArray, I.size ≤ 2000 ∧ x = .string I ∧ wx = wc)
    case first =>
      by_cases h1 : item.size ≤ 2000
      · have z1 : ¬ (2000 : Int) < (item.size : Int) := by omega
        go_wp2_with fail
        go_meet
        case rel => exact ⟨item, h1, rfl, rfl⟩
      · have z1 : (2000 : Int) < (item.size : Int) := by omega
        have z2 : (2000 : Int) ≤ (item.size : Int) := by omega
        go_wp2_with fail
        go_meet
        case rel => exact ⟨item.extract 0 2000, by rw [← size_list, ext_take, List.length_take]; omega, rfl, rfl⟩
    obtain ⟨I, hI, rfl, rfl⟩ := hcut
    clear hi
    obtain ⟨P, hP⟩ : ∃ t : ByteArray, (⟨(payS I.data.toList).toArray⟩ : ByteArray) = t := ⟨_, rfl⟩
    obtain ⟨N, hN⟩ : ∃ t : ByteArray, (⟨(nodS p D.data.toList).toArray⟩ : ByteArray) = t := ⟨_, rfl⟩
    obtain ⟨M, hM⟩ : ∃ t : ByteArray, (⟨(mrk ⟨K, ma, mb, mc, md⟩).toArray⟩ : ByteArray) = t := ⟨_, rfl⟩
    have HL : Hid (P.data.toList = pay I.data.toList ∧ N.data.toList = nod p D.data.toList ∧ M.data.toList = mrk ⟨K, ma, mb, mc, md⟩ ∧ P.size = I.size + 8 ∧ N.size = 40 ∧ M.size = 64) := by
      have e1 : P.data.toList = pay I.data.toList := by rw [← hP, payS, if_pos (by rw [size_list]; omega)]
      have e2 : N.data.toList = nod p D.data.toList := by rw [← hN, nodS, if_pos (by rw [size_list]; omega)]
      have e3 : M.data.toList = mrk ⟨K, ma, mb, mc, md⟩ := by rw [← hM]
      exact ⟨e1, e2, e3, by rw [← size_list, e1, pay_len, size_list], by rw [← size_list, e2, nod_len _ _ (by rw [size_list]; omega)], by rw [← size_list, e3, mrk_len _ ⟨hK1, hK2⟩]⟩
    have H1 : Hid (∀ W, Calls Try.prog 8 #[.string I] W fun e w' => e = .returned (.string P) ∧ Below W.heap.size W w') := fun W => payload_any W I (by omega) P hP
    have H2 : Hid (∀ W, Calls Try.prog 11 #[.int .u64 (p : Int), .string D] W fun e w' => e = .returned (.string N) ∧ Below W.heap.size W w') := fun W => node_any W p hp D (by omega) N hN
    have H3 : Hid (∀ W, Calls Try.prog 14 #[.agg #[.int .i64 K, .int .u64 (ma : Int), .int .u64 (mb : Int), .int .u64 (mc : Int), .int .u32 (d : Int)]] W fun e w' => e = .returned (.agg #[.int .i64 K, .int .u64 (ma : Int), .int .u64 (mb : Int), .int .u64 (mc : Int), .int .u32 (d : Int)]) ∧ Below W.heap.size W w') := fun W => mine_any W _ _ _ _ _
    have H4 : Hid (∀ W, Calls Try.prog 13 #[.agg #[.int .i64 K, .int .u64 (ma : Int), .int .u64 (mb : Int), .int .u64 (mc : Int), .int .u32 (d : Int)]] W fun e w' => e = .returned (.string M) ∧ Below W.heap.size W w') := fun W => by
      have := mark_any W ⟨K, ma, mb, mc, md⟩ ha hb hc M hM
      unfold mC at this
      simp only [hd] at this
      exact this
    have HC : Hid (∀ Z, Below wc.heap.size wc Z → Z.cell? ⟨w.heap.size, 0, none⟩ = some (.int .i64 K) ∧ Z.cell? ⟨w.heap.size, 1, none⟩ = some (.int .u64 (ma : Int)) ∧ Z.cell? ⟨w.heap.size, 2, none⟩ = some (.int .u64 (mb : Int)) ∧ Z.cell? ⟨w.heap.size, 3, none⟩ = some (.int .u64 (mc : Int)) ∧ Z.cell? ⟨w.heap.size, 4, none⟩ = some (.int .u32 (d : Int))) := fun Z hz => by
      have hh : Z.heap[w.heap.size]? = some (.cells #[.int .i64 K, .int .u64 (ma : Int), .int .u64 (mb : Int), .int .u64 (mc : Int), .int .u32 (d : Int)] 25 (0, 0)) := (hz.block _ (Array.getElem?_eq_some_iff.1 HB.out.1).1).trans HB.out.1
      refine ⟨?_, ?_, ?_, ?_, ?_⟩
      iterate 5 (rw [cell_of_row Z _ _ _ _ (0, 0) hh]; rfl)
    clear hP hN hM
    go_upto_region 11 with fail
    have tw := bdrew (Below.refl wc.heap.size wc)
    go_cut [13] from 51 to 59 (fun x wx => ∃ bl, x = .slice (some ⟨bl, 0, none⟩) 3 3 ∧ Hid (wx.heap[bl]? = some (.cells #[.string P, .string N, .string M] 9 (0, 0)) ∧ Below w.heap.size w wx))
    case first =>
      go_region_held3 (fun Z => Z.cell? ⟨w.heap.size, 0, none⟩ = some (.int .i64 K) ∧ Z.cell? ⟨w.heap.size, 1, none⟩ = some (.int .u64 (ma : Int)) ∧ Z.cell? ⟨w.heap.size, 2, none⟩ = some (.int .u64 (mb : Int)) ∧ Z.cell? ⟨w.heap.size, 3, none⟩ = some (.int .u64 (mc : Int)) ∧ Z.cell? ⟨w.heap.size, 4, none⟩ = some (.int .u32 (d : Int))) (first | assumption | (exact HC.out _ tw) | (exact HC.out _ (bal tw _))) (first
        | (go_at_call 8; with_reducible refine (H1.out _).mono ?_; rintro e w4 ⟨rfl, hb4⟩; replace tw := bnext tw hb4; clear hb4)
        | (go_at_call 11; with_reducible refine (H2.out _).mono ?_; rintro e w4 ⟨rfl, hb4⟩; replace tw := bnext tw hb4; clear hb4)
        | (go_at_call 14; with_reducible refine (H3.out _).mono ?_; rintro e w4 ⟨rfl, hb4⟩; replace tw := bnext tw hb4; clear hb4)
        | (go_at_call 13; with_reducible refine (H4.out _).mono ?_; rintro e w4 ⟨rfl, hb4⟩; replace tw := bnext tw hb4; clear hb4))
      all_goals
        go_wp2_with fail
        go_meet
        case rel => exact ⟨_, rfl, new1 _ _, bal (bnext HB.out.2 tw) _⟩
    clear HB HC H1 H2 H3 H4 tw
    obtain ⟨bl, rfl, HB⟩ := hcut
    obtain ⟨yb, hyb⟩ : ∃ y : UInt8, y.toNat = b := ⟨UInt8.ofNat b, by rw [UInt8.toNat_ofNat']; have := HBT.out; omega⟩
    have HYB : Hid (yb.toNat = b ∧ yb ≠ 0) := ⟨hyb, by rintro rfl; have := HBT.out; simp at hyb; omega⟩
    have HAT : Hid (-9223372036854775808 ≤ at' ∧ at' ≤ 9223372036854775807) := hat
    have HK : Hid (1 ≤ K ∧ K ≤ 32 ∧ 1 ≤ D.size ∧ D.size ≤ 32 ∧ I.size ≤ 2000 ∧ p < 18446744073709551616) := ⟨hK1, hK2, hD1, hD2, hI, hp⟩
    clear hyb HBT hat ha hb hc hd hK1 hK2 hD1 hD2 hI hp
    go_wp2
    go_loopg [14] 3 (fun g i wr => ∃ j : Nat, j ≤ 3 ∧ g = 3 - j ∧ i = .int .i64 (j : Int) ∧ Hid (wr.heap[bl]? = some (.cells #[.string P, .string N, .string M] 9 (0, 0)) ∧ Below w.heap.size w wr))
    case atStart =>
      go_light
      exact ⟨0, by omega, rfl, rfl, HB⟩
    case round =>
      clear HB
      obtain ⟨j, hj, rfl, rfl, HB⟩ := hrel
      by_cases hlt : j < 3
      · have hz : (j : Int) < 3 := by omega
        have hz0 : (0 : Int) ≤ (j : Int) := by omega
        obtain ⟨T, HT⟩ : ∃ T : ByteArray, Hid ((#[Value.string P, Value.string N, Value.string M] : Array Value)[j]? = some (.string T) ∧ ((j = 0 ∧ T = P) ∨ (j = 1 ∧ T = N) ∨ (j = 2 ∧ T = M)) ∧ 8 ≤ T.size ∧ T.size ≤ 2008) := by
          obtain ⟨_, _, _, e1, e2, e3⟩ := HL.out
          have := HK.out
          have h3 : j = 0 ∨ j = 1 ∨ j = 2 := by omega
          rcases h3 with rfl | rfl | rfl
          · exact ⟨P, rfl, .inl ⟨rfl, rfl⟩, by omega, by omega⟩
          · exact ⟨N, rfl, .inr (.inl ⟨rfl, rfl⟩), by omega, by omega⟩
          · exact ⟨M, rfl, .inr (.inr ⟨rfl, rfl⟩), by omega, by omega⟩
        have HZ : Hid (∀ Z, Below wr.heap.size wr Z → Z.cell? ⟨bl, j, none⟩ = some (.string T) ∧ Z.cell? ⟨bl, 0, none⟩ = some (.string P) ∧ Z.cell? ⟨bl, 1, none⟩ = some (.string N) ∧ Z.cell? ⟨bl, 2, none⟩ = some (.string M)) := fun Z hz => by
          have hh : Z.heap[bl]? = some (.cells #[.string P, .string N, .string M] 9 (0, 0)) := (hz.block _ (Array.getElem?_eq_some_iff.1 HB.out.1).1).trans HB.out.1
          refine ⟨?_, ?_, ?_, ?_⟩
          · rw [cell_of_row Z _ _ _ _ (0, 0) hh]; exact HT.out.1
          iterate 3 (rw [cell_of_row Z _ _ _ _ (0, 0) hh]; rfl)
        have cj := (HZ.out wr (Below.refl _ _)).1
        obtain ⟨n, hn⟩ : ∃ n, T.size = n := ⟨_, rfl⟩
        have hn8 : (8 : Int) ≤ (n : Int) := by have := HT.out.2.2; omega
        have hn9 : (n : Int) ≤ 2008 := by have := HT.out.2.2; omega
        have y1 : ¬ (n : Int) < 8 := by omega
        have y2 : ((n : Int) == 0) = false := by simp; omega
        obtain ⟨r, q, kk, e1, e2, e3, hkk⟩ : ∃ (r : Int) (q kk : Nat), at'.tmod (n : Int) = r ∧ r + (n : Int) = (q : Int) ∧ (q : Int).tmod (n : Int) = (kk : Int) ∧ kk < n := by
          have hl := Int.lt_tmod_of_pos at' (show (0 : Int) < (n : Int) by omega)
          have hq0 : 0 ≤ at'.tmod (n : Int) + (n : Int) := by omega
          refine ⟨_, (at'.tmod (n : Int) + (n : Int)).toNat, ((at'.tmod (n : Int) + (n : Int)).toNat) % n, rfl, (Int.toNat_of_nonneg hq0).symm, rfl, Nat.mod_lt _ (by omega)⟩
        have e2w : IntKind.i64.wrap (r + (n : Int)) = (q : Int) := by rw [IntKind.wrap_i64, e2]; have : (q : Int) ≤ 4016 := by { have := Int.tmod_lt_of_pos at' (show (0 : Int) < (n : Int) by omega); omega }; omega
        have e2x : wrap64 (q : Int) = (q : Int) := by
          have : (q : Int) ≤ 4016 := by { have := Int.tmod_lt_of_pos at' (show (0 : Int) < (n : Int) by omega); omega }
          unfold wrap64
          omega
        go_upto_region 19 with fail
        clear e1 e2 e2w e2x e3 y1 y2 cj
        have HKK : Hid (kk < n ∧ T.size = n) := ⟨hkk, hn⟩
        have k0 : (0 : Int) ≤ (kk : Int) := by omega
        have k1 : (kk : Int) < (n : Int) := by omega
        obtain ⟨nP, sP⟩ : ∃ n, P.size = n := ⟨_, rfl⟩
        obtain ⟨nN, sN⟩ : ∃ n, N.size = n := ⟨_, rfl⟩
        obtain ⟨nM, sM⟩ : ∃ n, M.size = n := ⟨_, rfl⟩
        have hnP : 8 ≤ nP ∧ nP ≤ 2008 ∧ nN = 40 ∧ nM = 64 := by have := HL.out.2.2.2; have := HK.out; omega
        obtain ⟨kP, eP, hkP⟩ : ∃ k : Nat, (kk : Int).tmod (nP : Int) = (k : Int) ∧ k < nP := ⟨kk % nP, rfl, Nat.mod_lt _ (by omega)⟩
        obtain ⟨kN, eN, hkN⟩ : ∃ k : Nat, (kk : Int).tmod (nN : Int) = (k : Int) ∧ k < nN := ⟨kk % nN, rfl, Nat.mod_lt _ (by omega)⟩
        obtain ⟨kM, eM, hkM⟩ : ∃ k : Nat, (kk : Int).tmod (nM : Int) = (k : Int) ∧ k < nM := ⟨kk % nM, rfl, Nat.mod_lt _ (by omega)⟩
        obtain ⟨xP, hxP⟩ : ∃ x, P.extract 0 kP = x := ⟨_, rfl⟩
        obtain ⟨xN, hxN⟩ : ∃ x, N.extract 0 kN = x := ⟨_, rfl⟩
        obtain ⟨xM, hxM⟩ : ∃ x, M.extract 0 kM = x := ⟨_, rfl⟩
        have HRP : Hid (∀ W, Calls Try.prog 9 #[.string xP] W fun e w' => e = .returned (.tuple #[.string ⟨#[]⟩, .int .i64 0, .int .i64 180]) ∧ Below W.heap.size W w') := fun W => rpayload_any W xP (by rw [← size_list, ← hxP, ext_take, List.length_take]; omega) _ 0 180 (by
          rw [← hxP, ext_take, HL.out.1]
          exact rpT_no (cut_pay _ kP (by rw [size_list]; have := HK.out; omega) (by rw [← HL.out.1, size_list, sP]; exact hkP)))
        have HRN : Hid (∀ W, Calls Try.prog 10 #[.int .i64 (D.size : Int), .int .u64 (p : Int), .string xN] W fun e w' => e = .returned (.tuple #[.string ⟨#[]⟩, .int .i64 180]) ∧ Below W.heap.size W w') := fun W => rnode_any W D.size p HK.out.2.2.2.2.2 xN _ 180 (rnT_no (by have := HK.out; omega) (cut_nod _ _ _ (by rw [← hxN, ext_take, List.length_take]; omega)))
        have HRM : Hid (∀ W, Calls Try.prog 12 #[.string xM] W fun e w' => e = .returned (.tuple #[.agg #[.int .i64 0, .int .u64 0, .int .u64 0, .int .u64 0, .int .u32 0], .int .i64 180]) ∧ Below W.heap.size W w') := fun W => rmark_any W xM MV.z 180 (rmT_no (cut_mrk _ (by rw [← hxM, ext_take, List.length_take]; omega)))
        have g1 : ((nP : Int) == 0) = false := by simp; omega
        have hP1 : ¬ (nP : Int) = 0 := by omega
        have hP2 : ¬ nP = 0 := by omega
        have g2 : ((nN : Int) == 0) = false := by simp; omega
        have hN1 : ¬ (nN : Int) = 0 := by omega
        have hN2 : ¬ nN = 0 := by omega
        have g3 : ((nM : Int) == 0) = false := by simp; omega
        have hM1 : ¬ (nM : Int) = 0 := by omega
        have hM2 : ¬ nM = 0 := by omega
        have g4 : (0 : Int) ≤ (kP : Int) := by omega
        have g5 : (0 : Int) ≤ (kN : Int) := by omega
        have g6 : (0 : Int) ≤ (kM : Int) := by omega
        have g7 : (kP : Int) ≤ (nP : Int) := by omega
        have g8 : (kN : Int) ≤ (nN : Int) := by omega
        have g9 : (kM : Int) ≤ (nM : Int) := by omega
        have tw := bdrew (Below.refl wr.heap.size wr)
        clear hkP hkN hkM hkk hnP
        go_cut [17, 18, 19] from 78 to 92 (fun _ _ c wx => c = .int .i64 180 ∧ Hid (Below wr.heap.size wr wx))
        case first =>
          clear eN eM
          go_region_held3 (fun Z => Z.cell? ⟨bl, 0, none⟩ = some (.string P) ∧ Z.cell? ⟨bl, 1, none⟩ = some (.string N) ∧ Z.cell? ⟨bl, 2, none⟩ = some (.string M)) (first | assumption | (exact (HZ.out _ tw).2)) (first
            | (go_at_call 9; with_reducible refine (HRP.out _).mono ?_; rintro e w4 ⟨rfl, hb4⟩; replace tw := bnext tw hb4; clear hb4))
          all_goals
            go_wp2_with fail
            go_meet
            case rel => exact ⟨rfl, tw⟩
        clear HRP eP
        obtain ⟨rfl, HC1⟩ := hcut
        replace tw := bdrew HC1.out
        go_upto_region 20 with fail
        go_cut [20, 21] from 93 to 109 (fun _ c wx => c = .int .i64 180 ∧ Hid (Below wr.heap.size wr wx))
        case first =>
          clear eM
          go_region_held3 (fun Z => Z.cell? ⟨bl, 0, none⟩ = some (.string P) ∧ Z.cell? ⟨bl, 1, none⟩ = some (.string N) ∧ Z.cell? ⟨bl, 2, none⟩ = some (.string M)) (first | assumption | (exact (HZ.out _ tw).2)) (first
            | (go_at_call 10; with_reducible refine (HRN.out _).mono ?_; rintro e w4 ⟨rfl, hb4⟩; replace tw := bnext tw hb4; clear hb4))
          all_goals
            go_wp2_with fail
            go_meet
            case rel => exact ⟨rfl, tw⟩
        clear HRN eN HC1
        obtain ⟨rfl, HC1⟩ := hcut
        replace tw := bdrew HC1.out
        go_upto_region 21 with fail
        have HBZ : Hid (∀ Z, Below (wc.alloc (.cells #[.int .i64 0, .int .u64 0, .int .u64 0, .int .u64 0, .int .u32 0] 34)).drew.heap.size (wc.alloc (.cells #[.int .i64 0, .int .u64 0, .int .u64 0, .int .u64 0, .int .u32 0] 34)).drew Z → (Z.cell? ⟨wc.heap.size, 0, none⟩ = some (.int .i64 0) ∧ Z.cell? ⟨wc.heap.size, 1, none⟩ = some (.int .u64 0) ∧ Z.cell? ⟨wc.heap.size, 2, none⟩ = some (.int .u64 0) ∧ Z.cell? ⟨wc.heap.size, 3, none⟩ = some (.int .u64 0) ∧ Z.cell? ⟨wc.heap.size, 4, none⟩ = some (.int .u32 0)) ∧ Z.frozen? ⟨wc.heap.size, 0, none⟩ = false ∧ Z.frozen? ⟨wc.heap.size, 1, none⟩ = false ∧ Z.frozen? ⟨wc.heap.size, 2, none⟩ = false ∧ Z.frozen? ⟨wc.heap.size, 3, none⟩ = false ∧ Z.frozen? ⟨wc.heap.size, 4, none⟩ = false) := fun Z hz => by
          have hh : Z.heap[wc.heap.size]? = some (.cells #[.int .i64 0, .int .u64 0, .int .u64 0, .int .u64 0, .int .u32 0] 34 (0, 0)) := (hz.block wc.heap.size (by show _ < (wc.alloc _).heap.size; simp)).trans (new1 wc _)
          refine ⟨⟨?_, ?_, ?_, ?_, ?_⟩, ?_, ?_, ?_, ?_, ?_⟩
          iterate 5 (rw [cell_of_row Z _ _ _ _ (0, 0) hh]; rfl)
          iterate 5 (exact frozen_of_row Z _ _ _ _ hh)
        go_cut [22, 23] from 110 to 123 (fun _ c wx => c = .int .i64 180 ∧ Hid (Below wr.heap.size wr wx))
        case first =>
          go_region_held3 (fun Z => Z.cell? ⟨bl, 0, none⟩ = some (.string P) ∧ Z.cell? ⟨bl, 1, none⟩ = some (.string N) ∧ Z.cell? ⟨bl, 2, none⟩ = some (.string M)) (first | (with_reducible assumption) | (with_reducible exact (HZ.out _ tw).2) | (with_reducible exact (HZ.out _ (bdrew (bal HC1.out _))).2) | (with_reducible exact (HZ.out _ (bal tw _)).2) | (with_reducible exact (HZ.out _ (bset5 tw HC1.out.size _ _ _ _ _)).2)) (first
            | (go_at_call 12; with_reducible refine (HRM.out _).mono ?_; rintro e w4 ⟨rfl, hb4⟩; (first | (replace tw : Below wr.heap.size wr w4 := by (with_reducible exact bnext tw hb4)); clear hb4 | (obtain ⟨⟨q0, q1, q2, q3, q4⟩, f0, f1, f2, f3, f4⟩ := HBZ.out _ hb4; replace tw : Below wr.heap.size wr w4 := bnext (bdrew (bal HC1.out _)) hb4; clear hb4))))
          all_goals
            go_wp2_with fail
            go_meet
            case rel =>
              refine ⟨rfl, ?_⟩
              show Below _ _ _
              first | (with_reducible exact tw) | (with_reducible exact bal tw _) | (with_reducible exact bset5 tw HC1.out.size _ _ _ _ _)
        clear HRM eM HC1 HBZ tw
        obtain ⟨rfl, HC1⟩ := hcut
        obtain ⟨cap, w5, kb, hcap, hy5, hb5, hlt5⟩ := bytes_of wc T n hn
        have cj := (HZ.out wc HC1.out).1
        obtain ⟨v, hv⟩ : ∃ v : UInt8, T.data.toList.getD kk 0 ^^^ yb = v := ⟨_, rfl⟩
        obtain ⟨g, hg⟩ : ∃ g, wc.heap.size = g := ⟨_, rfl⟩
        rw [hg] at kb hy5 hlt5
        have hTl : T.data.toList.length = n := by rw [size_list, hn]
        have c5 := hy5.at (j := kk) (by rw [hTl]; exact HKK.out.1)
        have f5 := hy5.free (j := kk) (by rw [hTl]; exact HKK.out.1)
        obtain ⟨t5, ht5⟩ : ∃ t, (T.data.toList.getD kk 0).toNat = t := ⟨_, rfl⟩
        rw [ht5] at c5
        have x5 : bits .xor .u8 (t5 : Int) (b : Int) = (v.toNat : Int) := by
          rw [← ht5, ← HYB.out.1, ← hv, u8_xor_nat _ _ (UInt8.toNat_lt _) (UInt8.toNat_lt _), UInt8.toNat_xor]
        obtain ⟨w6, hw6⟩ : ∃ w6, w5.setCell ⟨g, kk, none⟩ (.int .u8 (v.toNat : Int)) = w6 := ⟨_, rfl⟩
        obtain ⟨U, hU⟩ : ∃ U : ByteArray, (⟨(T.data.toList.set kk v).toArray⟩ : ByteArray) = U := ⟨_, rfl⟩
        have hbl : bl < wr.heap.size := (Array.getElem?_eq_some_iff.1 HB.out.1).1
        have HB6 : Hid ((convert 41 9 (.slice (some ⟨g, 0, none⟩) n cap)).run Try.prog w6 = .ok (.string U) w6 ∧ w6.heap[bl]? = some (.cells #[.string P, .string N, .string M] 9 (0, 0)) ∧ Below w.heap.size w w6) := by
          have hy6 : Byt w6 g (T.data.toList.set kk v) := by rw [← hw6]; exact hy5.set kk v _ rfl
          have hg1 : wr.heap.size ≤ g := by rw [← hg]; exact HC1.out.size
          refine ⟨hy6.conv (k := 0) (n := n) (by rw [List.length_set, hTl]; omega) 0 (fun _ => rfl) cap U (by rw [List.drop_zero, List.take_of_length_le (by rw [List.length_set, hTl]; exact Nat.le_refl _)]; exact hU), ?_, ?_⟩
          · rw [← hw6, Below.heap_setCell _ _ _ _ (by show bl ≠ g; omega), hb5.block _ (by omega), HC1.out.block _ hbl]
            exact HB.out.1
          · rw [← hw6]
            exact ((bnext (bnext HB.out.2 HC1.out) hb5).setCell (by have := HB.out.2.size; show w.heap.size ≤ g; omega) _)
        have HUL : Hid (U.data.toList = T.data.toList.set kk v ∧ v ≠ T.data.toList.getD kk 0 ∧ U.size = n) := by
          have e : U.data.toList = T.data.toList.set kk v := by rw [← hU]
          exact ⟨e, by rw [← hv]; exact xor_ne _ _ HYB.out.2, by rw [← size_list, e, List.length_set, hTl]⟩
        go_upto_region 26 with fail
        have kc := HB6.out.1
        have HBn : Hid (∀ Z, Below w6.heap.size w6 Z → Hid (Z.heap[bl]? = some (.cells #[.string P, .string N, .string M] 9 (0, 0)) ∧ Below w.heap.size w Z)) := fun Z hz => ⟨(hz.block _ (Array.getElem?_eq_some_iff.1 HB6.out.2.1).1).trans HB6.out.2.1, bnext HB6.out.2.2 hz⟩
        clear kb hy5 hlt5 hb5 c5 f5 ht5 x5 hv hU hw6 cj HZ hg
        rcases HT.out.2.1 with ⟨rfl, rfl⟩ | ⟨rfl, rfl⟩ | ⟨rfl, rfl⟩
        · by_cases h4 : 4 ≤ kk
          · have z4 : (4 : Int) ≤ (kk : Int) := by omega
            have HR : Hid (∀ W, Calls Try.prog 9 #[.string U] W fun e w' => e = .returned (.tuple #[.string ⟨#[]⟩, .int .i64 0, .int .i64 180]) ∧ Below W.heap.size W w') := fun W => rpayload_any W U (by have := HUL.out.2.2; omega) _ 0 180 (by
              have q := HUL.out
              rw [q.1, HL.out.1]
              rw [HL.out.1] at q
              exact rpT_no (turned_pay _ kk v (by rw [size_list]; have := HK.out; omega) h4 (by rw [← HL.out.1, size_list, hn]; exact HKK.out.1) q.2.1))
            clear HUL HL
            go_wp2_with (go_at_call 9; with_reducible refine (HR.out _).mono ?_; rintro e w7 ⟨rfl, hb7⟩)
            go_roundg (3 - (0 + 1))
            case rel =>
              go_light
              exact ⟨0 + 1, by omega, rfl, by go_num, HBn.out _ hb7⟩
            case measure => go_light; omega
          · have z4 : ¬ (4 : Int) ≤ (kk : Int) := by omega
            clear HUL HL
            go_wp2
            go_roundg (3 - (0 + 1))
            case rel =>
              go_light
              exact ⟨0 + 1, by omega, rfl, by go_num, HBn.out _ (Below.refl _ _)⟩
            case measure => go_light; omega
        · have HR : Hid (∀ W, Calls Try.prog 10 #[.int .i64 (D.size : Int), .int .u64 (p : Int), .string U] W fun e w' => e = .returned (.tuple #[.string ⟨#[]⟩, .int .i64 180]) ∧ Below W.heap.size W w') := fun W => rnode_any W D.size p HK.out.2.2.2.2.2 U _ 180 (by
            have q := HUL.out
            rw [q.1, HL.out.2.1]
            rw [HL.out.2.1] at q
            exact rnT_no (by have := HK.out; omega) (turned_nod _ p p _ kk v (by rw [size_list]; exact HK.out.2.2.2.1) (by have := HKK.out; have := HL.out.2.2.2; omega) q.2.1))
          clear HUL HL
          go_wp2_with (go_at_call 10; with_reducible refine (HR.out _).mono ?_; rintro e w7 ⟨rfl, hb7⟩)
          go_roundg (3 - (1 + 1))
          case rel =>
            go_light
            exact ⟨1 + 1, by omega, rfl, by go_num, HBn.out _ hb7⟩
          case measure => go_light; omega
        · have HR : Hid (∀ W, Calls Try.prog 12 #[.string U] W fun e w' => e = .returned (.tuple #[.agg #[.int .i64 0, .int .u64 0, .int .u64 0, .int .u64 0, .int .u32 0], .int .i64 180]) ∧ Below W.heap.size W w') := fun W => rmark_any W U MV.z 180 (by
            have q := HUL.out
            rw [q.1, HL.out.2.2.1]
            rw [HL.out.2.2.1] at q
            exact rmT_no (turned_mrk _ kk v ⟨HK.out.1, HK.out.2.1⟩ (by have := HKK.out; have := HL.out.2.2.2; omega) q.2.1))
          clear HUL HL
          go_wp2_with (go_at_call 12; with_reducible refine (HR.out _).mono ?_; rintro e w7 ⟨rfl, hb7⟩)
          go_roundg (3 - (2 + 1))
          case rel =>
            go_light
            exact ⟨2 + 1, by omega, rfl, by go_num, HBn.out _ hb7⟩
          case measure => go_light; omega
      · obtain rfl : j = 3 := by omega
        have hz : ¬ (((3 : Nat) : Int) < 3) := by omega
        go_wp2
        go_ret
        exact ⟨rfl, HB.out.2⟩
end Go.Proofs.Ytggkjleibhpnfaa
