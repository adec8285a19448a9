/-
  The walk of PeaksMemory. Own work.
-/
import Derived.Test.YtncndefggegicaaDoorKMemN
import Derived.BigRegion
namespace Go.Proofs.YtncndefggegicaaDoor
open Go.RowKit
open Pl (ones)
attribute [local go_sem ↓] Go.wp_at_zero Go.wp_at_succ exec_appR
set_option maxRecDepth 100000 in
set_option maxHeartbeats 4000000 in
theorem mem_walk (w : World) (ht : Tb w) (k : Int) (n0 : Nat) (hn0 : n0 < 18446744073709551616) (s : ByteArray) (hs : s.size ≤ 140737488351232) :
    Calls Tryd.prog 3 #[.int .i64 k, .int .u64 (n0 : Int), .string s] w fun e w' => e = .returned (.bool true) ∧ Below w.heap.size w w' := by
  obtain ⟨K, hK⟩ : ∃ K, stg k = K := ⟨_, rfl⟩
  obtain ⟨k1, k2⟩ := stg_in k
  rw [hK] at k1 k2
  obtain ⟨N, hN⟩ : ∃ N, n0 % 1099511627776 = N := ⟨_, rfl⟩
  have hN40 : N < 1099511627776 := by omega
  have eN2 : Int.tmod (n0 : Int) 1099511627776 = (N : Int) := by rw [Int.tmod_eq_emod_of_nonneg (by omega)]; omega
  have eN3 : IntKind.u64.wrap (N : Int) = (N : Int) := u64_id _ (by omega) (by omega)
  have hkk : (K.toNat : Int) = K := Int.toNat_of_nonneg (by omega)
  have hcl := clk_of k1 k2
  have HAl : Hid (∀ W, Below w.heap.size w W → Calls Tryd.prog 9 #[] W fun e w' => e = .returned (.bool true) ∧ Below W.heap.size W w') := fun W hb => alive_any W (ht.next hb)
  have HSt : Hid (∀ W, Calls Tryd.prog 10 #[.int .i64 k] W fun e w' => e = .returned (.int .i64 K) ∧ W = w') := fun W => strength_any W k K hK
  have HDg : Hid (∀ t : ByteArray, t.size ≤ 140737488351300 → ∃ d : ByteArray, d.size = clk K ∧ ∀ W : World, Calls Tryd.prog 11 #[.string t, .int .i64 K] W fun e w' => e = .returned (.string d) ∧ Below W.heap.size W w') := fun t hts => by
    refine ⟨padS t K.toNat, by rw [padS_size]; omega, fun W => ?_⟩
    have := digest_big W t (by omega) K.toNat (by omega) _ rfl
    rw [hkk] at this
    exact this
  obtain ⟨dx, hdx, hdxc⟩ := HDg.out ⟨#[120]⟩ (by decide)
  have HDx := hide hdxc
  have HDz : Hid (dx.size = clk K ∧ (dx.size : Int) = K) := ⟨hdx, by omega⟩
  clear hdx hdxc
  have HT := hide ht
  have HK := hide (And.intro k1 k2)
  have HN : Hid (N < 1099511627776) := hN40
  have HSz : Hid (s.size ≤ 140737488351232) := hs
  have hb0 := Below.refl w.heap.size w
  clear ht hK k1 k2 hN hN40 hkk hcl hn0 hs
  go_enter Tryd.func3, Tryd.ntmps3
  go_wp2_with (first
    | (go_at_call 9; with_reducible refine (HAl.out _ hb0).mono ?_; rintro e w1 ⟨rfl, hb1⟩; replace hb0 := bnext hb0 hb1; clear hb1)
    | (go_at_call 10; with_reducible refine (HSt.out _).mono ?_; rintro e w2 ⟨rfl, rfl⟩))
  have HB0 := hide hb0
  clear hb0 HAl HSt eN2
  go_loopg [7, 8] N (fun g v y wr => ∃ (i : Nat) (L : List ByteArray), i ≤ N ∧ i = g ∧ y = .int .u64 (i : Int) ∧ Hid (L.length + ones 64 i = ones 64 N ∧ (∀ x ∈ L, x.size = clk K) ∧ OwnS wr w.heap.size v L ∧ Below w.heap.size w wr))
  case atStart =>
    go_light
    exact ⟨N, [], Nat.le_refl _, rfl, rfl, ⟨by simp, (fun x hx => by cases hx), owns_nil _ _, HB0.out⟩⟩
  case round =>
    clear HB0
    obtain ⟨i, L, hi, hg, rfl, HL⟩ := hrel
    subst hg
    by_cases hi0 : 0 < i
    · have z0 : (0 : Int) < (i : Int) := by omega
      obtain ⟨im, him⟩ : ∃ im, i - 1 = im := ⟨_, rfl⟩
      obtain ⟨i2, hi2⟩ : ∃ i2, i &&& im = i2 := ⟨_, rfl⟩
      have hN40 := HN.out
      have e1 : IntKind.u64.wrap ((i : Int) - 1) = (im : Int) := by rw [u64_id _ (by omega) (by omega)]; omega
      have e2 : bits BinOp.and IntKind.u64 (i : Int) (im : Int) = (i2 : Int) := by
        have := bits_and_u64_nat i im (by omega) (by omega)
        rw [hi2] at this
        exact this
      have hlt : i2 < i := by rw [← hi2, ← him]; exact clear_lt (by omega)
      have hon : ones 64 i2 + 1 = ones 64 i := by rw [← hi2, ← him]; exact ones_clear 64 i (by omega) (by omega)
      obtain ⟨ln, hln⟩ : ∃ ln, L.length = ln := ⟨_, rfl⟩
      have h64 : ln ≤ 64 := by have := HL.out.1; have := Pl.ones_le 64 N; omega
      have HE : Hid (i2 < i ∧ i ≤ N ∧ (ln + 1) + ones 64 i2 = ones 64 N ∧ ln ≤ 64 ∧ L.length = ln) := ⟨hlt, hi, by have := HL.out.1; omega, h64, hln⟩
      obtain ⟨ao7, c7, hv7⟩ := own_slice HL.out.2.2.1
      rw [hln] at hv7
      subst hv7
      have e8 : IntKind.u8.wrap (ln : Int) = (ln : Int) := by simp [IntKind.wrap, IntKind.signed, IntKind.bits]; omega
      have cv := conv_one wr (ln : Int)
      have hz := one_size (ln : Int)
      generalize strB [(ln : Int)] = z at *
      have hns : ¬ (9223372036854775807 < s.size + 1) := by have := HSz.out; omega
      obtain ⟨d, hds, hdc⟩ := HDg.out (s ++ z) (by have := HSz.out; rw [ByteArray.size_append, hz]; omega)
      have HDc := hide (hdc (wr.alloc (.cells #[.int .u8 (ln : Int)] 5)))
      have HDs : Hid (d.size = clk K ∧ d.size ≤ 32) := ⟨hds, by have := clk_le K; omega⟩
      clear him hi2 hlt hon hi hi0 hN40 hln hds hdc h64
      go_wp2_with (first
        | (go_at_call 11; with_reducible refine (HDc.out).mono ?_; rintro e w3 ⟨rfl, hb3'⟩; have hb3 := bnext (bal (Below.refl wr.heap.size wr) (.cells #[.int .u8 (ln : Int)] 5)) hb3')
        | (at_builtin; refine wpList_append_S _ rfl _ _ rfl w.heap.size _ L rfl (own_al (own_next HL.out.2.2.1 hb3 (Nat.le_refl _)) _) (some ⟨w3.heap.size, 0, none⟩) w3.heap.size 0 1 [d] rfl (rds_one w3 d (by have := HDs.out.2; omega)) (fun h => by cases h) ?c1 ?c2 ?_))
      case c1 => have := HE.out.2.2.2; simp; omega
      case c2 => have := (bnext HL.out.2.2.2 hb3).size; simp; omega
      intro v4 w4 h4 hb4
      have HX : Hid ((L ++ [d]).length + ones 64 i2 = ones 64 N ∧ (∀ x ∈ L ++ [d], x.size = clk K) ∧ OwnS w4 w.heap.size v4 (L ++ [d]) ∧ Below w.heap.size w w4) := by
        refine ⟨by have := HE.out; simp; omega, fun x hx => ?_, h4, (bal (bnext HL.out.2.2.2 hb3) _).trans hb4⟩
        rcases List.mem_append.1 hx with h | h
        · exact HL.out.2.1 x h
        · rw [List.mem_singleton.1 h]; exact HDs.out.1
      clear h4 hb4 hb3 hb3'
      go_wp2
      go_roundg i2
      case rel =>
        go_light
        exact ⟨i2, L ++ [d], by have := HE.out; omega, rfl, rfl, HX⟩
      case measure => go_light; exact HE.out.1
    · obtain rfl : i = 0 := by omega
      have z0 : ¬ ((0 : Int) < ((0 : Nat) : Int)) := by omega
      have hLl : L.length = ones 64 N := by have := HL.out.1; rw [Pl.ones_zero] at this; omega
      obtain ⟨ln, hln⟩ : ∃ ln, L.length = ln := ⟨_, rfl⟩
      have h64 : ln ≤ 64 := by rw [← hln, hLl]; exact Pl.ones_le 64 N
      have hsL : ∀ x ∈ L, x.size ≤ 9223372036854775807 := fun x hx => by rw [HL.out.2.1 x hx]; have := clk_le K; omega
      obtain ⟨ao7, b7, c7, hv7, r7, _, n7⟩ := owns_rds HL.out.2.2.1 hsL
      rw [hln] at hv7 r7
      have HL7 : Hid (L.length = ones 64 N ∧ L.length = ln ∧ ln ≤ 64 ∧ (∀ x ∈ L, x.size ≤ 9223372036854775807) ∧ (∀ x ∈ L, x.size = clk K)) := ⟨hLl, hln, h64, hsL, HL.out.2.1⟩
      have HR7 : Hid (RdS wr ao7 b7 0 L.length L ∧ (ao7 = none → c7 = 0)) := by rw [← hln] at r7; exact ⟨r7, n7⟩
      have HX7 : Hid ((Value.slice ao7 ln c7) = .slice ao7 L.length c7) := by rw [hln]; rfl
      subst hv7
      clear r7 n7 hsL h64 hLl hi hi0 HDg hln
      go_wp2_with (at_builtin; refine wpList_append_S _ rfl _ _ rfl wr.heap.size _ [] rfl (own_empty wr) ao7 b7 0 c7 L HX7.out (HR7.out.1.next (bal (Below.refl _ _) _) (Nat.le_refl _)) HR7.out.2 ?c1 (by simp) ?_)
      case c1 => have := HL7.out; simp; omega
      intro v9 w5 h9 hb9
      have HS5 : Hid (OwnS w5 w.heap.size (.slice ao7 ln c7) (L ++ List.replicate 0 roomT) ∧ OwnS w5 w.heap.size v9 L ∧ Apart (.slice ao7 ln c7) v9 ∧ Below w.heap.size w w5) := by
        have b5 : Below wr.heap.size wr w5 := (bal (Below.refl _ _) _).trans hb9
        have h9' : OwnS w5 wr.heap.size v9 L := by simpa using h9
        refine ⟨by simpa using own_next HL.out.2.2.1 b5 (Nat.le_refl _), own_mono h9' HL.out.2.2.2.size, fun k h1 h2 => ?_, bnext HL.out.2.2.2 b5⟩
        have := (owns_lt HL.out.2.2.1 k h1).2
        have := (owns_lt h9' k h2).1
        omega
      obtain ⟨ao9, c9, hv9⟩ := own_slice HS5.out.2.1
      rw [HL7.out.2.1] at hv9
      subst hv9
      clear h9 hb9 HX7 HL HR7
      go_wp2
      go_loopg [7, 11] 30 (fun g v y wr => ∃ j : Nat, j ≤ 30 ∧ g = 30 - j ∧ y = .int .i64 (j : Int) ∧ Hid (OwnS wr w.heap.size v (L ++ List.replicate j roomT) ∧ OwnS wr w.heap.size (.slice ao9 ln c9) L ∧ Apart v (.slice ao9 ln c9) ∧ Below w.heap.size w wr))
      case atStart =>
        go_light
        exact ⟨0, Nat.zero_le _, rfl, rfl, HS5⟩
      case round =>
        clear HS5
        obtain ⟨j, hj, rfl, rfl, HS⟩ := hrel
        by_cases hlt : j < 30
        · have z1 : (j : Int) < 30 := by omega
          have HJ := hide hlt
          obtain ⟨aoj, cj, hvj⟩ := own_slice HS.out.1
          obtain ⟨lj, hlj⟩ : ∃ lj, (L ++ List.replicate j roomT).length = lj := ⟨_, rfl⟩
          rw [hlj] at hvj
          subst hvj
          have HLj := hide hlj
          clear hj hlt hlj
          go_wp2_with (at_builtin; refine wpList_append_K _ rfl _ _ rfl w.heap.size _ (L ++ List.replicate j roomT) rfl (own_al HS.out.1 _) ⟨wr.heap.size, 0, none⟩ 1 roomT rfl (rdc_vals wr #[.string roomT] 9) ?c1 ?c2 ?_)
          case c1 => have := HL7.out; have := HJ.out; simp; omega
          case c2 => have := HS.out.2.2.2.size; simp; omega
          intro v6 w6 h6 r6
          have HS6 : Hid (OwnS w6 w.heap.size v6 (L ++ List.replicate (j + 1) roomT) ∧ OwnS w6 w.heap.size (.slice ao9 ln c9) L ∧ Apart v6 (.slice ao9 ln c9) ∧ Below w.heap.size w w6) := by
            have hB : w.heap.size ≤ (wr.alloc (.cells #[.string roomT] 9)).heap.size := by have := HS.out.2.2.2.size; simp; omega
            obtain ⟨q1, q2, q3⟩ := keepK (own_al HS.out.2.1 _) (own_al HS.out.1 _) HS.out.2.2.1 hB (v' := v6) (w1 := w6) (by
              rcases r6 with ⟨g, n, cap, ⟨e1, e2, e3⟩, h1, h2⟩ | ⟨h1, h2⟩
              · exact .inl ⟨g, n, cap, by rw [e1, e2, e3], h1, h2⟩
              · exact .inr ⟨h1, fun g hg => by rw [World.size_alloc]; exact h2 g hg⟩)
            exact ⟨by rw [List.replicate_succ']; exact h6, q1, q2, (bal HS.out.2.2.2 _).trans q3⟩
          clear h6 r6
          go_wp2
          go_roundg (30 - (j + 1))
          case rel =>
            go_light
            exact ⟨j + 1, by have := HJ.out; omega, rfl, by have := HJ.out; go_num, HS6⟩
          case measure => go_light; have := HJ.out; omega
        · obtain rfl : j = 30 := by omega
          have z1 : ¬ (((30 : Nat) : Int) < 30) := by omega
          obtain ⟨R, hR⟩ : ∃ R, L ++ List.replicate 30 roomT = R := ⟨_, rfl⟩
          obtain ⟨lw, hlw⟩ : ∃ lw, R.length = lw := ⟨_, rfl⟩
          have o7 := HS.out.1
          rw [hR] at o7
          obtain ⟨q1, q2, q3, q4, q5⟩ := HL7.out
          have hlwn : lw = ln + 30 := by rw [← hlw, ← hR]; simp; omega
          have sR : ∀ x ∈ R, x.size ≤ 9223372036854775807 := fun x hx => by
            rw [← hR] at hx
            rcases List.mem_append.1 hx with h | h
            · exact q4 x h
            · rw [List.eq_of_mem_replicate h]; decide
          obtain ⟨ao, b, c, hv, r, hcap, hno⟩ := owns_rds o7 sR
          rw [hlw] at hv r hcap
          have hlc : (ln : Int) ≤ (c : Int) := by omega
          have hl0 : (0 : Int) ≤ (ln : Int) := by omega
          have htk : R.take ln = L := by rw [← hR, ← q2]; exact List.take_left
          have hfe : fe K N L = 0 := by
            have h1 := HK.out.1
            have h2 := HK.out.2
            have h3 := HN.out
            rw [fe, if_neg (by omega), if_neg (by omega), if_neg]
            rintro (e | e)
            · exact e q1
            · exact e fun s hs => by rw [q5 s hs]; exact clk_of h1 h2
          have HFr : Hid (∀ W a b2 cc, RdS W a b2 0 ln L → (a = none → cc = 0) → Calls Tryd.prog 12 #[.int .i64 K, .int .u64 (N : Int), .slice a ln cc] W fun e w' => ∃ p v, e = .returned (.tuple #[.pointer (some ⟨p, 0, none⟩), .int .i64 0]) ∧ Rg w' p v K N L ∧ W.heap.size ≤ p ∧ (∀ g, v.ownBlock = some g → W.heap.size ≤ g) ∧ Below W.heap.size W w') := fun W a b2 cc h1 h2 => by
            have h3 := HN.out
            rw [← q2] at h1 ⊢
            exact (from_any W K N (by omega) a b2 0 cc L h1 h2 (by omega) 0 hfe).mono fun e w' h => by
              obtain ⟨p, v, h1, h2, h3, h4, h5⟩ := h.ok
              exact ⟨p, v, h1, h2, h3, h4, h5⟩
          have rt := r.take (n := ln) (by omega)
          rw [htk] at rt
          have HRt : Hid (RdS wr ao b 0 ln L ∧ (ao = none → c = 0)) := ⟨rt, hno⟩
          obtain ⟨ao9', b9, c9', hv9, r9, _, n9⟩ := owns_rds HS.out.2.1 q4
          obtain ⟨e91, e92, e93⟩ := Value.slice.inj hv9
          clear e92
          subst e91 e93
          rw [q2] at r9
          have HR9 : Hid (RdS wr ao9 b9 0 ln L ∧ (ao9 = none → c9 = 0)) := ⟨r9, n9⟩
          have HO7 : Hid (OwnS wr w.heap.size (.slice ao lw c) R ∧ Apart (.slice ao lw c) (.slice ao9 ln c9)) := by rw [← hv]; exact ⟨o7, HS.out.2.2.1⟩
          have HO9 : Hid (OwnS wr w.heap.size (.slice ao9 ln c9) L ∧ Below w.heap.size w wr) := ⟨HS.out.2.1, HS.out.2.2.2⟩
          have HRl : Hid (R.length = lw ∧ lw = ln + 30 ∧ L ++ List.replicate 30 roomT = R) := ⟨hlw, hlwn, hR⟩
          subst hv
          clear q1 q2 q3 q4 q5 hlwn sR r hcap hno htk hfe rt r9 n9 hv9 o7 HS hlw hR hj hlt
          go_wp2_with (first
            | (go_at_call 12; with_reducible refine (HFr.out wr _ _ _ HRt.out.1 HRt.out.2).mono ?_; rintro e w6 ⟨p1, v1, rfl, R1, hp1, hg1, hb6⟩)
            | (go_at_call 12; with_reducible refine (HFr.out w6 _ _ _ (HR9.out.1.next hb6 (Nat.le_refl _)) HR9.out.2).mono ?_; rintro e w7 ⟨p2, v2, rfl, R2, hp2, hg2, hb7⟩))
          have HM0 : Hid (MS w w7 (.slice ao lw c) (.slice ao9 ln c9) (List.replicate 0 overT ++ R.drop 0) L p1 v1 p2 v2 K N) := by
            have b1 := HO9.out.2.size
            have b2 := hb6.size
            have far : ∀ {u v : Value} {l : List ByteArray} {W : World}, OwnS W w.heap.size u l → (∀ g, v.ownBlock = some g → W.heap.size ≤ g) → Apart u v := fun hu hv g h1 h2 => by
              have a1 := (owns_lt hu g h1).2
              have a2 := hv g h2
              omega
            refine ⟨by simpa using own_next HO7.out.1 (bnext hb6 hb7) (Nat.le_refl _), own_next HO9.out.1 (bnext hb6 hb7) (Nat.le_refl _), HO7.out.2, R1.next hb7 (Nat.le_refl _), R2, far HO7.out.1 hg1, far (own_next HO7.out.1 hb6 (Nat.le_refl _)) hg2, fun g h1 h2 => ?_, by omega, Nat.lt_of_lt_of_le R1.lt hp2, fun g h => Nat.le_trans b1 (hg1 g h), fun g h => by have := hg2 g h; omega, bnext HO9.out.2 (bnext hb6 hb7)⟩
            have a1 := (owns_lt R1.own g h1).2
            have a2 := hg2 g h2
            omega
          clear R1 R2 hp1 hp2 hg1 hg2 hb6 hb7 HFr HRt HR9 HO7 HO9
          go_wp2
          go_loopg [16] lw (fun g y wx => ∃ j : Nat, j ≤ lw ∧ g = lw - j ∧ y = .int .i64 (j : Int) ∧ Hid (MS w wx (.slice ao lw c) (.slice ao9 ln c9) (List.replicate j overT ++ R.drop j) L p1 v1 p2 v2 K N))
          case atStart =>
            go_light
            exact ⟨0, Nat.zero_le _, rfl, rfl, HM0⟩
          case round =>
            clear HM0
            obtain ⟨j, hj, rfl, rfl, HM⟩ := hrel
            have hj0 : (0 : Int) ≤ (j : Int) := Int.natCast_nonneg _
            by_cases hlt : j < lw
            · have hjl : (j : Int) < (lw : Int) := by omega
              obtain ⟨x1, x2, x3⟩ := HRl.out
              have hXl : (List.replicate j overT ++ R.drop j).length = lw := by rw [mark_len _ _ _ (by omega)]; exact x1
              obtain ⟨g7, rfl⟩ := ownS_some HM.out.o7 (by omega)
              have t7 := (own_cell HM.out.o7 (j := j) (by omega)).1
              rw [mark_get] at t7
              have HJ : Hid (j < lw ∧ j < R.length) := ⟨hlt, by omega⟩
              have HXl := hide hXl
              clear hlt hXl hj x1 x2 x3
              go_upto_region 23 with (fail)
              try rw [show decide (j < lw) = true from decide_eq_true HJ.out.1]
              try rw [show decide ((j : Int) < (lw : Int)) = true from decide_eq_true hjl]
              go_cut [129] from 104 to 128 (fun y wx => y = .bool false ∧ Hid (Below wr.heap.size wr wx))
              case first =>
                have x3 := HRl.out.2.2
                have hRl := HRl.out.2.1
                by_cases hc : j < ln
                · have zc : (j : Int) < (ln : Int) := by omega
                  have zd : ¬ ((ln : Int) ≤ (j : Int)) := by omega
                  have hLn : j < L.length := by have := HL7.out.2.1; omega
                  obtain ⟨g9, rfl⟩ := ownS_some HM.out.o9 (by omega)
                  have t9 := (own_cell HM.out.o9 (j := j) hLn).1
                  have ex : R.getD j ByteArray.empty = L.getD j ByteArray.empty := by
                    rw [← x3, List.getD_eq_getElem?_getD, List.getElem?_append_left hLn, ← List.getD_eq_getElem?_getD]
                  rw [ex] at t7
                  generalize L.getD j ByteArray.empty = x at *
                  clear hc hLn ex x3 hRl
                  go_quiet (fail)
                  go_wp2
                  go_meet
                  case rel =>
                    go_light
                    exact ⟨rfl, below_drewN (Below.refl _ _) _⟩
                · have zc : ¬ ((j : Int) < (ln : Int)) := by omega
                  have zd : (ln : Int) ≤ (j : Int) := by omega
                  have ex : R.getD j ByteArray.empty = roomT := by
                    have h1 := HL7.out.2.1
                    have h2 := HJ.out.1
                    rw [← x3, List.getD_eq_getElem?_getD, List.getElem?_append_right (by omega), List.getElem?_replicate, if_pos (by omega)]; rfl
                  rw [ex] at t7
                  clear hc ex x3 hRl
                  go_quiet (fail)
                  go_wp2
                  go_meet
                  case rel =>
                    go_light
                    exact ⟨rfl, below_drewN (Below.refl _ _) _⟩
              case rest =>
                obtain ⟨rfl, HBc⟩ := hcut
                have HM2 := hide (HM.out.next HBc.out)
                obtain ⟨t8, f8⟩ := own_cell HM2.out.o7 (j := j) (by have := HXl.out; have := HJ.out; omega)
                have HM3 : Hid (MS w (wc.setCell ⟨g7, j, none⟩ (.string overT)) (.slice (some ⟨g7, 0, none⟩) lw c) (.slice ao9 ln c9) (List.replicate (j + 1) overT ++ R.drop (j + 1)) L p1 v1 p2 v2 K N) := by
                  have := HM2.out.store j overT
                  rw [mark_set' _ _ _ HJ.out.2] at this
                  exact this
                have hj94 : (j : Int) < 94 := by have q1 := HJ.out.1; have q2 := HRl.out.2.1; have q3 := HL7.out.2.2.1; omega
                clear t7 HM HBc
                go_wp2
                go_roundg (lw - (j + 1))
                case rel =>
                  go_light
                  exact ⟨j + 1, by have := HJ.out; omega, rfl, by go_num, HM3⟩
                case measure => go_light; have := HJ.out; omega
            · obtain rfl : j = lw := by omega
              have hjl : ¬ ((j : Int) < (j : Int)) := by omega
              have he0 : er K N 0 dx = 0 := er_zero HDz.out.2 (by decide) (by decide) (by show N % 1 = 0; omega) (by show N + 1 ≤ _; have := HN.out; omega)
              obtain ⟨n', hn'⟩ : ∃ n', nxN K N 0 dx = n' := ⟨_, rfl⟩
              obtain ⟨P', hP'⟩ : ∃ P', nxP K N L 0 dx = P' := ⟨_, rfl⟩
              obtain ⟨A, hA⟩ : ∃ A, an K N L 0 dx = A := ⟨_, rfl⟩
              obtain ⟨la, hla⟩ : ∃ la, A.length = la := ⟨_, rfl⟩
              have HE : Hid (er K N 0 dx = 0 ∧ nxN K N 0 dx = n' ∧ nxP K N L 0 dx = P' ∧ an K N L 0 dx = A) := ⟨he0, hn', hP', hA⟩
              have hn1 : n' = N + 1 := by rw [← hn', nxN, if_pos he0]; rfl
              have hA1 : 1 ≤ la := by rw [← hla, ← hA, an, if_pos he0]; exact (carry_made _ _ _ _ _).2
              have hAs := an_size (n := N) (P := L) 0 dx HK.out.1 HK.out.2 HL7.out.2.2.2.2
              rw [hA, hla] at hAs
              have HA : Hid (A.length = la ∧ 1 ≤ la ∧ la ≤ 1000 ∧ (∀ x ∈ A, x.size ≤ 140737488351232) ∧ n' = N + 1) := ⟨hla, hA1, hAs.2, hAs.1, hn1⟩
              have hl1 : ¬ ((la : Int) < 1) := by omega
              have HLs : Hid ((∀ x ∈ L, x.size ≤ 140737488351232) ∧ L.length ≤ 8796093022208) := ⟨fun x hx => by rw [HL7.out.2.2.2.2 x hx]; have := clk_le K; omega, by have := HL7.out; omega⟩
              clear he0 hn' hP' hA hla hn1 hA1 hAs hlt hj
              go_upto_region 34 with (first
                | (go_at_call 13; with_reducible refine (rpeaks_own wr p1 v1 K N L HM.out.r1).mono ?_; rintro e w8 ⟨u17, rfl, o17, hb8⟩; obtain ⟨ao17, c17, h17⟩ := own_slice o17; rw [HL7.out.2.1] at h17; subst h17; have HM8 := hide (HM.out.next hb8))
                | (go_at_call 13; with_reducible refine (rpeaks_own w8 p1 v1 K N L HM8.out.r1).mono ?_; rintro e w9 ⟨u18, rfl, o18, hb9⟩; obtain ⟨ao18, c18, h18⟩ := own_slice o18; rw [HL7.out.2.1] at h18; subst h18; have HM9 := hide (HM8.out.next hb9))
                | (go_at_call 14; with_reducible refine (same_own w9 _ _ _ _ L (own_next o17 hb9 (Nat.le_refl _)) HM9.out.o9 HLs.out.1 HLs.out.2).mono ?_; rintro e w10 ⟨rfl, hb10⟩; have HM10 := hide (HM9.out.next hb10))
                | (go_at_call 14; with_reducible refine (same_own w10 _ _ _ _ L (own_next o18 hb10 (Nat.le_refl _)) HM10.out.o9 HLs.out.1 HLs.out.2).mono ?_; rintro e w11 ⟨rfl, hb11⟩; have HM11 := hide (HM10.out.next hb11))
                | (go_at_call 11; with_reducible refine (HDx.out w11).mono ?_; rintro e w12 ⟨rfl, hb12⟩; have HM12 := hide (HM11.out.next hb12))
                | (go_at_call 15; with_reducible refine (add_any w12 (HT.out.next HM12.out.below) p1 v1 K N L HM12.out.r1 dx 0 n' P' A HE).mono ?_; rintro e w13 ⟨u19, v1', rfl, D1⟩; obtain ⟨ao19, c19, h19⟩ := own_slice D1.own; rw [HA.out.1] at h19; subst h19)
                | (go_at_call 11; with_reducible refine (HDx.out w13).mono ?_; rintro e w14 ⟨rfl, hb14⟩; have HR14 := hide ((HM12.out.r2.ch HM12.out.r1 D1.ch (Nat.ne_of_gt HM12.out.h12)).next hb14 (Nat.le_refl _)))
                | (go_at_call 15; with_reducible refine (add_any w14 (HT.out.next (bnext (HM12.out.below.trans (D1.ch.below.mono HM12.out.h1)) hb14)) p2 v2 K N L HR14.out dx 0 n' P' A HE).mono ?_; rintro e w15 ⟨u21, v2', rfl, D2⟩; obtain ⟨ao21, c21, h21⟩ := own_slice D2.own; rw [HA.out.1] at h21; subst h21)
                | (go_at_call 14; with_reducible refine (same_own w15 _ _ _ _ A (own_ch (own_next D1.own hb14 (Nat.le_refl _)) HR14.out D2.ch) D2.own HA.out.2.2.2.1 (by have h1 := HA.out.1; have h2 := HA.out.2.2.1; omega)).mono ?_; rintro e w16 ⟨rfl, hb16⟩))
              have HZ : Hid (MZ w w16 [.slice ao17 ln c17, .slice ao18 ln c18, .slice ao19 la c19, .slice ao21 la c21] [L, L, A, A] p1 v1' p2 v2' K n' P') := by
                have B0 := HM.out.below.size
                have f1 := fam_new (fam_nil wr w.heap.size) B0 hb8 o17
                have f2 := fam_new f1 (Nat.le_trans B0 hb8.size) hb9 o18
                have b912 := bnext (bnext hb10 hb11) hb12
                have f3 := fam_next f2 b912
                have B12 := HM12.out.below.size
                have f4 := fam_new' f3 (fam_ch f3 HM12.out.r1 D1.ch) B12 D1.own
                have f5 := fam_next f4 hb14
                have B14 : w.heap.size ≤ w14.heap.size := (bnext (HM12.out.below.trans (D1.ch.below.mono HM12.out.h1)) hb14).size
                have f6 := fam_new' f5 (fam_ch f5 HR14.out D2.ch) B14 D2.own
                have f7 := fam_next f6 hb16
                have hne : p1 ≠ p2 := Nat.ne_of_lt HM12.out.h12
                have R14 := D1.rg.next hb14 (Nat.le_refl _)
                have R15 := R14.ch HR14.out D2.ch hne
                have s8 := hb8.size
                have s9 := hb9.size
                have s12 := b912.size
                have s13 := D1.ch.size
                have s14 := hb14.size
                have x1 := fun g h => (owns_lt (own_mono HM.out.r1.own (Nat.zero_le 0)) g h).2
                have x2 := fun g h => (owns_lt (own_mono HM.out.r2.own (Nat.zero_le 0)) g h).2
                have y17 := fun g h => owns_lt o17 g h
                have y18 := fun g h => owns_lt o18 g h
                have y19 := fun g h => owns_lt D1.own g h
                have y21 := fun g h => owns_lt D2.own g h
                have n1 := fun g (h : v1'.ownBlock = some g) => show g < wr.heap.size ∨ w12.heap.size ≤ g from D1.new.elim (fun e => .inl (x1 g (by rw [← e]; exact h))) (fun f => .inr (f g h))
                have n1' := fun g (h : v1'.ownBlock = some g) => (owns_lt D1.rg.own g h).2
                have n2 := fun g (h : v2'.ownBlock = some g) => show g < wr.heap.size ∨ w14.heap.size ≤ g from D2.new.elim (fun e => .inl (x2 g (by rw [← e]; exact h))) (fun f => .inr (f g h))
                refine ⟨f7, R15.next hb16 (Nat.le_refl _), D2.rg.next hb16 (Nat.le_refl _), fun i hi => ?_, fun i hi => ?_, ?_⟩
                · match i, hi with
                  | 0, _ => exact fun g h1 h2 => by have a := y17 g h1; have b := n1 g h2; omega
                  | 1, _ => exact fun g h1 h2 => by have a := y18 g h1; have b := n1 g h2; omega
                  | 2, _ => exact D1.apart
                  | 3, _ => exact fun g h1 h2 => by have a := y21 g h1; have b := n1' g h2; omega
                · match i, hi with
                  | 0, _ => exact fun g h1 h2 => by have a := y17 g h1; have b := n2 g h2; omega
                  | 1, _ => exact fun g h1 h2 => by have a := y18 g h1; have b := n2 g h2; omega
                  | 2, _ => exact fun g h1 h2 => by have a := y19 g h1; have b := n2 g h2; omega
                  | 3, _ => exact D2.apart
                · have c1 := bnext (HM12.out.below.trans (D1.ch.below.mono HM12.out.h1)) hb14
                  exact bnext (c1.trans (D2.ch.below.mono (Nat.le_trans HM12.out.h1 (Nat.le_of_lt HM12.out.h12)))) hb16
              clear o17 o18 D1 D2 hb8 hb9 hb10 hb11 hb12 hb14 hb16 HM HM8 HM9 HM10 HM11 HM12 HR14 HDx HE
              obtain ⟨gA, hgA⟩ : ∃ gA, w16.heap.size = gA := ⟨_, rfl⟩
              obtain ⟨w17, hw17⟩ : ∃ w17, w16.alloc (.cells #[.slice ao17 ln c17, .slice ao18 ln c18, .slice ao19 la c19, .slice ao21 la c21] 25) = w17 := ⟨_, rfl⟩
              have HA0 : Hid (MA w w17 [.slice ao17 ln c17, .slice ao18 ln c18, .slice ao19 la c19, .slice ao21 la c21] [L, L, A, A] (.slice (some ⟨gA, 0, none⟩) 4 4) p1 v1' p2 v2' K n' P') := by
                rw [← hgA, ← hw17]
                exact ⟨HZ.out.next (bal (Below.refl _ _) _), ownV_new w16 HZ.out.below.size _ _ _ _⟩
              have HVs : Hid ([Value.slice ao17 ln c17, .slice ao18 ln c18, .slice ao19 la c19, .slice ao21 la c21].length = 4 ∧ [L, L, A, A].length = 4 ∧ ∀ k, ([L, L, A, A].getD k []).length ≤ 1000) := ⟨rfl, rfl, fun k => by
                have h1 := HL7.out
                have h2 := HA.out
                match k with
                | 0 => show L.length ≤ 1000; omega
                | 1 => show L.length ≤ 1000; omega
                | 2 => show A.length ≤ 1000; omega
                | 3 => show A.length ≤ 1000; omega
                | k + 4 => simp⟩
              clear HZ
              go_wp2
              clear hw17 hgA
              obtain ⟨vs, hvs⟩ : ∃ vs : List Value, [Value.slice ao17 ln c17, .slice ao18 ln c18, .slice ao19 la c19, .slice ao21 la c21] = vs := ⟨_, rfl⟩
              obtain ⟨Ls, hLs⟩ : ∃ Ls : List (List ByteArray), [L, L, A, A] = Ls := ⟨_, rfl⟩
              rw [hvs, hLs] at HA0 HVs
              have HVL := hide (And.intro hvs hLs)
              clear hvs hLs
              go_loopg [24, 25] 4 (fun g y24 y25 wx => ∃ (k : Nat) (Qs : List (List ByteArray)), k ≤ 4 ∧ g = 4 - k ∧ y24 = .int .i64 (k : Int) ∧ Hid (Mk 4 k Qs Ls ∧ MA w wx vs Qs (.slice (some ⟨gA, 0, none⟩) 4 4) p1 v1' p2 v2' K n' P'))
              case atStart =>
                go_light
                refine ⟨0, Ls, Nat.zero_le _, rfl, rfl, ⟨HVs.out.2.1, fun k _ => by rw [if_neg (Nat.not_lt_zero k)]⟩, ?_⟩
                exact HA0.out
              case round =>
                clear HA0
                obtain ⟨k, Qs, hkN, rfl, rfl, HQ⟩ := hrel
                have hk0 : (0 : Int) ≤ (k : Int) := Int.natCast_nonneg _
                have hk24 : (k : Int) ≤ 4 := by omega
                by_cases hkl : k < 4
                · have hkl' : (k : Int) < 4 := by omega
                  obtain ⟨hvl, hPl, hP41⟩ := HVs.out
                  obtain ⟨hmk, hst⟩ := HQ.out
                  obtain ⟨u, hu⟩ : ∃ u, vs.getD k dv = u := ⟨_, rfl⟩
                  have ho0 := hst.z.fam.own k (by omega)
                  rw [hu] at ho0
                  have hq0 := hmk.2 k hkl
                  rw [if_neg (Nat.lt_irrefl k)] at hq0
                  obtain ⟨au, mu, du, rfl⟩ := row_slice ho0
                  obtain ⟨Rk, hRk⟩ : ∃ Rk, Ls.getD k [] = Rk := ⟨_, rfl⟩
                  rw [hq0, hRk] at ho0
                  have hmu := ownS_len ho0
                  have hR5 : Rk.length ≤ 1000 := by rw [← hRk]; exact hP41 k
                  have hmu5 : (mu : Int) ≤ 1000 := by omega
                  have HJ : Hid (Mk 4 k Qs Ls ∧ vs.getD k dv = .slice au mu du ∧ Ls.getD k [] = Rk ∧ Rk.length = mu ∧ k + 1 ≤ 4 ∧ vs.length = 4 ∧ Qs.getD k [] = Rk) := ⟨hmk, hu, hRk, hmu, hkl, hvl, by rw [hq0, hRk]⟩
                  have HS0 : Hid (MA w wr vs Qs (.slice (some ⟨gA, 0, none⟩) 4 4) p1 v1' p2 v2' K n' P') := hst
                  clear hmk hst hu ho0 hq0 hRk hmu hR5 hvl hkl hkN hPl hP41 HQ
                  go_wp2
                  go_loopg [25] mu (fun gg j0 wr => ∃ j : Nat, j ≤ mu ∧ gg = mu - j ∧ j0 = .int .i64 (j : Int) ∧ Hid (MA w wr vs (Qs.set k (List.replicate j (mkT k) ++ Rk.drop j)) (.slice (some ⟨gA, 0, none⟩) 4 4) p1 v1' p2 v2' K n' P'))
                  case atStart =>
                    go_light
                    obtain ⟨z1, z2, z3, z4, z5, z6, z7⟩ := HJ.out
                    refine ⟨0, Nat.zero_le _, rfl, rfl, ?_⟩
                    have e : Qs.set k (List.replicate 0 (mkT k) ++ Rk.drop 0) = Qs := by
                      rw [← z7]; simpa using set_getD_self [] Qs k
                    rw [e]; exact HS0
                  case round =>
                    clear HS0
                    obtain ⟨j, hjm, rfl, rfl, HSt⟩ := hrel
                    have hst := HSt.out
                    obtain ⟨z1, z2, z3, z4, z5, z6, z7⟩ := HJ.out
                    have hj0 : (0 : Int) ≤ (j : Int) := Int.natCast_nonneg _
                    have hj5 : (j : Int) ≤ 1000 := by omega
                    have kA := ownV_cells hst.all k (by omega)
                    rw [z2] at kA
                    by_cases hjl : j < mu
                    · have hjl' : (j : Int) < (mu : Int) := by omega
                      have hd : Below wr.heap.size wr (wr.alloc (.cells #[.int .u8 (k : Int)] 5)) := bal (Below.refl _ _) _
                      have hst2 := hst.next hd
                      have hol := hst2.z.fam.own k (by omega)
                      rw [z2, getD_set _ _ _ _ _ (by rw [z1.1]; omega), if_pos rfl] at hol
                      obtain ⟨g, rfl⟩ := ownS_some hol (by simp; omega)
                      obtain ⟨c1, f1⟩ := own_cell hol (j := j) (by simp; omega)
                      have kA2 := ownV_cells hst2.all k (by omega)
                      rw [z2] at kA2
                      have hs2 := (hst2.store k (by omega) g mu du z2 j (mkT k)).next (Below.refl _ _).drew
                      rw [getD_set _ _ _ _ _ (by rw [z1.1]; omega), if_pos rfl, List.set_set, mark_set' Rk j _ (by omega)] at hs2
                      have HX : Hid (MA w _ vs (Qs.set k (List.replicate (j + 1) (mkT k) ++ Rk.drop (j + 1))) (.slice (some ⟨gA, 0, none⟩) 4 4) p1 v1' p2 v2' K n' P' ∧ j + 1 ≤ mu) := ⟨hs2, hjl⟩
                      have cv := fun W => conv_drew W k
                      have e8 : IntKind.u8.wrap (k : Int) = (k : Int) := by simp [IntKind.wrap, IntKind.signed, IntKind.bits]; omega
                      clear hs2 hol hst hst2 hd z1 z2 z3 z4 z5 z6 z7 hjm hjl HSt
                      go_upto_region 41 with (fail)
                      go_region
                      go_wp2
                      go_roundg (mu - (j + 1))
                      case rel =>
                        go_light
                        exact ⟨j + 1, HX.out.2, rfl, by go_num, HX.out.1⟩
                      case measure => go_light; have := HX.out.2; omega
                    · obtain rfl : j = mu := by omega
                      have hjl' : ¬ ((j : Int) < (j : Int)) := by omega
                      have HX : Hid (Mk 4 (k + 1) (Qs.set k (List.replicate j (mkT k))) Ls ∧ MA w wr vs (Qs.set k (List.replicate j (mkT k))) (.slice (some ⟨gA, 0, none⟩) 4 4) p1 v1' p2 v2' K n' P' ∧ k + 1 ≤ 4) := by
                        refine ⟨mk_next z1 z5 (by rw [z3]; exact z4), ?_, z5⟩
                        have := hst
                        rw [List.drop_of_length_le (by omega), List.append_nil] at this
                        exact this
                      clear hst z1 z2 z3 z4 z5 z6 z7 hjm hjl HSt
                      go_wp2
                      go_roundg (4 - (k + 1))
                      case rel =>
                        go_light
                        exact ⟨k + 1, _, HX.out.2.2, rfl, by go_num, HX.out.1, HX.out.2.1⟩
                      case measure => go_light; have := HX.out.2.2; omega
                · obtain rfl : k = 4 := by omega
                  have hkl' : ¬ (((4 : Nat) : Int) < 4) := by omega
                  obtain ⟨gM, hgM⟩ : ∃ gM, wr.heap.size = gM := ⟨_, rfl⟩
                  obtain ⟨w18, hw18⟩ : ∃ w18, wr.alloc (.cells #[.slice ao17 ln c17, .slice ao18 ln c18, .slice ao19 la c19, .slice ao21 la c21] 25) = w18 := ⟨_, rfl⟩
                  have HM40 : Hid (M4 w w18 vs vs Ls (fun _ => 0) (.slice (some ⟨gA, 0, none⟩) 4 4) (.slice (some ⟨gM, 0, none⟩) 4 4) p1 v1' p2 v2' K n' P') := by
                    have b18 : Below wr.heap.size wr w18 := by rw [← hw18]; exact bal (Below.refl _ _) _
                    refine (HQ.out.2.next b18).start HQ.out.1 HVs.out.1 ?_ (.inr fun e => ?_)
                    · rw [← hgM, ← hw18, ← HVL.out.1]; exact ownV_new wr HQ.out.2.z.below.size _ _ _ _
                    · have h1 := (World.ownsRow.lt HQ.out.2.all gA rfl).2
                      have h2 : gA = gM := Option.some.inj e
                      omega
                  clear HQ hkN hkl
                  go_wp2
                  clear hw18 hgM
                  go_loopg [27, 28] 60 (fun g y27 y28 wx => ∃ (t : Nat) (ms : List Value), t ≤ 60 ∧ g = 60 - t ∧ y27 = .int .i64 (t : Int) ∧ Hid (M4 w wx vs ms Ls (fun _ => t) (.slice (some ⟨gA, 0, none⟩) 4 4) (.slice (some ⟨gM, 0, none⟩) 4 4) p1 v1' p2 v2' K n' P'))
                  case atStart =>
                    go_light
                    exact ⟨0, vs, Nat.zero_le _, rfl, rfl, HM40⟩
                  case round =>
                    clear HM40
                    obtain ⟨t, ms, ht6, rfl, rfl, H4⟩ := hrel
                    by_cases htl : t < 60
                    · have htl' : (t : Int) < 60 := by omega
                      have HT6 := hide htl
                      clear htl ht6
                      go_wp2
                      go_loopg [28] 4 (fun g y28 wx => ∃ (i : Nat) (ms : List Value), i ≤ 4 ∧ g = 4 - i ∧ y28 = .int .i64 (i : Int) ∧ Hid (M4 w wx vs ms Ls (fun k => if k < i then t + 1 else t) (.slice (some ⟨gA, 0, none⟩) 4 4) (.slice (some ⟨gM, 0, none⟩) 4 4) p1 v1' p2 v2' K n' P'))
                      case atStart =>
                        go_light
                        refine ⟨0, ms, Nat.zero_le _, rfl, rfl, ?_⟩
                        have e : (fun k : Nat => if k < 0 then t + 1 else t) = fun _ => t := by funext k; rw [if_neg (Nat.not_lt_zero k)]
                        rw [e]; exact H4
                      case round =>
                        clear H4
                        obtain ⟨i, mi, hi4, rfl, rfl, H5⟩ := hrel
                        by_cases hil : i < 4
                        · have hil' : (i : Int) < 4 := by omega
                          have hz4 : (0 : Int) ≤ (i : Int) := Int.natCast_nonneg _
                          obtain ⟨ax, mx, dx7, hx7⟩ := row_slice (H5.out.Mm i hil)
                          have ho := H5.out.Mm i hil
                          rw [hx7] at ho
                          simp only [Nat.lt_irrefl, if_false] at ho
                          have HX5 : Hid (mi.getD i dv = .slice ax mx dx7 ∧ OwnS wr w.heap.size (.slice ax mx dx7) (mkE Ls i t) ∧ i < 4) := ⟨hx7, ho, hil⟩
                          have HLe : Hid ((mkE Ls i t).length + 1 ≤ 1048576) := by rw [mkE_len]; have := HVs.out.2.2 i; have := HT6.out; exact hide (by omega)
                          have HCl : Hid (∀ W, Below wr.heap.size wr W → W.cell? ⟨gM, i, none⟩ = some (.slice ax mx dx7)) := fun W hb => ((H5.out.next hb).fits hil hx7).1
                          have kM := HCl.out wr (Below.refl _ _)
                          have e8 : IntKind.u8.wrap (i : Int) = (i : Int) := by simp [IntKind.wrap, IntKind.signed, IntKind.bits]; omega
                          clear hx7 ho hil hi4
                          go_upto_region 49 with (fail)
                          have hd1 := bal (Below.refl wr.heap.size wr) (.cells #[.int .u8 (i : Int)] 5)
                          have cv := fun W => conv_drew W i
                          have hd2 := (bal hd1 (.cells #[.string (mkT i)] 9)).drew
                          have HM4 := hide (H5.out.next hd2)
                          have HO4 := hide (owns_step HX5.out.2.1 hd2)
                          have HB4 : Hid (w.heap.size ≤ ((wr.alloc (.cells #[.int .u8 (i : Int)] 5)).alloc (.cells #[.string (mkT i)] 9)).drew.heap.size) := HM4.out.below.size
                          have HR4 : Hid (RdC ((wr.alloc (.cells #[.int .u8 (i : Int)] 5)).alloc (.cells #[.string (mkT i)] 9)).drew (.slice (some ⟨wr.heap.size + 1, 0, none⟩) 1 1) 1 [.string (mkT i)]) := by
                            have := rdc_vals (wr.alloc (.cells #[.int .u8 (i : Int)] 5)) #[.string (mkT i)] 9
                            rw [World.size_alloc] at this
                            exact this
                          have kM1 := HCl.out _ hd1
                          have kM2 := HCl.out _ (bal hd1 (.cells #[.string (mkT i)] 9))
                          obtain ⟨v6, w6, hrn, h6, r6⟩ := run_app_T _ 25 w.heap.size _ (mkE Ls i t) HO4.out ⟨wr.heap.size + 1, 0, none⟩ 1 (mkT i) HR4.out HLe.out HB4.out
                          obtain ⟨c6, f6⟩ := HM4.out.at1 HX5.out.2.2 HX5.out.1 r6
                          obtain ⟨a6, m6, d6, rfl⟩ := row_slice h6
                          have HX6 := hide (HM4.out.rnd HX5.out.2.2 HX5.out.1 h6 r6)
                          have hap := appR_of hrn
                          clear h6 r6 hd1 hd2 hrn
                          go_region
                          clear hap c6 f6 kM kM1 kM2 cv HM4 HO4 HB4 HR4 HCl HLe H5
                          go_wp2
                          go_roundg (4 - (i + 1))
                          case rel =>
                            go_light
                            exact ⟨i + 1, _, by have := HX5.out.2.2; omega, rfl, by go_num, HX6⟩
                          case measure => go_light; have := HX5.out.2.2; omega
                        · obtain rfl : i = 4 := by omega
                          have hil' : ¬ (((4 : Nat) : Int) < 4) := by omega
                          have HX : Hid (M4 w wr vs mi Ls (fun _ => t + 1) (.slice (some ⟨gA, 0, none⟩) 4 4) (.slice (some ⟨gM, 0, none⟩) 4 4) p1 v1' p2 v2' K n' P') := by
                            have h := H5.out
                            exact ⟨h.A, fun k hk => by have := h.Mm k hk; rw [if_pos hk] at this; exact this, h.dMM, h.dMV, h.all, h.more, h.nA, h.r1, h.r2, h.d1, h.d2, h.below, h.vl, h.ml⟩
                          clear H5 hil hi4
                          go_wp2
                          go_roundg (60 - (t + 1))
                          case rel =>
                            go_light
                            exact ⟨t + 1, mi, by have := HT6.out; omega, rfl, by have := HT6.out; go_num, HX⟩
                          case measure => go_light; have := HT6.out; omega
                    · obtain rfl : t = 60 := by omega
                      have htl' : ¬ (((60 : Nat) : Int) < 60) := by omega
                      obtain ⟨W0, hW0⟩ : ∃ W0, W0 = wr := ⟨wr, rfl⟩
                      subst hW0
                      clear htl ht6
                      go_wp2
                      go_loopg [29, 30] 4 (fun g y29 y30 wx => ∃ q : Nat, q ≤ 4 ∧ g = 4 - q ∧ y29 = .int .i64 (q : Int) ∧ Hid (Below W0.heap.size W0 wx))
                      case atStart =>
                        go_light
                        exact ⟨0, Nat.zero_le _, rfl, rfl, Below.refl _ _⟩
                      case round =>
                        obtain ⟨q, hqN, rfl, rfl, HBx⟩ := hrel
                        have hq0 : (0 : Int) ≤ (q : Int) := Int.natCast_nonneg _
                        by_cases hql : q < 4
                        · have hq4 : (q : Int) < 4 := by omega
                          have p4 := H4.out
                          have oM := p4.Mm q hql
                          have oA := p4.A q hql
                          obtain ⟨aM, mm, dm, eM⟩ := row_slice oM
                          obtain ⟨aV, mv, dw, eV⟩ := row_slice oA
                          rw [eM] at oM
                          rw [eV] at oA
                          have lM := ownS_len oM
                          have lV := ownS_len oA
                          rw [mkE_len] at lM lV
                          have hL1 := HVs.out.2.2 q
                          have hmm : (mm : Int) ≤ 1060 := by omega
                          have HKc : Hid (∀ W, Below W0.heap.size W0 W → W.cell? ⟨gM, q, none⟩ = some (.slice aM mm dm) ∧ W.cell? ⟨gA, q, none⟩ = some (.slice aV mv dw)) := fun W h => by
                            have h1 := ownV_cells (ownB_next p4.more h) q (by rw [p4.ml]; exact hql)
                            have h2 := ownV_cells (ownB_next p4.all h) q (by rw [p4.vl]; exact hql)
                            rw [eM] at h1
                            rw [eV] at h2
                            exact ⟨h1, h2⟩
                          have HR : Hid (OwnS W0 w.heap.size (.slice aM mm dm) (mkE Ls q 60) ∧ OwnS W0 w.heap.size (.slice aV mv dw) (mkE Ls q 0) ∧ (Ls.getD q []).length + 60 = mm ∧ (Ls.getD q []).length + 0 = mv ∧ q + 1 ≤ 4) := ⟨oM, oA, lM, lV, hql⟩
                          clear p4 oM oA eM eV lM lV hL1 hqN hql
                          go_wp2
                          go_loopg [30] mm (fun g y30 wx => ∃ z : Nat, z ≤ mm ∧ g = mm - z ∧ y30 = .int .i64 (z : Int) ∧ Hid (Below W0.heap.size W0 wx))
                          case atStart =>
                            go_light
                            exact ⟨0, Nat.zero_le _, rfl, rfl, HBx⟩
                          case round =>
                            clear HBx
                            obtain ⟨z, hzm, rfl, rfl, HBx⟩ := hrel
                            have hz0 : (0 : Int) ≤ (z : Int) := Int.natCast_nonneg _
                            have hz6 : (z : Int) ≤ 1060 := by omega
                            obtain ⟨oM, oV, lM, lV, hi1⟩ := HR.out
                            have kM := (HKc.out wr HBx.out).1
                            by_cases hzl : z < mm
                            · have hzl' : (z : Int) < (mm : Int) := by omega
                              have hd1 := bal (Below.refl wr.heap.size wr) (.cells #[.int .u8 (q : Int)] 5)
                              have hd2 := bal hd1 (.cells #[.int .u8 (q : Int)] 5)
                              obtain ⟨g5, rfl⟩ := ownS_some oM (by rw [mkE_len]; omega)
                              have t1 := (own_cell (owns_step oM HBx.out) (j := z) (by rw [mkE_len]; omega)).1
                              have t1' := (own_cell (owns_step oM (bnext HBx.out hd1)) (j := z) (by rw [mkE_len]; omega)).1
                              rw [mkE_get _ _ _ _ (by omega)] at t1 t1'
                              obtain ⟨kM1, kA1⟩ := HKc.out _ (bnext HBx.out hd1)
                              have e8 : IntKind.u8.wrap (q : Int) = (q : Int) := by simp [IntKind.wrap, IntKind.signed, IntKind.bits]; omega
                              by_cases hzv : z < mv
                              · have hzv' : (z : Int) < (mv : Int) := by omega
                                obtain ⟨g6, rfl⟩ := ownS_some oV (by rw [mkE_len]; omega)
                                have t2 := (own_cell (owns_step oV (bnext HBx.out hd1)) (j := z) (by rw [mkE_len]; omega)).1
                                have t2' := (own_cell (owns_step oV (bnext HBx.out hd2)) (j := z) (by rw [mkE_len]; omega)).1
                                rw [mkE_get _ _ _ _ (by omega)] at t2 t2'
                                have kA2 := (HKc.out _ (bnext HBx.out hd2)).2
                                have HX : Hid (Below W0.heap.size W0 ((wr.alloc (.cells #[.int .u8 (q : Int)] 5)).alloc (.cells #[.int .u8 (q : Int)] 5)).drew ∧ z + 1 ≤ mm) := ⟨(bnext HBx.out hd2).drew, hzl⟩
                                clear oM oV lM lV hzm hzl hi1 hd1 hd2 hzv HBx
                                go_upto_region 56 with (fail)
                                have cv := conv_drew wr q
                                have cv2 := conv_drew (wr.alloc (.cells #[.int .u8 (q : Int)] 5)) q
                                rw [World.size_alloc] at cv2
                                generalize mkT q = tx at *
                                go_region
                                go_wp2
                                go_roundg (mm - (z + 1))
                                case rel =>
                                  go_light
                                  exact ⟨z + 1, HX.out.2, rfl, by go_num, HX.out.1⟩
                                case measure => go_light; have := HX.out.2; omega
                              · have hzv' : ¬ ((z : Int) < (mv : Int)) := by omega
                                have HX : Hid (Below W0.heap.size W0 (wr.alloc (.cells #[.int .u8 (q : Int)] 5)).drew ∧ z + 1 ≤ mm) := ⟨(bnext HBx.out hd1).drew, hzl⟩
                                clear oM oV lM lV hzm hzl hi1 hd1 hd2 hzv HBx
                                go_upto_region 56 with (fail)
                                have cv := conv_drew wr q
                                generalize mkT q = tx at *
                                go_region
                                go_wp2
                                go_roundg (mm - (z + 1))
                                case rel =>
                                  go_light
                                  exact ⟨z + 1, HX.out.2, rfl, by go_num, HX.out.1⟩
                                case measure => go_light; have := HX.out.2; omega
                            · obtain rfl : z = mm := by omega
                              have hzl' : ¬ (z : Int) < (z : Int) := by omega
                              have HX : Hid (Below W0.heap.size W0 wr ∧ q + 1 ≤ 4) := ⟨HBx.out, hi1⟩
                              clear oM oV lM lV hzm hzl hi1 HBx
                              go_wp2
                              go_roundg (4 - (q + 1))
                              case rel =>
                                go_light
                                exact ⟨q + 1, HX.out.2, rfl, by go_num, HX.out.1⟩
                              case measure => go_light; have := HX.out.2; omega
                        · obtain rfl : q = 4 := by omega
                          have hq4 : ¬ (((4 : Nat) : Int) < 4) := by omega
                          obtain ⟨rr, hrr⟩ : ∃ rr, rgD K n' P' = rr := ⟨_, rfl⟩
                          have HRr := hide hrr
                          have HM := hide (H4.out.next HBx.out)
                          have HPs : Hid ((∀ x ∈ P', x.size ≤ 140737488351232) ∧ P'.length ≤ 8796093022208) := ⟨HM.out.r1.small, by have := HM.out.r1.short; omega⟩
                          have hn1 : IntKind.u64.wrap ((N : Int) + 1) = (n' : Int) := by
                            have h1 := HA.out.2.2.2.2
                            have h2 := HN.out
                            rw [u64_id _ (by omega) (by omega)]; omega
                          clear hrr H4 HBx hqN hql
                          go_wp2_with (first
                            | (go_at_call 16; with_reducible refine (size_any wr p1 v1' K n' P' HM.out.r1).mono ?_; rintro e w2 ⟨rfl, hb2⟩; have HB2 := hide hb2; clear hb2)
                            | (go_at_call 13; with_reducible refine (rpeaks_own w2 p1 v1' K n' P' (HM.out.r1.next HB2.out (Nat.le_refl _))).mono ?_; rintro e w3 ⟨u1, rfl, ho1, hb3⟩; have HB3 := hide (bnext HB2.out hb3); have HO1 := hide ho1; clear hb3 ho1)
                            | (go_at_call 13; with_reducible refine (rpeaks_own w3 p2 v2' K n' P' (HM.out.r2.next HB3.out (Nat.le_refl _))).mono ?_; rintro e w4 ⟨u2, rfl, ho2, hb4⟩; have HB4 := hide (bnext HB3.out hb4); have HO2 := hide ho2; have HO3 := hide (own_next HO1.out hb4 (Nat.le_refl _)); clear hb4 ho2)
                            | (go_at_call 14; with_reducible refine (same_own w4 u1 u2 _ _ P' HO3.out HO2.out HPs.out.1 HPs.out.2).mono ?_; rintro e w5 ⟨rfl, hb5⟩; have HB5 := hide (bnext HB4.out hb5); clear hb5)
                            | (go_at_call 17; with_reducible refine (rroot_any w5 (HT.out.next (bnext HM.out.below HB5.out)) p1 v1' K n' P' (HM.out.r1.next HB5.out (Nat.le_refl _)) rr HRr).mono ?_; rintro e w6 ⟨rfl, hb6⟩; have HB6 := hide (bnext HB5.out hb6); clear hb6)
                            | (go_at_call 17; with_reducible refine (rroot_any w6 (HT.out.next (bnext HM.out.below HB6.out)) p2 v2' K n' P' (HM.out.r2.next HB6.out (Nat.le_refl _)) rr HRr).mono ?_; rintro e w7 ⟨rfl, hb7⟩; have HB7 := hide (bnext HB6.out hb7); clear hb7))
                          go_ret
                          first | exact ⟨rfl, bnext HM.out.below HB7.out⟩ | exact bnext HM.out.below HB7.out
theorem mem_row (w : World) (ht : Tb w) (k : Int) (a : Int) (ha : (Lit.int .u64 a).wf = true) (s : ByteArray) (hs : s.size ≤ 140737488351232) :
    Calls Tryd.prog 3 #[.int .i64 k, .int .u64 a, .string s] w fun e w' => e = .returned (.bool true) ∧ Below w.heap.size w w' := by
  have hw := bounds_u64 ha
  obtain ⟨n0, rfl⟩ : ∃ n0 : Nat, a = (n0 : Int) := ⟨a.toNat, by omega⟩
  exact mem_walk w ht k n0 (by omega) s hs
end Go.Proofs.YtncndefggegicaaDoor
