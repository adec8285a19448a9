/-
  DiskMemory. Own work.
-/
import Derived.Test.YtmhedhhbdpdafaaDMn
import Derived.BigRegion
import Derived.BigQuiet
namespace Go.Proofs.Ytmhedhhbdpdafaa
open Go.RowKit
attribute [local go_sem ↓] exec_appR
theorem ownF_rdx {w : World} {B n c : Nat} {a : Option Addr} {l : List FL} (h : OwnF w B (.slice a n c) l) : ∃ b, RdF w a b 0 l := by
  obtain ⟨ao, b, c', e, r, _⟩ := ownF_rd' h
  obtain ⟨e1, _, _⟩ := Value.slice.inj e
  rw [e1]
  exact ⟨b, r⟩
theorem flip_len (K : List Bool) (i : Nat) (h : i ≤ K.length) : ((K.take i).map not ++ K.drop i).length = K.length := by simp; omega
theorem flip_get (K : List Bool) (i : Nat) (h : i < K.length) : ((K.take i).map not ++ K.drop i).getD i false = K.getD i false := by
  rw [List.getD_eq_getElem?_getD, List.getElem?_append_right (by simp; omega)]
  simp
  rw [Nat.min_eq_left (by omega), Nat.sub_self, Nat.add_zero]
theorem flip_set (K : List Bool) (i : Nat) (h : i < K.length) : ((K.take i).map not ++ K.drop i).set i (!(K.getD i false)) = (K.take (i + 1)).map not ++ K.drop (i + 1) := by
  rw [List.set_append_right _ _ (by simp; omega)]
  have e : i - ((K.take i).map not).length = 0 := by simp; omega
  rw [e, List.drop_eq_getElem_cons h, List.set_cons_zero, take_snoc K false i h, List.map_append, List.append_assoc]
  rfl
theorem ownF_appended {w w1 : World} {B : Nat} {v v' : Value} {l : List FL} (hb : Below B w w1) (h : OwnF w1 B v l) {w2 : World} (hw : Went w1 w2 v v') (hB : B ≤ w1.heap.size) : Below B w w2 := by
  rcases hw with ⟨g, n, cap, rfl, rfl, hg⟩ | ⟨hg, _⟩
  · exact hb.grown hg hB (fun k hk => by cases hk; exact (ownF_lt h g rfl).1)
  · exact hb.grown hg hB (fun k hk => by cases hk)
set_option maxRecDepth 100000 in
set_option maxHeartbeats 40000000 in
theorem mem_walk (w : World) (a0 : Option Addr) (b0 o0 c0 : Nat) (l0 : List FL) (r0 : RdF w a0 b0 o0 l0) (s0 : ∀ y ∈ l0, y.1.length ≤ maxLen ∧ y.2.length ≤ maxLen) (ka : Option Addr) (kb ko kc : Nat) (ks : List Bool) (hk : RdL w ka kb ko ks) (hkl : ks.length ≤ 140737488351232) (hkn : ka = none → kc = 0) :
    Calls Try.prog 5 #[.slice a0 l0.length c0, .slice ka ks.length kc] w fun e w' => e = .returned (.bool true) ∧ Below w.heap.size w w' := by
  have HA : Hid (∀ W, Calls Try.prog 9 #[] W fun e w' => e = .returned (.bool true) ∧ Below W.heap.size W w') := fun W => alive_any W
  obtain ⟨d, hd⟩ : ∃ d, dmm l0 = d := ⟨_, rfl⟩
  obtain ⟨n0, hn0⟩ : ∃ n, l0.length = n := ⟨_, rfl⟩
  obtain ⟨kl, hkl2⟩ : ∃ n, ks.length = n := ⟨_, rfl⟩
  have HR0 : Hid (RdF w a0 b0 o0 l0 ∧ l0.length = n0 ∧ dmm l0 = d ∧ ∀ y ∈ l0, y.1.length ≤ maxLen ∧ y.2.length ≤ maxLen) := ⟨r0, hn0, hd, s0⟩
  have HKs : Hid (RdL w ka kb ko ks ∧ ks.length ≤ 140737488351232 ∧ ks.length = kl ∧ (ka = none → kc = 0)) := ⟨hk, hkl, hkl2, hkn⟩
  rw [hkl2, hn0]
  have HSh : Hid (∀ (W : World) (s t : ByteArray), (⟨(s.data.toList.take 200).toArray⟩ : ByteArray) = t → Calls Try.prog 12 #[.string s, .int .i64 200] W fun e w' => e = .returned (.string t) ∧ w' = W) := fun W s t ht => by
    rw [← ht]
    exact short_any W s 200 (by decide)
  clear r0 s0 hk hkl hkl2 hn0 hd hkn
  go_enter Try.func5, Try.ntmps5
  go_upto_region 3 with (go_at_call 9; (with_reducible refine (HA.out _).mono ?_); rintro e w1 ⟨rfl, u1⟩)
  have HU1 := hide u1
  clear u1 HA
  go_wp2
  go_loopg [5, 6] 12 (fun g x y wr => ∃ (j : Nat), j ≤ n0 ∧ j ≤ 12 ∧ g = 12 - j ∧ y = .int .i64 (j : Int) ∧ Hid (OwnF wr w.heap.size x (whl d j) ∧ Below w.heap.size w wr))
  case atStart =>
    exact ⟨0, Nat.zero_le _, Nat.zero_le _, rfl, rfl, ⟨ownF_nil _ _, HU1.out⟩⟩
  case round =>
    clear HU1
    obtain ⟨j, hj1, hj2, rfl, rfl, HO⟩ := hrel
    by_cases hlt : j < n0 ∧ j < 12
    · -- PART P1
      obtain ⟨hl1, hl2⟩ := hlt
      have hx1 : (j : Int) < (n0 : Int) := by omega
      have hx2 : (j : Int) < 12 := by omega
      have hx0 : (0 : Int) ≤ (j : Int) := by omega
      obtain ⟨x, hx⟩ : ∃ x, l0.getD j ([], []) = x := ⟨_, rfl⟩
      obtain ⟨dt, hdt⟩ : ∃ dt : ByteArray, (⟨x.2.toArray⟩ : ByteArray) = dt := ⟨_, rfl⟩
      obtain ⟨sh, hsh⟩ : ∃ t : ByteArray, (⟨(dt.data.toList.take 200).toArray⟩ : ByteArray) = t := ⟨_, rfl⟩
      have HC : Hid (∀ W, Below w.heap.size w W → W.cell? ⟨b0, o0 + j * 2 + 1, none⟩ = some (.string dt)) := fun W hb => by
        have := (HR0.out.1.next hb).c1 j (by rw [HR0.out.2.1]; exact hl1)
        rw [hx, hdt] at this
        exact this
      obtain rfl := HR0.out.1.ptr (by rw [HR0.out.2.1]; omega)
      have hshs : sh.size ≤ 200 := by
        rw [← size_list, ← hsh]
        simp
        omega
      obtain ⟨sd, hsd⟩ : ∃ t : ByteArray, sh ++ ⟨#[46]⟩ = t := ⟨_, rfl⟩
      have hdj : sd.data.toList = d j := by
        rw [← hsd, ← HR0.out.2.2.1]
        unfold dmm
        rw [hx, ← hsh, ← hdt]
        simp [ByteArray.data_append]
      obtain ⟨ao, cap, hv⟩ := own_slice HO.out.1
      rw [whl_len] at hv
      subst hv
      obtain ⟨c, hc⟩ : ∃ c, 97 + j = c := ⟨_, rfl⟩
      obtain ⟨w2, hw2⟩ : ∃ W, (wr.alloc (.cells #[.int .u8 (c : Int)] 5)) = W := ⟨_, rfl⟩
      obtain ⟨w3, hw3⟩ : ∃ W, (w2.alloc (.cells #[.string (mkB c), .string sd] 42)) = W := ⟨_, rfl⟩
      have hb2 : Below wr.heap.size wr w2 := by rw [← hw2]; exact bal (Below.refl _ _) _
      have hb3 : Below wr.heap.size wr w3 := by rw [← hw3]; exact bal hb2 _
      have hb3d : Below wr.heap.size wr w3.drew := hb3.drew
      obtain ⟨v6, w6, hrn, h6, r6⟩ := run_app_F w3.drew 40 w.heap.size _ (whl d j) (ownF_next HO.out.1 hb3d) ⟨w2.heap.size, 0, none⟩ 1 (mkB c) sd (by rw [← hw3]; exact two_new w2 _ _ _) (by rw [whl_len]; omega) (bnext HO.out.2 hb3d).size
      have HX : Hid (OwnF w6 w.heap.size v6 (whl d (j + 1)) ∧ Below w.heap.size w w6) := by
        refine ⟨?_, ownF_appended (bnext HO.out.2 hb3d) (ownF_next HO.out.1 hb3d) r6 (bnext HO.out.2 hb3d).size⟩
        rw [whl_snoc, hc, ← hdj]
        exact h6
      obtain ⟨aa, ma, da, rfl⟩ := row_slice h6
      have cv := conv_drew wr c (by omega)
      have k0 := HC.out wr HO.out.2
      have k2 := HC.out w2 (bnext HO.out.2 hb2)
      have k3 := HC.out w3 (bnext HO.out.2 hb3)
      have e1 : IntKind.i64.wrap (97 + (j : Int)) = (c : Int) := by rw [IntKind.wrap_i64]; omega
      have e8 : IntKind.u8.wrap (c : Int) = (c : Int) := by simp [IntKind.wrap, IntKind.signed, IntKind.bits]; omega
      have hns : ¬ (9223372036854775807 < sh.size + 1) := by omega
      have hwj : IntKind.i64.wrap ((j : Int) + 1) = ((j + 1 : Nat) : Int) := by rw [IntKind.wrap_i64]; omega
      have HS1 := hide (fun W => HSh.out W dt sh hsh)
      have hsz : w2.heap.size = wr.heap.size + 1 := by rw [← hw2, World.size_alloc]
      rw [hsz] at hrn
      clear hsz
      subst hw3
      subst hw2
      clear hc hx hdt hsh hdj h6 r6 hb2 hb3 hb3d hj1 hj2 hl1 hl2
      go_upto_region 7 with (fail)
      go_region_law (first
        | (refine step_app (by rfl) _ _ _ _ (by rfl) (by rfl) (by rfl) hrn ?_)
        | (go_simp; go_wp2_with (go_at_call 12; (with_reducible refine (HS1.out _).mono ?_); rintro e w7 ⟨rfl, h7⟩; rw [h7]; clear h7 w7)))
      all_goals
        clear hrn cv k0 k2 k3 HS1 HC
        as_aux_lemma =>
          go_wp2
          go_roundg (12 - (j + 1))
          case rel =>
            go_light
            exact ⟨j + 1, by omega, by omega, rfl, by go_num, HX⟩
          case measure => go_light; omega
    · have hj12 : j ≤ 12 := hj2
      obtain ⟨ao, b5, cap, hv, rd5, hno5, hcap5, hblk5⟩ := ownF_rd' HO.out.1
      rw [whl_len] at hv hcap5
      subst hv
      have HR5 : Hid (RdF wr ao b5 0 (whl d j) ∧ (ao = none → cap = 0)) := ⟨rd5, hno5⟩
      clear rd5 hno5 hblk5 hcap5
      go_upto_region 5 with (fail)
      go_cut [38] from 31 to 56 (fun v wx => v = .bool false ∧ wx = wr)
      case first =>
        as_aux_lemma =>
          by_cases hl1 : (j : Int) < (n0 : Int)
          · have hl2 : ¬ ((j : Int) < 12) := by omega
            clear hlt
            go_wp2
            go_meet
            case rel => exact ⟨rfl, rfl⟩
          · clear hlt
            go_wp2
            go_meet
            case rel => exact ⟨rfl, rfl⟩
      case rest =>
      obtain ⟨rfl, hwc⟩ := hcut
      rw [hwc]
      clear hwc wc hlt hj1
      obtain ⟨v8, w2, hrn, h8, g8⟩ := run_all_F (wr.alloc (.cells #[] 42)) 40 wr.heap.size _ [] (ownF_made wr) ao b5 0 cap (whl d j) (HR5.out.1.next (bal (Below.refl _ _) _)) HR5.out.2 (by rw [whl_len]; simp; omega) (by simp)
      rw [List.nil_append] at h8
      rw [whl_len] at hrn
      have hb2 : Below wr.heap.size wr w2 := (bal (Below.refl _ _) _).grown g8 (by simp) (fun k hk => by cases hk; exact Nat.le_refl _)
      have HS2 : Hid (OwnF w2 w.heap.size (.slice ao j cap) (whl d j ++ List.replicate 0 ([114, 111, 111, 109], [])) ∧ OwnF w2 w.heap.size v8 (whl d j) ∧ Apart (.slice ao j cap) v8 ∧ Below w.heap.size w w2) := by
        refine ⟨by simpa using ownF_next HO.out.1 hb2, ownF_mono h8 HO.out.2.size, fun k h1 h2 => ?_, bnext HO.out.2 hb2⟩
        have := (ownF_lt HO.out.1 k h1).2
        have := (ownF_lt h8 k h2).1
        omega
      obtain ⟨a8, c8, hv8⟩ := own_slice h8
      rw [whl_len] at hv8
      subst hv8
      have hap := appR_of hrn
      clear hrn h8 g8 hb2 HO HR5
      go_wp2
      clear hap
      go_loopg [5, 9] 20 (fun g v y wr => ∃ i : Nat, i ≤ 20 ∧ g = 20 - i ∧ y = .int .i64 (i : Int) ∧ Hid (OwnF wr w.heap.size v (whl d j ++ List.replicate i ([114, 111, 111, 109], [])) ∧ OwnF wr w.heap.size (.slice a8 j c8) (whl d j) ∧ Apart v (.slice a8 j c8) ∧ Below w.heap.size w wr))
      case atStart =>
        go_light
        exact ⟨0, Nat.zero_le _, rfl, rfl, HS2⟩
      case round =>
        clear HS2
        obtain ⟨i, hi, rfl, rfl, HS⟩ := hrel
        by_cases hlt : i < 20
        · -- PART P2
          have z1 : (i : Int) < 20 := by omega
          obtain ⟨aoj, cj, hvj⟩ := own_slice HS.out.1
          obtain ⟨lj, hlj⟩ : ∃ lj, (whl d j ++ List.replicate i ([114, 111, 111, 109], [])).length = lj := ⟨_, rfl⟩
          rw [hlj] at hvj
          subst hvj
          have hb1 := bal (Below.refl wr.heap.size wr) (.cells #[.string ⟨#[114, 111, 111, 109]⟩, .string ⟨#[]⟩] 42)
          obtain ⟨v6, w6, hrn, h6, r6⟩ := run_app_F (wr.alloc (.cells #[.string ⟨#[114, 111, 111, 109]⟩, .string ⟨#[]⟩] 42)) 40 w.heap.size _ _ (ownF_next HS.out.1 hb1) ⟨wr.heap.size, 0, none⟩ 1 ⟨#[114, 111, 111, 109]⟩ ⟨#[]⟩ (two_new wr _ _ _) (by simp [whl_len]; omega) (bnext HS.out.2.2.2 hb1).size
          have HS6 : Hid (OwnF w6 w.heap.size v6 (whl d j ++ List.replicate (i + 1) ([114, 111, 111, 109], [])) ∧ OwnF w6 w.heap.size (.slice a8 j c8) (whl d j) ∧ Apart v6 (.slice a8 j c8) ∧ Below w.heap.size w w6) := by
            have hB := (bnext HS.out.2.2.2 hb1).size
            obtain ⟨q1, q2, q3⟩ := keepF (ownF_next HS.out.2.1 hb1) (ownF_next HS.out.1 hb1) HS.out.2.2.1 hB r6
            exact ⟨by rw [List.replicate_succ', ← List.append_assoc]; exact h6, q1, q2, (bnext HS.out.2.2.2 hb1).trans q3⟩
          obtain ⟨a6, m6, d6, rfl⟩ := row_slice h6
          have hap := appR_of hrn
          have HJ := hide hlt
          clear hrn h6 r6 hb1 hi hlt hlj HS
          go_wp2
          go_roundg (20 - (i + 1))
          case rel =>
            go_light
            exact ⟨i + 1, by have := HJ.out; omega, rfl, by have := HJ.out; go_num, HS6⟩
          case measure => go_light; have := HJ.out; omega
        · obtain rfl : i = 20 := by omega
          have z1 : ¬ (((20 : Nat) : Int) < 20) := by omega
          obtain ⟨R, hR⟩ : ∃ R, whl d j ++ List.replicate 20 ([114, 111, 111, 109], []) = R := ⟨_, rfl⟩
          obtain ⟨lw, hlw⟩ : ∃ lw, R.length = lw := ⟨_, rfl⟩
          have hlwn : lw = j + 20 := by rw [← hlw, ← hR]; simp [whl_len]
          have o5 := HS.out.1
          rw [hR] at o5
          obtain ⟨ao, b5, c5, hv5, rd5, hno5, hc5, hb5⟩ := ownF_rd' o5
          rw [hlw] at hv5 hc5
          have hlc : (j : Int) ≤ (c5 : Int) := by omega
          have hl0 : (0 : Int) ≤ (j : Int) := by omega
          have htk : R.take j = whl d j := by rw [← hR]; have := whl_len d j; exact List.take_left' this
          obtain ⟨D2, D3, D4, la, ls, hmm⟩ := mm_disk d (by rw [← HR0.out.2.2.1]; exact dmm_ne l0) (by rw [← HR0.out.2.2.1]; exact dmm_len l0) j hj12 ks
          have HMm := hide hmm
          have rt := rd5.take j
          rw [htk] at rt
          have HOp : Hid (Calls Try.prog 24 #[.int .i64 1048576, .slice ao j c5] wr fun e w' => ∃ p S, e = .returned (.tuple #[.pointer (some ⟨p, 0, none⟩), .int .i64 0]) ∧ Dsk w' p S (openD 1048576 (whl d j)) ∧ (∀ x, S x → wr.heap.size ≤ x) ∧ Below wr.heap.size wr w') := by
            have := open_yes wr 1048576 (by decide) ao b5 0 c5 (whl d j) rt hmm.nm (by rw [whl_len]; omega) hmm.c hmm.b
            rw [whl_len] at this
            exact this
          obtain ⟨a8', b8, c8', hv8, rd8, hno8, hc8, hb8⟩ := ownF_rd' HS.out.2.1
          obtain ⟨e81, e82, e83⟩ := Value.slice.inj hv8
          clear e82
          subst e81 e83
          have HWr : Hid (∀ (W : World) p S, Dsk W p S (openD 1048576 (whl d j)) → Calls Try.prog 13 #[.pointer (some ⟨p, 0, none⟩), .string ⟨#[97]⟩, .int .i64 0, .string ⟨#[63]⟩] W fun e w' => e = .returned (.int .i64 0) ∧ Mvd W w' p S D2) := fun W p S h => by
            have := h.write ⟨#[97]⟩ ⟨#[63]⟩ (by decide) 0 (by decide) (by decide) (by decide) HMm.out.r1.1 HMm.out.r1.2.1 (h.small HMm.out.r1 _)
            rw [show wrD (openD 1048576 (whl d j)) (⟨#[97]⟩ : ByteArray).data.toList 0 (⟨#[63]⟩ : ByteArray).data.toList = (D2, 0) from HMm.out.wr] at this
            exact this
          have HRl : Hid (R.length = lw ∧ lw = j + 20 ∧ whl d j ++ List.replicate 20 ([114, 111, 111, 109], []) = R ∧ j ≤ 12) := ⟨hlw, hlwn, hR, hj12⟩
          have HS5 : Hid (OwnF wr w.heap.size (.slice ao lw c5) R ∧ OwnF wr w.heap.size (.slice a8 j c8) (whl d j) ∧ Apart (.slice ao lw c5) (.slice a8 j c8) ∧ Below w.heap.size w wr) := by
            rw [← hv5]
            exact ⟨o5, HS.out.2⟩
          have H8 : Hid (RdF wr a8 b8 0 (whl d j) ∧ (0 < j → (Value.slice a8 j c8).ownBlock = some b8)) := ⟨rd8, fun h => (hb8 (by rw [whl_len]; exact h)).2⟩
          subst hv5
          clear hmm hR hlw o5 rd5 hno5 hc5 hb5 htk rt hv8 rd8 hno8 hc8 hb8 hlt hi HS hj2 hlwn
          go_upto_region 18 with (first
            | (go_at_call 24; (with_reducible refine HOp.out.mono ?_); rintro e w2 ⟨p, S, rfl, ds2, hs2, u2⟩)
            | (go_at_call 13; (with_reducible refine (HWr.out _ _ _ ds2).mono ?_); rintro e w3 ⟨rfl, mv3⟩))
          obtain ⟨S', ds3, hs3, up3⟩ := mv3
          have hkp : ∀ g, g < wr.heap.size → w3.heap[g]? = wr.heap[g]? := fun g hg => (up3.block g (by have := u2.size; omega) (fun q => by have := hs2 g q; omega)).trans (u2.block g hg)
          have hS' : ∀ x, S' x → wr.heap.size ≤ x := fun x hx => (hs3 x hx).elim (hs2 x) (fun q => by have := u2.size; omega)
          have HW0 : Hid (Dsk w3 p S' D2 ∧ (∀ x, S' x → wr.heap.size ≤ x) ∧ OwnF w3 w.heap.size (.slice ao lw c5) R ∧ OwnF w3 w.heap.size (.slice a8 j c8) (whl d j) ∧ RdF w3 a8 b8 0 (whl d j) ∧ Apart (.slice ao lw c5) (.slice a8 j c8) ∧ Below w.heap.size w w3 ∧ w.heap.size ≤ wr.heap.size) := by
            obtain ⟨q1, q2, q3, q4⟩ := HS5.out
            refine ⟨ds3, hS', own_of_block q1 (fun g hg => hkp g (ownF_lt q1 g hg).2), own_of_block q2 (fun g hg => hkp g (ownF_lt q2 g hg).2), H8.out.1.same (fun h0 => hkp b8 (H8.out.1.lt h0)), q3, ?_, q4.size⟩
            exact upo_below (bnext q4 u2) (fun x hx => Nat.le_trans q4.size (hs2 x hx)) up3
          obtain ⟨H, hH⟩ : ∃ H : Nat → Prop, (fun x => S' x ∨ (0 < j ∧ x = b8)) = H := ⟨_, rfl⟩
          have HH : Hid ((∀ x, S' x → H x) ∧ (0 < j → H b8) ∧ (∀ g, (Value.slice ao lw c5).ownBlock = some g → ¬ H g) ∧ Hd w3 w3 H) := by
            obtain ⟨q1, q2, q3, q4, q5, q6, q7, q8⟩ := HW0.out
            rw [← hH]
            refine ⟨fun x hx => .inl hx, fun h0 => .inr ⟨h0, rfl⟩, fun g hg hx => ?_, Hd.refl _ _ (fun x hx => ?_)⟩
            · rcases hx with hx | ⟨h0, rfl⟩
              · have := q2 g hx
                have := (ownF_lt HS5.out.1 g hg).2
                omega
              · exact q6 g hg (H8.out.2 h0)
            · rcases hx with hx | ⟨h0, rfl⟩
              · exact q1.lt hx
              · exact q5.lt (by rw [whl_len]; exact h0)
          clear hH hkp hS' ds2 ds3 hs2 hs3 up3 u2 HOp HWr HS5 H8
          go_wp2
          go_loopg [12] lw (fun g y wx => ∃ i : Nat, i ≤ lw ∧ g = lw - i ∧ y = .int .i64 (i : Int) ∧ Hid (OwnF wx w.heap.size (.slice ao lw c5) (List.replicate i ([111, 118, 101, 114], [111, 118, 101, 114]) ++ R.drop i) ∧ Hd w3 wx H ∧ Below w.heap.size w wx))
          case atStart =>
            go_light
            exact ⟨0, Nat.zero_le _, rfl, rfl, by simpa using HW0.out.2.2.1, HH.out.2.2.2, HW0.out.2.2.2.2.2.2.1⟩
          case round =>
            obtain ⟨i, hi, rfl, rfl, HM⟩ := hrel
            have hi0 : (0 : Int) ≤ (i : Int) := by omega
            by_cases hlt : i < lw
            · -- PART P3
              have hil : (i : Int) < (lw : Int) := by omega
              obtain ⟨x1, x2, x3, x4⟩ := HRl.out
              have hXl : (List.replicate i ([111, 118, 101, 114], [111, 118, 101, 114]) ++ R.drop i).length = lw := by rw [mark_len _ _ _ (by omega)]; exact x1
              obtain ⟨g5, rfl⟩ := ownF_some HM.out.1 (by omega)
              obtain ⟨⟨t0, t1⟩, tf⟩ := ownF_at HM.out.1 (j := i) (by omega)
              rw [mark_get] at t0 t1
              have hi2 : IntKind.i64.wrap ((i : Int) + 1) = ((i + 1 : Nat) : Int) := by rw [IntKind.wrap_i64]; omega
              have HI := hide hlt
              go_upto_region 21 with (fail)
              try rw [show decide (i < lw) = true from decide_eq_true HI.out]
              try rw [show decide ((i : Int) < (lw : Int)) = true from decide_eq_true hil]
              go_cut [117] from 85 to 121 (fun y wx => y = .bool false ∧ Hid (Below wr.heap.size wr wx))
              case first =>
                by_cases hc : i < j
                · have zc : (i : Int) < (j : Int) := by omega
                  have zd : ¬ ((j : Int) ≤ (i : Int)) := by omega
                  have r8 : RdF wr a8 b8 0 (whl d j) := HW0.out.2.2.2.2.1.same (fun h0 => HM.out.2.1.eq b8 (HH.out.2.1 (by rw [whl_len] at h0; exact h0)))
                  have k0 := r8.c0 i (by rw [whl_len]; exact hc)
                  have k1 := r8.c1 i (by rw [whl_len]; exact hc)
                  rw [Nat.zero_add] at k0 k1
                  have ea := r8.ptr (by rw [whl_len]; omega)
                  have ex : R.getD i ([], []) = (whl d j).getD i ([], []) := by
                    rw [← x3, List.getD_eq_getElem?_getD, List.getElem?_append_left (by rw [whl_len]; exact hc), ← List.getD_eq_getElem?_getD]
                  rw [ex] at t0 t1
                  generalize (whl d j).getD i ([], []) = x at *
                  obtain ⟨xa, hxa⟩ : ∃ a : ByteArray, ⟨x.1.toArray⟩ = a := ⟨_, rfl⟩
                  obtain ⟨xb, hxb⟩ : ∃ a : ByteArray, ⟨x.2.toArray⟩ = a := ⟨_, rfl⟩
                  rw [hxa] at t0 k0
                  rw [hxb] at t1 k1
                  subst ea
                  clear hc ex x1 x2 x3 x4 hxa hxb r8 tf hXl hi hlt
                  go_quiet (fail)
                  go_wp2
                  go_meet
                  case rel =>
                    go_light
                    exact ⟨rfl, below_drewN (Below.refl _ _) _⟩
                · have zc : ¬ ((i : Int) < (j : Int)) := by omega
                  have zd : (j : Int) ≤ (i : Int) := by omega
                  have ex : R.getD i ([], []) = ([114, 111, 111, 109], []) := by
                    rw [← x3, List.getD_eq_getElem?_getD, List.getElem?_append_right (by rw [whl_len]; omega), List.getElem?_replicate, if_pos (by rw [whl_len]; omega)]; rfl
                  rw [ex] at t0 t1
                  clear hc ex x1 x2 x3 x4 tf hXl hi hlt
                  go_quiet (fail)
                  go_wp2
                  go_meet
                  case rel =>
                    go_light
                    exact ⟨rfl, below_drewN (Below.refl _ _) _⟩
              case rest =>
                obtain ⟨rfl, HBc⟩ := hcut
                have o6 := ownF_next HM.out.1 HBc.out
                obtain ⟨⟨t0', t1'⟩, tf'⟩ := ownF_at o6 (j := i) (by omega)
                have f0 := tf' (i * 2)
                have f1 := tf' (i * 2 + 1)
                have HM3 : Hid (OwnF ((wc.setCell ⟨g5, i * 2, none⟩ (.string ⟨#[111, 118, 101, 114]⟩)).setCell ⟨g5, i * 2 + 1, none⟩ (.string ⟨#[111, 118, 101, 114]⟩)) w.heap.size (.slice (some ⟨g5, 0, none⟩) lw c5) (List.replicate (i + 1) ([111, 118, 101, 114], [111, 118, 101, 114]) ++ R.drop (i + 1)) ∧ Hd w3 ((wc.setCell ⟨g5, i * 2, none⟩ (.string ⟨#[111, 118, 101, 114]⟩)).setCell ⟨g5, i * 2 + 1, none⟩ (.string ⟨#[111, 118, 101, 114]⟩)) H ∧ Below w.heap.size w ((wc.setCell ⟨g5, i * 2, none⟩ (.string ⟨#[111, 118, 101, 114]⟩)).setCell ⟨g5, i * 2 + 1, none⟩ (.string ⟨#[111, 118, 101, 114]⟩))) := by
                  have hg := (ownF_lt o6 g5 rfl).1
                  have hnH := HH.out.2.2.1 g5 rfl
                  refine ⟨?_, ((HM.out.2.1.next HBc.out).set hnH _ _).set hnH _ _, ((bnext HM.out.2.2 HBc.out).setCell hg _).setCell hg _⟩
                  have := ownF_set o6 (j := i) (by omega) ⟨#[111, 118, 101, 114]⟩ ⟨#[111, 118, 101, 114]⟩
                  rw [mark_set' _ _ _ (by omega)] at this
                  exact this
                clear t0 t1 tf tf' o6 HM HBc hi hlt x1 x2 x3 x4 hXl
                go_wp2
                go_roundg (lw - (i + 1))
                case rel =>
                  go_light
                  exact ⟨i + 1, by have := HI.out; omega, rfl, by go_num, HM3⟩
                case measure => go_light; have := HI.out; omega
            · obtain rfl : i = lw := by omega
              have hil : ¬ ((i : Int) < (i : Int)) := by omega
              have hds : Dsk wr p S' D2 := HW0.out.1.same (fun x hx => HM.out.2.1.eq x (HH.out.1 x hx))
              have hB := HM.out.2.2
              have hSlt : ∀ x, S' x → x < wr.heap.size := fun x hx => hds.lt hx
              have hSge : ∀ x, S' x → w.heap.size ≤ x := fun x hx => Nat.le_trans HW0.out.2.2.2.2.2.2.2 (HW0.out.2.1 x hx)
              obtain ⟨hk, hkl, hkl2, hkn⟩ := HKs.out
              -- more
              obtain ⟨v1, w4, hr1, o1, g1⟩ := run_all_L (wr.alloc (.cells #[] 4)) 28 wr.heap.size _ [] (ownL_made wr) ka kb ko kc ks ((hk.next hB).next (bal (Below.refl _ _) _)) hkn (by simp; omega) (by simp)
              rw [List.nil_append] at o1
              rw [hkl2] at hr1
              have u4 : Below wr.heap.size wr w4 := (bal (Below.refl _ _) _).grown g1 (by simp) (fun k hk => by cases hk; exact Nat.le_refl _)
              obtain ⟨av1, cv1, hv1⟩ := own_slice o1
              rw [hkl2] at hv1
              have n5 := new1 w4 (.cells #[.bool true, .bool false, .bool true, .bool false, .bool true] 4)
              have u5 := bal (Below.refl w4.heap.size w4) (.cells #[.bool true, .bool false, .bool true, .bool false, .bool true] 4)
              have rd5 : RdL (w4.alloc (.cells #[.bool true, .bool false, .bool true, .bool false, .bool true] 4)) (some ⟨w4.heap.size, 0, none⟩) w4.heap.size 0 [true, false, true, false, true] := ⟨fun _ => rfl, fun q hq => by
                rw [cell_of_row _ _ _ _ _ (0, 0) n5]
                match q, hq with
                | 0, _ => rfl
                | 1, _ => rfl
                | 2, _ => rfl
                | 3, _ => rfl
                | 4, _ => rfl⟩
              obtain ⟨v2, w5, hr2, o2, g2⟩ := run_all_L _ 28 wr.heap.size v1 ks (ownL_next o1 u5) (some ⟨w4.heap.size, 0, none⟩) w4.heap.size 0 5 [true, false, true, false, true] rd5 (fun e => by cases e) (by simp; omega) (by simp; exact Nat.le_trans u4.size (by omega))
              replace hr2 : (Builtin.append_ #[28, 28] 28 #[v1, .slice (some ⟨w4.heap.size, 0, none⟩) 5 5]).run Try.prog (w4.alloc (.cells #[.bool true, .bool false, .bool true, .bool false, .bool true] 4)) = .ok v2 w5 := hr2
              have u5' : Below wr.heap.size w4 w5 := (u5.mono u4.size).grown g2 (by simp; exact Nat.le_trans u4.size (by omega)) (fun k hk => (ownL_lt o1 k hk).1)
              have u5w : Below wr.heap.size wr w5 := u4.trans u5'
              obtain ⟨K5, hK5⟩ : ∃ K, ks ++ [true, false, true, false, true] = K := ⟨_, rfl⟩
              rw [hK5] at o2
              obtain ⟨lm, hlm⟩ : ∃ n, K5.length = n := ⟨_, rfl⟩
              have hlm2 : lm = kl + 5 := by rw [← hlm, ← hK5, ← hkl2]; simp
              have hK5t : K5.take kl = ks := by rw [← hK5, ← hkl2]; exact List.take_left
              obtain ⟨am, bm, cm, hv2, rm, hbm⟩ := ownL_rd o2
              rw [hlm] at hv2
              have hgm : am = some ⟨bm, 0, none⟩ := rm.ptr (by omega)
              subst hgm
              have hcm : lm ≤ cm := by
                rcases o2.2 with ⟨e1, e2⟩ | ⟨g, cap, cur, e1, _, _, e3, _⟩
                · rw [e1] at hv2; injection hv2 with _ h5 _; omega
                · rw [e1] at hv2; injection hv2 with _ h5 h6; omega
              -- mine
              obtain ⟨v3, w6, hr3, o3, g3⟩ := run_all_L (w5.alloc (.cells #[] 4)) 28 w5.heap.size _ [] (ownL_made w5) (some ⟨bm, 0, none⟩) bm 0 cm K5 (rm.next (bal (Below.refl _ _) _)) (fun e => by cases e) (by simp; omega) (by simp)
              rw [List.nil_append] at o3
              rw [hlm] at hr3
              have u6 : Below w5.heap.size w5 w6 := (bal (Below.refl _ _) _).grown g3 (by simp) (fun k hk => by cases hk; exact Nat.le_refl _)
              obtain ⟨an, bn, cn, hv3, rn, hbn⟩ := ownL_rd o3
              rw [hlm] at hv3
              have hgn : an = some ⟨bn, 0, none⟩ := rn.ptr (by omega)
              subst hgn
              have u6w : Below wr.heap.size wr w6 := u5w.trans (u6.mono u5w.size)
              have ds6 := hds.next u6w
              have rm6 := (rm.next u6).take kl
              rw [hK5t] at rm6
              have hbm1 := (hbm (by omega)).2
              have hbn1 := (hbn (by omega)).2
              have hbmlt : bm < w5.heap.size := rm.lt (by omega)
              have hbnlt : bn < w6.heap.size := rn.lt (by omega)
              have HLy : Hid (Calls Try.prog 25 #[.pointer (some ⟨p, 0, none⟩), .agg #[.int .i64 1, .int .i64 4, .slice (some ⟨bm, 0, none⟩) kl cm]] w6 fun e w' => e = .returned (.tuple #[]) ∧ Mvd w6 w' p S' D3) := by
                have := ds6.lay 1 4 (by decide) (some ⟨bm, 0, none⟩) bm 0 cm ks rm6 (by omega) (fun _ q => by have := hSlt bm q; omega)
                rw [HMm.out.y, hkl2] at this
                exact this
              have HFx : Hid (Below w.heap.size w w6 ∧ (∀ x, S' x → x < wr.heap.size) ∧ (∀ x, S' x → w.heap.size ≤ x) ∧ wr.heap.size ≤ bm ∧ bm < w5.heap.size ∧ w5.heap.size ≤ bn ∧ bn < w6.heap.size ∧ wr.heap.size ≤ w5.heap.size ∧ w5.heap.size ≤ w6.heap.size ∧ OwnL w6 w.heap.size (.slice (some ⟨bm, 0, none⟩) lm cm) K5 ∧ RdL w6 (some ⟨bn, 0, none⟩) bn 0 K5 ∧ RdL w6 (some ⟨bm, 0, none⟩) bm 0 ks ∧ K5.length = lm ∧ lm = kl + 5 ∧ w.heap.size ≤ wr.heap.size) := by
                refine ⟨bnext hB u6w, hSlt, hSge, hbm1, hbmlt, hbn1, hbnlt, u5w.size, u6.size, ?_, rn, rm6, hlm, hlm2, hB.size⟩
                rw [← hv2]
                exact ownL_next (World.ownsRow.mono o2 hB.size) u6
              have hap1 := appR_of hr1
              rw [hv1] at hap1 hr2
              have hap2 := appR_of hr2
              rw [hv2] at hap2
              have hap3 := appR_of hr3
              rw [hv3] at hap3
              have hkc : (kl : Int) ≤ (cm : Int) := by omega
              have hk0 : (0 : Int) ≤ (kl : Int) := by omega
              have hK5l : K5.length = lm ∧ lm = kl + 5 := ⟨hlm, hlm2⟩
              have HKl := hide hK5l
              clear hK5l
              clear hv1 hv2 hv3 hr1 hr2 hr3 o1 o2 o3 g1 g2 g3 u4 u5 u5' u5w u6 u6w rd5 n5 hK5 hK5t rm rn hbm hbn hcm ds6 rm6 hbm1 hbn1 hbmlt hbnlt hds hB hSlt hSge hk hkl hkl2 hkn hlm hlm2 HW0 HH HM hi hlt
              go_upto_region 26 with (fail)
              clear hap1 hap2 hap3
              go_upto_region 27 with (go_at_call 25; (with_reducible refine HLy.out.mono ?_); rintro e w7 ⟨rfl, mv7⟩)
              obtain ⟨S2, ds7, hs7, up7⟩ := mv7
              obtain ⟨ll, hll⟩ : ∃ n, ls.length = n := ⟨_, rfl⟩
              have HF7 : Hid (Dsk w7 p S2 D3 ∧ (∀ x, S2 x → w.heap.size ≤ x) ∧ ¬ S2 bm ∧ ¬ S2 bn ∧ bm ≠ bn ∧ bm < w7.heap.size ∧ bn < w7.heap.size ∧ OwnL w7 w.heap.size (.slice (some ⟨bm, 0, none⟩) lm cm) K5 ∧ RdL w7 (some ⟨bn, 0, none⟩) bn 0 K5 ∧ RdL w7 (some ⟨bm, 0, none⟩) bm 0 ks ∧ Below w.heap.size w w7 ∧ ls.length = ll ∧ ll ≤ 200) := by
                obtain ⟨q1, q2, q3, q4, q5, q6, q7, q8, q9, q10, q11, q12, q13, q14, q15⟩ := HFx.out
                have k : ∀ g, wr.heap.size ≤ g → g < w6.heap.size → w7.heap[g]? = w6.heap[g]? := fun g h1 h2 => up7.block g h2 (fun q => by have := q2 g q; omega)
                have hal := HMm.out.al
                refine ⟨ds7, fun x hx => (hs7 x hx).elim (q3 x) (fun q => by have := q1.size; omega), fun q => ?_, fun q => ?_, by omega, by have := up7.size; omega, by have := up7.size; omega, own_of_block q10 (fun g hg => by cases hg; exact k bm q4 (by omega)), q11.same (fun _ => k bn (by omega) q7), q12.same (fun _ => k bm q4 (by omega)), upo_below q1 q3 up7, hll, by omega⟩
                · rcases hs7 bm q with q | q
                  · have := q2 bm q; omega
                  · omega
                · rcases hs7 bn q with q | q
                  · have := q2 bn q; omega
                  · omega
              have HAf : Hid (∀ W, Below w7.heap.size w7 W → Calls Try.prog 22 #[.pointer (some ⟨p, 0, none⟩), .slice (some ⟨bm, 0, none⟩) kl cm] W fun e w' => ∃ ao b c, e = .returned (.slice ao ll c) ∧ RdF w' ao b 0 ls ∧ (ao = none → c = 0) ∧ Below W.heap.size W w') := fun W hW => by
                have := (HF7.out.1.next hW).after (some ⟨bm, 0, none⟩) bm 0 cm ks (HF7.out.2.2.2.2.2.2.2.2.2.1.next hW) (by have := HKs.out.2.1; omega)
                rw [HMm.out.af, HKs.out.2.2.1] at this
                refine this.mono fun e w' z => ?_
                obtain ⟨v, e1, o1, u1⟩ := z
                obtain ⟨ao, b, c, e2, r1, n1, _, _⟩ := ownF_rd' o1
                exact ⟨ao, b, c, by rw [e1, e2, HF7.out.2.2.2.2.2.2.2.2.2.2.2.1], r1, n1, u1⟩
              clear ds7 hs7 up7 hll HLy HFx
              go_upto_region 28 with (go_at_call 22; (with_reducible refine (HAf.out _ (bal (Below.refl _ _) _)).mono ?_); rintro e w8 ⟨aw, bw, cw, rfl, rw8, nw8, u8⟩; obtain ⟨v15, w9, hr9, o9, g9⟩ := run_all_F w8 40 w7.heap.size _ [] (ownF_next (ownF_made w7) u8) aw bw 0 cw ls rw8 nw8 (by have := HMm.out.al; simp; omega) (by have := u8.size; simp at this; omega); rw [HF7.out.2.2.2.2.2.2.2.2.2.2.2.1] at hr9; obtain ⟨a15, b15, c15, hv15, r15, n15, _, hb15⟩ := ownF_rd' o9; rw [List.nil_append, HF7.out.2.2.2.2.2.2.2.2.2.2.2.1] at hv15; rw [hv15] at hr9; have hap9 := appR_of hr9)
              rw [List.nil_append] at o9 r15 hb15
              have u9 : Below w7.heap.size w7 w9 := (bnext (bal (Below.refl _ _) _) u8).grown g9 (by have := u8.size; simp at this; omega) (fun k hk => by cases hk; exact Nat.le_refl _)
              have HF9 : Hid (Dsk w9 p S2 D3 ∧ (∀ x, S2 x → w.heap.size ≤ x) ∧ OwnL w9 w.heap.size (.slice (some ⟨bm, 0, none⟩) lm cm) K5 ∧ RdL w9 (some ⟨bn, 0, none⟩) bn 0 K5 ∧ RdF w9 a15 b15 0 ls ∧ Below w.heap.size w w9 ∧ ls.length = ll ∧ ll ≤ 200 ∧ K5.length = lm) := by
                obtain ⟨q1, q2, q3, q4, q5, q6, q7, q8, q9, q10, q11, q12, q13⟩ := HF7.out
                exact ⟨q1.next u9, q2, ownL_next q8 u9, q9.next u9, r15, bnext q11 u9, q12, q13, HKl.out.1⟩
              obtain ⟨H2, hH2⟩ : ∃ H : Nat → Prop, (fun x => S2 x ∨ x = bn ∨ (0 < ll ∧ x = b15)) = H := ⟨_, rfl⟩
              have HH2 : Hid ((∀ x, S2 x → H2 x) ∧ H2 bn ∧ (0 < ll → H2 b15) ∧ ¬ H2 bm ∧ Hd w9 w9 H2 ∧ (0 < ll → ¬ S2 b15)) := by
                obtain ⟨q1, q2, q3, q4, q5, q6, q7, q8, q9, q10, q11, q12, q13⟩ := HF7.out
                rw [← hH2]
                refine ⟨fun x hx => .inl hx, .inr (.inl rfl), fun h0 => .inr (.inr ⟨h0, rfl⟩), fun q => ?_, Hd.refl _ _ (fun x hx => ?_), fun h0 q => ?_⟩
                · rcases q with q | q | ⟨h0, q⟩
                  · exact q3 q
                  · exact q5 q
                  · have := (hb15 (by omega)).1; omega
                · rcases hx with q | q | ⟨h0, q⟩
                  · exact (q1.next u9).lt q
                  · have := u9.size; omega
                  · rw [q]; exact r15.lt (by omega)
                · have := (hb15 (by omega)).1
                  have := q1.lt q
                  omega
              clear hH2 hv15 hr9 o9 g9 r15 n15 hb15 u9 u8 rw8 nw8 HAf HF7
              go_wp2
              try clear hap9
              go_loopg [16] lm (fun g y wx => ∃ i : Nat, i ≤ lm ∧ g = lm - i ∧ y = .int .i64 (i : Int) ∧ Hid (OwnL wx w.heap.size (.slice (some ⟨bm, 0, none⟩) lm cm) ((K5.take i).map not ++ K5.drop i) ∧ Hd w9 wx H2 ∧ Below w.heap.size w wx))
              case atStart =>
                go_light
                exact ⟨0, Nat.zero_le _, rfl, rfl, by simpa using HF9.out.2.2.1, HH2.out.2.2.2.2.1, HF9.out.2.2.2.2.2.1⟩
              case round =>
                obtain ⟨q, hq, rfl, rfl, HQ⟩ := hrel
                have hq0 : (0 : Int) ≤ (q : Int) := by omega
                by_cases hql : q < lm
                · -- PART P4
                  have hql' : (q : Int) < (lm : Int) := by omega
                  have hl9 := HF9.out.2.2.2.2.2.2.2.2
                  have hxl : ((K5.take q).map not ++ K5.drop q).length = lm := by rw [flip_len _ _ (by omega)]; exact hl9
                  obtain ⟨t0, f0⟩ := ownL_at HQ.out.1 (j := q) (by omega)
                  rw [flip_get _ _ (by omega)] at t0
                  have k0 := (HF9.out.2.2.2.1.same (fun _ => HQ.out.2.1.eq bn HH2.out.2.1)).cell q (by omega)
                  rw [Nat.zero_add] at k0
                  obtain ⟨xq, hxq⟩ : ∃ x, K5.getD q false = x := ⟨_, rfl⟩
                  rw [hxq] at t0 k0
                  have hq9 : (q : Int) ≤ 140737488355328 := by have := HKs.out.2.1; have := HKs.out.2.2.1; have := HKl.out.2; omega
                  have HJ : Hid (q < lm ∧ K5.getD q false = xq ∧ K5.length = lm) := ⟨hql, hxq, hl9⟩
                  clear hxl hxq hl9 hq hql
                  go_upto_region 31 with (fail)
                  try rw [show decide (q < lm) = true from decide_eq_true HJ.out.1]
                  try rw [show decide ((q : Int) < (lm : Int)) = true from decide_eq_true hql']
                  go_cut [159] from 145 to 167 (fun y wx => y = .bool false ∧ Hid (Below wr.heap.size wr wx))
                  case first =>
                    cases xq
                    · go_quiet (fail)
                      go_wp2
                      go_meet
                      case rel =>
                        go_light
                        exact ⟨rfl, below_drewN (Below.refl _ _) _⟩
                    · go_quiet (fail)
                      go_wp2
                      go_meet
                      case rel =>
                        go_light
                        exact ⟨rfl, below_drewN (Below.refl _ _) _⟩
                  case rest =>
                    obtain ⟨rfl, HBc⟩ := hcut
                    have o6 := ownL_next HQ.out.1 HBc.out
                    obtain ⟨t0', f0'⟩ := ownL_at o6 (j := q) (by rw [flip_len _ _ (by have := HJ.out; omega)]; have := HJ.out; omega)
                    rw [flip_get _ _ (by have := HJ.out; omega), HJ.out.2.1] at t0'
                    have HM3 : Hid (OwnL (wc.setCell ⟨bm, q, none⟩ (.bool (!xq))) w.heap.size (.slice (some ⟨bm, 0, none⟩) lm cm) ((K5.take (q + 1)).map not ++ K5.drop (q + 1)) ∧ Hd w9 (wc.setCell ⟨bm, q, none⟩ (.bool (!xq))) H2 ∧ Below w.heap.size w (wc.setCell ⟨bm, q, none⟩ (.bool (!xq)))) := by
                      have hg := (ownL_lt o6 bm rfl).1
                      refine ⟨?_, (HQ.out.2.1.next HBc.out).set HH2.out.2.2.2.1 _ _, (bnext HQ.out.2.2 HBc.out).setCell hg _⟩
                      have := ownL_set (j := q) o6 (!xq)
                      rw [← HJ.out.2.1, flip_set _ _ (by have := HJ.out; omega), HJ.out.2.1] at this
                      exact this
                    clear t0 f0 k0 o6 HQ HBc
                    go_wp2
                    go_roundg (lm - (q + 1))
                    case rel =>
                      go_light
                      exact ⟨q + 1, by have := HJ.out; omega, rfl, by go_num, HM3⟩
                    case measure => go_light; have := HJ.out; omega
                · obtain rfl : q = lm := by omega
                  have hql' : ¬ ((q : Int) < (q : Int)) := by omega
                  have hds : Dsk wr p S2 D3 := HF9.out.1.same (fun x hx => HQ.out.2.1.eq x (HH2.out.1 x hx))
                  obtain ⟨y1, y2, y3, y4, y5, y6, y7, y8, y9⟩ := HF9.out
                  have hst : RdF wr a15 b15 0 ls := y5.same (fun h0 => HQ.out.2.1.eq b15 (HH2.out.2.2.1 (by omega)))
                  have hB := HQ.out.2.2
                  obtain ⟨na, hna⟩ : ∃ n, la.length = n := ⟨_, rfl⟩
                  have hnaj : na = max j 1 := by rw [← hna]; exact HMm.out.tl
                  have hj12' := HRl.out.2.2.2
                  have HFi : Hid (∀ W, Below wr.heap.size wr W → Calls Try.prog 21 #[.pointer (some ⟨p, 0, none⟩)] W fun e w' => ∃ ao c, e = .returned (.slice ao na c) ∧ OwnF w' W.heap.size (.slice ao na c) la ∧ Below W.heap.size W w') := fun W hW => by
                    have := (hds.next hW).files
                    rw [HMm.out.ta] at this
                    refine this.mono fun e w' z => ?_
                    obtain ⟨v, e1, o1, u1⟩ := z
                    obtain ⟨ao, c, e2⟩ := own_slice o1
                    rw [hna] at e2
                    subst e2
                    exact ⟨ao, c, e1, o1, u1⟩
                  have HAf : Hid (∀ W, Below wr.heap.size wr W → Calls Try.prog 22 #[.pointer (some ⟨p, 0, none⟩), .slice ka kl kc] W fun e w' => ∃ ao c, e = .returned (.slice ao ll c) ∧ OwnF w' W.heap.size (.slice ao ll c) ls ∧ Below W.heap.size W w') := fun W hW => by
                    have := (hds.next hW).after ka kb ko kc ks (HKs.out.1.next (bnext hB hW)) (by have := HKs.out.2.1; omega)
                    rw [HMm.out.af, HKs.out.2.2.1] at this
                    refine this.mono fun e w' z => ?_
                    obtain ⟨v, e1, o1, u1⟩ := z
                    obtain ⟨ao, c, e2⟩ := own_slice o1
                    rw [y7] at e2
                    subst e2
                    exact ⟨ao, c, e1, o1, u1⟩
                  have HSm : Hid (∀ (W : World) (l : List FL) (n : Nat) (a : Option Addr) (c : Nat) (a' : Option Addr) (c' : Nat), l.length = n → n ≤ 1000 → (∃ b, RdF W a b 0 l) → (∃ b, RdF W a' b 0 l) → Calls Try.prog 20 #[.slice a n c, .slice a' n c'] W fun e w' => e = .returned (.bool true) ∧ Below W.heap.size W w') := fun W l n a c a' c' hl hn h1 h2 => by
                    obtain ⟨b1, h1⟩ := h1
                    obtain ⟨b2, h2⟩ := h2
                    rw [← hl]
                    exact same_yes W l a b1 0 c h1 a' b2 0 c' h2 (by omega)
                  have hmx : (if (j : Int) < 1 then 1 else (j : Int)) = (na : Int) := by split <;> omega
                  have hmx2 : max (j : Int) 1 = (na : Int) := by omega
                  have HK : Hid (Dsk wr p S2 D3 ∧ RdF wr a15 b15 0 ls ∧ Below w.heap.size w wr ∧ la.length = na ∧ na ≤ 12 ∧ ls.length = ll ∧ ll ≤ 200 ∧ (∀ x, S2 x → w.heap.size ≤ x) ∧ (0 < ll → ¬ S2 b15)) := ⟨hds, hst, hB, hna, by omega, y7, y8, y2, HH2.out.2.2.2.2.2⟩
                  clear hds hst hB hna hnaj hj12' y1 y2 y3 y4 y5 y6 y7 y8 y9 HF9 HH2 HQ hq hql
                  go_upto_region 37 with (first
                    | (go_at_call 21; (with_reducible refine (HFi.out _ (Below.refl _ _)).mono ?_); rintro e w10 ⟨ax1, cx1, rfl, o10, u10⟩)
                    | (go_at_call 21; (with_reducible refine (HFi.out _ u10).mono ?_); rintro e w11 ⟨ax2, cx2, rfl, o11, u11⟩; have v11 := bnext u10 u11)
                    | (go_at_call 22; (with_reducible refine (HAf.out _ v11).mono ?_); rintro e w12 ⟨ax3, cx3, rfl, o12, u12⟩; have v12 := bnext v11 u12)
                    | (go_at_call 22; (with_reducible refine (HAf.out _ v12).mono ?_); rintro e w13 ⟨ax4, cx4, rfl, o13, u13⟩; have v13 := bnext v12 u13)
                    | (go_at_call 20; (with_reducible refine (HSm.out w13 la na _ _ _ _ HK.out.2.2.2.1 (Nat.le_trans HK.out.2.2.2.2.1 (by decide)) (ownF_rdx (ownF_next o10 (bnext u11 (bnext u12 u13)))) (ownF_rdx (ownF_next o11 (bnext u12 u13)))).mono ?_); rintro e w14 ⟨rfl, u14⟩)
                    | (go_at_call 20; (with_reducible refine (HSm.out w14 ls ll _ _ _ _ HK.out.2.2.2.2.2.1 (Nat.le_trans HK.out.2.2.2.2.2.2.1 (by decide)) (ownF_rdx (ownF_next o12 (bnext u13 u14))) (ownF_rdx (ownF_next o13 u14))).mono ?_); rintro e w15 ⟨rfl, u15⟩)
                    | (go_at_call 20; (with_reducible refine (HSm.out w15 ls ll _ _ _ _ HK.out.2.2.2.2.2.1 (Nat.le_trans HK.out.2.2.2.2.2.2.1 (by decide)) (ownF_rdx (ownF_next o12 (bnext u13 (bnext u14 u15)))) ⟨b15, HK.out.2.1.next (bnext v13 (bnext u14 u15))⟩).mono ?_); rintro e w16 ⟨rfl, u16⟩))
                  obtain ⟨H, hH⟩ : ∃ H : Nat → Prop, (fun x => S2 x ∨ (0 < ll ∧ x = b15)) = H := ⟨_, rfl⟩
                  have HHx : Hid ((∀ x, S2 x → H x) ∧ (0 < ll → H b15) ∧ ∀ x, H x → x < wr.heap.size) := by
                    rw [← hH]
                    refine ⟨fun x hx => .inl hx, fun h0 => .inr ⟨h0, rfl⟩, fun x hx => ?_⟩
                    rcases hx with hx | ⟨h0, rfl⟩
                    · exact HK.out.1.lt hx
                    · exact HK.out.2.1.lt (by rw [HK.out.2.2.2.2.2.1]; exact h0)
                  have HZ : Hid (MZ w wr w16 H [.slice ax1 na cx1, .slice ax2 na cx2, .slice ax3 ll cx3, .slice ax4 ll cx4] [la, la, ls, ls]) := by
                    have B0 := HK.out.2.2.1.size
                    have f1 := fam_new (fam_nil wr w.heap.size) B0 u10 o10
                    have f2 := fam_new f1 (Nat.le_trans B0 u10.size) u11 o11
                    have f3 := fam_new f2 (Nat.le_trans B0 v11.size) u12 o12
                    have f4 := fam_new f3 (Nat.le_trans B0 v12.size) u13 o13
                    have f5 := fam_next f4 (bnext u14 (bnext u15 u16))
                    have v16 := bnext v13 (bnext u14 (bnext u15 u16))
                    refine ⟨f5, (Hd.refl wr H HHx.out.2.2).next v16, fun i hi g hg hx => ?_, bnext HK.out.2.2.1 v16⟩
                    have hlt := HHx.out.2.2 g hx
                    have s10 := u10.size
                    have s11 := v11.size
                    have s12 := v12.size
                    match i, hi with
                    | 0, _ => have := (ownF_lt o10 g hg).1; omega
                    | 1, _ => have := (ownF_lt o11 g hg).1; omega
                    | 2, _ => have := (ownF_lt o12 g hg).1; omega
                    | 3, _ => have := (ownF_lt o13 g hg).1; omega
                  obtain ⟨gA, hgA⟩ : ∃ gA, w16.heap.size = gA := ⟨_, rfl⟩
                  obtain ⟨w17, hw17⟩ : ∃ w17, w16.alloc (.cells #[.slice ax1 na cx1, .slice ax2 na cx2, .slice ax3 ll cx3, .slice ax4 ll cx4] 40) = w17 := ⟨_, rfl⟩
                  have HA0 : Hid (MA w wr w17 H [.slice ax1 na cx1, .slice ax2 na cx2, .slice ax3 ll cx3, .slice ax4 ll cx4] [la, la, ls, ls] (.slice (some ⟨gA, 0, none⟩) 4 4)) := by
                    have hsz := HZ.out.hd.sz
                    rw [← hgA, ← hw17]
                    exact ⟨HZ.out.next (bal (Below.refl _ _) _), ownV_new w16 HZ.out.below.size _ _ _ _, fun g hg hx => by cases hg; have h : w16.heap.size < wr.heap.size := HHx.out.2.2 _ hx; omega⟩
                  have HVs : Hid ([Value.slice ax1 na cx1, .slice ax2 na cx2, .slice ax3 ll cx3, .slice ax4 ll cx4].length = 4 ∧ [la, la, ls, ls].length = 4 ∧ ∀ k, ([la, la, ls, ls].getD k []).length ≤ 1000) := ⟨rfl, rfl, fun k => by
                    have h1 := HK.out.2.2.2.1
                    have h2 := HK.out.2.2.2.2.1
                    have h3 := HK.out.2.2.2.2.2.1
                    have h4 := HK.out.2.2.2.2.2.2.1
                    match k with
                    | 0 => show la.length ≤ 1000; omega
                    | 1 => show la.length ≤ 1000; omega
                    | 2 => show ls.length ≤ 1000; omega
                    | 3 => show ls.length ≤ 1000; omega
                    | k + 4 => simp⟩
                  clear HZ hH o10 o11 o12 o13 u10 u11 u12 u13 u14 u15 u16 v11 v12 v13 HFi HAf hmx hmx2
                  go_wp2
                  clear hw17 hgA
                  obtain ⟨vs, hvs⟩ : ∃ vs : List Value, [.slice ax1 na cx1, .slice ax2 na cx2, .slice ax3 ll cx3, .slice ax4 ll cx4] = vs := ⟨_, rfl⟩
                  obtain ⟨Ls, hLs⟩ : ∃ Ls : List (List FL), [la, la, ls, ls] = Ls := ⟨_, rfl⟩
                  rw [hvs, hLs] at HA0 HVs
                  have HVL := hide (And.intro hvs hLs)
                  clear hvs hLs
                  obtain ⟨W0, hW0⟩ : ∃ W0, W0 = wr := ⟨wr, rfl⟩
                  rw [← hW0] at HA0 HHx HK
                  clear hW0
                  go_loopg [22, 23] 4 (fun g y22 y23 wx => ∃ (k : Nat) (Qs : List (List FL)), k ≤ 4 ∧ g = 4 - k ∧ y22 = .int .i64 (k : Int) ∧ Hid (Mk 4 k Qs Ls ∧ MA w W0 wx H vs Qs (.slice (some ⟨gA, 0, none⟩) 4 4)))
                  case atStart =>
                    go_light
                    refine ⟨0, Ls, Nat.zero_le _, rfl, rfl, ⟨HVs.out.2.1, fun k _ => by rw [if_neg (Nat.not_lt_zero k)]⟩, ?_⟩
                    exact HA0.out
                  case round =>
                    clear HA0
                    obtain ⟨k, Qs, hkN, rfl, rfl, HQ⟩ := hrel
                    have hk0 : (0 : Int) ≤ (k : Int) := Int.natCast_nonneg _
                    have hk24 : (k : Int) ≤ 4 := by omega
                    by_cases hkl : k < 4
                    · -- PART P5
                      have hkl' : (k : Int) < 4 := by omega
                      obtain ⟨hvl, hPl, hP41⟩ := HVs.out
                      obtain ⟨hmk, hst⟩ := HQ.out
                      obtain ⟨u, hu⟩ : ∃ u, vs.getD k dv = u := ⟨_, rfl⟩
                      have ho0 := hst.z.fam.own k (by omega)
                      rw [hu] at ho0
                      have hq0 := hmk.2 k hkl
                      rw [if_neg (Nat.lt_irrefl k)] at hq0
                      obtain ⟨au, mu, du, rfl⟩ := row_slice ho0
                      obtain ⟨Rk, hRk⟩ : ∃ Rk, Ls.getD k [] = Rk := ⟨_, rfl⟩
                      rw [hq0, hRk] at ho0
                      have hmu := ownF_len ho0
                      have hR5 : Rk.length ≤ 1000 := by rw [← hRk]; exact hP41 k
                      have hmu5 : (mu : Int) ≤ 1000 := by omega
                      have HJ : Hid (Mk 4 k Qs Ls ∧ vs.getD k dv = .slice au mu du ∧ Ls.getD k [] = Rk ∧ Rk.length = mu ∧ k + 1 ≤ 4 ∧ vs.length = 4 ∧ Qs.getD k [] = Rk) := ⟨hmk, hu, hRk, hmu, hkl, hvl, by rw [hq0, hRk]⟩
                      have HS0 : Hid (MA w W0 wr H vs Qs (.slice (some ⟨gA, 0, none⟩) 4 4)) := hst
                      clear hmk hst hu ho0 hq0 hRk hmu hR5 hvl hkl hkN hPl hP41 HQ
                      go_wp2
                      go_loopg [23] mu (fun gg j0 wr => ∃ j : Nat, j ≤ mu ∧ gg = mu - j ∧ j0 = .int .i64 (j : Int) ∧ Hid (MA w W0 wr H vs (Qs.set k (List.replicate j (mkT k) ++ Rk.drop j)) (.slice (some ⟨gA, 0, none⟩) 4 4)))
                      case atStart =>
                        go_light
                        obtain ⟨z1, z2, z3, z4, z5, z6, z7⟩ := HJ.out
                        refine ⟨0, Nat.zero_le _, rfl, rfl, ?_⟩
                        have e : Qs.set k (List.replicate 0 (mkT k) ++ Rk.drop 0) = Qs := by
                          rw [← z7]; simpa using set_getD_self [] Qs k
                        rw [e]; exact HS0
                      case round =>
                        clear HS0
                        obtain ⟨j, hjm, rfl, rfl, HSt⟩ := hrel
                        have hst := HSt.out
                        obtain ⟨z1, z2, z3, z4, z5, z6, z7⟩ := HJ.out
                        have hj0 : (0 : Int) ≤ (j : Int) := Int.natCast_nonneg _
                        have hj5 : (j : Int) ≤ 1000 := by omega
                        have kA := ownV_cells hst.all k (by omega)
                        rw [z2] at kA
                        by_cases hjl : j < mu
                        · have hjl' : (j : Int) < (mu : Int) := by omega
                          have hd : Below wr.heap.size wr (wr.alloc (.cells #[.int .u8 (k : Int)] 5)) := bal (Below.refl _ _) _
                          have hst2 := hst.next hd
                          have hol := hst2.z.fam.own k (by omega)
                          rw [z2, getD_set _ _ _ _ _ (by rw [z1.1]; omega), if_pos rfl] at hol
                          obtain ⟨g, rfl⟩ := ownF_some hol (by simp; omega)
                          obtain ⟨⟨c0, c1⟩, ff⟩ := ownF_at hol (j := j) (by simp; omega)
                          have f0 := ff (j * 2)
                          have f1 := ff (j * 2 + 1)
                          have kA2 := ownV_cells hst2.all k (by omega)
                          rw [z2] at kA2
                          have hs2 := (hst2.store k (by omega) g mu du z2 j (by rw [getD_set _ _ _ _ _ (by rw [z1.1]; omega), if_pos rfl]; simp; omega) (mkB k) ⟨#[]⟩).next (Below.refl _ _).drew
                          rw [getD_set _ _ _ _ _ (by rw [z1.1]; omega), if_pos rfl, List.set_set, show ((mkB k).data.toList, (⟨#[]⟩ : ByteArray).data.toList) = mkT k from rfl, mark_set' Rk j _ (by omega)] at hs2
                          have HX : Hid (MA w W0 _ H vs (Qs.set k (List.replicate (j + 1) (mkT k) ++ Rk.drop (j + 1))) (.slice (some ⟨gA, 0, none⟩) 4 4) ∧ j + 1 ≤ mu) := ⟨hs2, hjl⟩
                          have cv := conv_drew wr k (by omega)
                          have e8 : IntKind.u8.wrap (k : Int) = (k : Int) := by simp [IntKind.wrap, IntKind.signed, IntKind.bits]; omega
                          clear hs2 hol hst hst2 hd z1 z2 z3 z4 z5 z6 z7 hjm hjl HSt ff
                          go_upto_region 44 with (fail)
                          go_region
                          go_wp2
                          go_roundg (mu - (j + 1))
                          case rel =>
                            go_light
                            exact ⟨j + 1, HX.out.2, rfl, by go_num, HX.out.1⟩
                          case measure => go_light; have := HX.out.2; omega
                        · obtain rfl : j = mu := by omega
                          have hjl' : ¬ ((j : Int) < (j : Int)) := by omega
                          have HX : Hid (Mk 4 (k + 1) (Qs.set k (List.replicate j (mkT k))) Ls ∧ MA w W0 wr H vs (Qs.set k (List.replicate j (mkT k))) (.slice (some ⟨gA, 0, none⟩) 4 4) ∧ k + 1 ≤ 4) := by
                            refine ⟨mk_next z1 z5 (by rw [z3]; exact z4), ?_, z5⟩
                            have := hst
                            rw [List.drop_of_length_le (by omega), List.append_nil] at this
                            exact this
                          clear hst z1 z2 z3 z4 z5 z6 z7 hjm hjl HSt
                          go_wp2
                          go_roundg (4 - (k + 1))
                          case rel =>
                            go_light
                            exact ⟨k + 1, _, HX.out.2.2, rfl, by go_num, HX.out.1, HX.out.2.1⟩
                          case measure => go_light; have := HX.out.2.2; omega
                    · obtain rfl : k = 4 := by omega
                      have hkl' : ¬ (((4 : Nat) : Int) < 4) := by omega
                      obtain ⟨gM, hgM⟩ : ∃ gM, wr.heap.size = gM := ⟨_, rfl⟩
                      obtain ⟨w18, hw18⟩ : ∃ w18, wr.alloc (.cells #[.slice ax1 na cx1, .slice ax2 na cx2, .slice ax3 ll cx3, .slice ax4 ll cx4] 40) = w18 := ⟨_, rfl⟩
                      have HM40 : Hid (M4 w W0 w18 H vs vs Ls (fun _ => 0) (.slice (some ⟨gA, 0, none⟩) 4 4) (.slice (some ⟨gM, 0, none⟩) 4 4)) := by
                        have b18 : Below wr.heap.size wr w18 := by rw [← hw18]; exact bal (Below.refl _ _) _
                        refine (HQ.out.2.next b18).start HQ.out.1 HVs.out.1 ?_ (.inr fun e => ?_) (fun g hg hx => ?_)
                        · rw [← hgM, ← hw18, ← HVL.out.1]; exact ownV_new wr HQ.out.2.z.below.size _ _ _ _
                        · have h1 := (World.ownsRow.lt HQ.out.2.all gA rfl).2
                          have h2 : gA = gM := Option.some.inj e
                          omega
                        · cases hg
                          have h : gM < W0.heap.size := HHx.out.2.2 _ hx
                          have := HQ.out.2.z.hd.sz
                          omega
                      clear HQ hkN hkl
                      go_wp2
                      clear hw18 hgM
                      go_loopg [25, 26] 40 (fun g y25 y26 wx => ∃ (t : Nat) (ms : List Value), t ≤ 40 ∧ g = 40 - t ∧ y25 = .int .i64 (t : Int) ∧ Hid (M4 w W0 wx H vs ms Ls (fun _ => t) (.slice (some ⟨gA, 0, none⟩) 4 4) (.slice (some ⟨gM, 0, none⟩) 4 4)))
                      case atStart =>
                        go_light
                        exact ⟨0, vs, Nat.zero_le _, rfl, rfl, HM40⟩
                      case round =>
                        clear HM40
                        obtain ⟨t, ms, ht6, rfl, rfl, H4⟩ := hrel
                        by_cases htl : t < 40
                        · -- PART P6
                          have htl' : (t : Int) < 40 := by omega
                          have HT6 := hide htl
                          clear htl ht6
                          go_wp2
                          go_loopg [26] 4 (fun g y26 wx => ∃ (i : Nat) (ms : List Value), i ≤ 4 ∧ g = 4 - i ∧ y26 = .int .i64 (i : Int) ∧ Hid (M4 w W0 wx H vs ms Ls (fun k => if k < i then t + 1 else t) (.slice (some ⟨gA, 0, none⟩) 4 4) (.slice (some ⟨gM, 0, none⟩) 4 4)))
                          case atStart =>
                            go_light
                            refine ⟨0, ms, Nat.zero_le _, rfl, rfl, ?_⟩
                            have e : (fun k : Nat => if k < 0 then t + 1 else t) = fun _ => t := by funext k; rw [if_neg (Nat.not_lt_zero k)]
                            rw [e]; exact H4
                          case round =>
                            clear H4
                            obtain ⟨i, mi, hi4, rfl, rfl, H5⟩ := hrel
                            by_cases hil : i < 4
                            · have hil' : (i : Int) < 4 := by omega
                              have hz4 : (0 : Int) ≤ (i : Int) := Int.natCast_nonneg _
                              obtain ⟨ax, mx, dx7, hx7⟩ := row_slice (H5.out.Mm i hil)
                              have ho := H5.out.Mm i hil
                              rw [hx7] at ho
                              simp only [Nat.lt_irrefl, if_false] at ho
                              have HX5 : Hid (mi.getD i dv = .slice ax mx dx7 ∧ OwnF wr w.heap.size (.slice ax mx dx7) (mkE Ls i t) ∧ i < 4) := ⟨hx7, ho, hil⟩
                              have HLe : Hid ((mkE Ls i t).length + 1 ≤ 1048576) := by rw [mkE_len]; have := HVs.out.2.2 i; have := HT6.out; exact hide (by omega)
                              have HCl : Hid (∀ W, Below wr.heap.size wr W → W.cell? ⟨gM, i, none⟩ = some (.slice ax mx dx7)) := fun W hb => ((H5.out.next hb).fits hil hx7).1
                              have kM := HCl.out wr (Below.refl _ _)
                              have e8 : IntKind.u8.wrap (i : Int) = (i : Int) := by simp [IntKind.wrap, IntKind.signed, IntKind.bits]; omega
                              have cv := conv_drew wr i (by omega)
                              clear hx7 ho hil hi4
                              go_upto_region 52 with (fail)
                              have hd1 := bal (Below.refl wr.heap.size wr) (.cells #[.int .u8 (i : Int)] 5)
                              have hd2 := (bal hd1 (.cells #[.string (mkB i), .string ⟨#[]⟩] 42)).drew
                              have HM4 := hide (H5.out.next hd2)
                              have HO4 := hide (ownF_next HX5.out.2.1 hd2)
                              have HB4 : Hid (w.heap.size ≤ ((wr.alloc (.cells #[.int .u8 (i : Int)] 5)).alloc (.cells #[.string (mkB i), .string ⟨#[]⟩] 42)).drew.heap.size) := HM4.out.below.size
                              have kM1 := HCl.out _ hd1
                              have kM2 := HCl.out _ (bal hd1 (.cells #[.string (mkB i), .string ⟨#[]⟩] 42))
                              obtain ⟨v6, w6, hrn, h6, r6⟩ := run_app_F _ 40 w.heap.size _ (mkE Ls i t) HO4.out ⟨wr.heap.size + 1, 0, none⟩ 1 (mkB i) ⟨#[]⟩ (by have := two_new (wr.alloc (.cells #[.int .u8 (i : Int)] 5)) (.string (mkB i)) (.string ⟨#[]⟩) 42; rw [World.size_alloc] at this; exact this) HLe.out HB4.out
                              obtain ⟨c6, f6⟩ := HM4.out.at1 HX5.out.2.2 HX5.out.1 r6
                              obtain ⟨a6, m6, d6, rfl⟩ := row_slice h6
                              have HX6 := hide (HM4.out.rnd HX5.out.2.2 HX5.out.1 h6 r6)
                              clear h6 r6 hd1 hd2
                              go_region_law (refine step_app (by rfl) _ _ _ _ (by rfl) (by rfl) (by rfl) hrn ?_)
                              all_goals
                                clear hrn c6 f6 kM kM1 kM2 cv HM4 HO4 HB4 HCl HLe H5
                                go_wp2
                                go_roundg (4 - (i + 1))
                                case rel =>
                                  go_light
                                  exact ⟨i + 1, _, by have := HX5.out.2.2; omega, rfl, by go_num, HX6⟩
                                case measure => go_light; have := HX5.out.2.2; omega
                            · obtain rfl : i = 4 := by omega
                              have hil' : ¬ (((4 : Nat) : Int) < 4) := by omega
                              have HX : Hid (M4 w W0 wr H vs mi Ls (fun _ => t + 1) (.slice (some ⟨gA, 0, none⟩) 4 4) (.slice (some ⟨gM, 0, none⟩) 4 4)) := by
                                have h := H5.out
                                exact ⟨h.A, fun k hk => by have := h.Mm k hk; rw [if_pos hk] at this; exact this, h.dMM, h.dMV, h.all, h.more, h.nA, h.hd, h.off, h.mH, h.below, h.vl, h.ml⟩
                              clear H5 hil hi4
                              go_wp2
                              go_roundg (40 - (t + 1))
                              case rel =>
                                go_light
                                exact ⟨t + 1, mi, by have := HT6.out; omega, rfl, by have := HT6.out; go_num, HX⟩
                              case measure => go_light; have := HT6.out; omega
                        · -- PART P7
                          obtain rfl : t = 40 := by omega
                          have htl' : ¬ (((40 : Nat) : Int) < 40) := by omega
                          obtain ⟨W1, hW1⟩ : ∃ W1, W1 = wr := ⟨wr, rfl⟩
                          subst hW1
                          clear htl ht6
                          go_wp2
                          go_loopg [27, 28] 4 (fun g y27 y28 wx => ∃ q : Nat, q ≤ 4 ∧ g = 4 - q ∧ y27 = .int .i64 (q : Int) ∧ Hid (Below W1.heap.size W1 wx))
                          case atStart =>
                            go_light
                            exact ⟨0, Nat.zero_le _, rfl, rfl, Below.refl _ _⟩
                          case round =>
                            obtain ⟨q, hqN, rfl, rfl, HBx⟩ := hrel
                            have hq0 : (0 : Int) ≤ (q : Int) := Int.natCast_nonneg _
                            by_cases hql : q < 4
                            · have hq4 : (q : Int) < 4 := by omega
                              have p4 := H4.out
                              have oM := p4.Mm q hql
                              have oA := p4.A q hql
                              obtain ⟨aM, mm, dm, eM⟩ := row_slice oM
                              obtain ⟨aV, mv, dw, eV⟩ := row_slice oA
                              rw [eM] at oM
                              rw [eV] at oA
                              have lM := ownF_len oM
                              have lV := ownF_len oA
                              rw [mkE_len] at lM lV
                              have hL1 := HVs.out.2.2 q
                              have hmm : (mm : Int) ≤ 1060 := by omega
                              have HKc : Hid (∀ W, Below W1.heap.size W1 W → W.cell? ⟨gM, q, none⟩ = some (.slice aM mm dm) ∧ W.cell? ⟨gA, q, none⟩ = some (.slice aV mv dw)) := fun W h => by
                                have h1 := ownV_cells (ownB_next p4.more h) q (by rw [p4.ml]; exact hql)
                                have h2 := ownV_cells (ownB_next p4.all h) q (by rw [p4.vl]; exact hql)
                                rw [eM] at h1
                                rw [eV] at h2
                                exact ⟨h1, h2⟩
                              have HR : Hid (OwnF W1 w.heap.size (.slice aM mm dm) (mkE Ls q 40) ∧ OwnF W1 w.heap.size (.slice aV mv dw) (mkE Ls q 0) ∧ (Ls.getD q []).length + 40 = mm ∧ (Ls.getD q []).length + 0 = mv ∧ q + 1 ≤ 4) := ⟨oM, oA, lM, lV, hql⟩
                              clear p4 oM oA eM eV lM lV hL1 hqN hql
                              go_wp2
                              go_loopg [28] mm (fun g y28 wx => ∃ z : Nat, z ≤ mm ∧ g = mm - z ∧ y28 = .int .i64 (z : Int) ∧ Hid (Below W1.heap.size W1 wx))
                              case atStart =>
                                go_light
                                exact ⟨0, Nat.zero_le _, rfl, rfl, HBx⟩
                              case round =>
                                clear HBx
                                obtain ⟨z, hzm, rfl, rfl, HBx⟩ := hrel
                                have hz0 : (0 : Int) ≤ (z : Int) := Int.natCast_nonneg _
                                have hz6 : (z : Int) ≤ 1060 := by omega
                                obtain ⟨oM, oV, lM, lV, hi1⟩ := HR.out
                                have kM := (HKc.out wr HBx.out).1
                                by_cases hzl : z < mm
                                · have hzl' : (z : Int) < (mm : Int) := by omega
                                  have hd1 := bal (Below.refl wr.heap.size wr) (.cells #[.int .u8 (q : Int)] 5)
                                  have hd2 := bal hd1 (.cells #[.int .u8 (q : Int)] 5)
                                  obtain ⟨g5, rfl⟩ := ownF_some oM (by rw [mkE_len]; omega)
                                  have t1 := (ownF_at (ownF_next oM HBx.out) (j := z) (by rw [mkE_len]; omega)).1.1
                                  have t1' := (ownF_at (ownF_next oM (bnext HBx.out hd1)) (j := z) (by rw [mkE_len]; omega)).1.1
                                  rw [mkE_get _ _ _ _ (by omega), show (⟨(mkT q).1.toArray⟩ : ByteArray) = mkB q from rfl] at t1 t1'
                                  obtain ⟨kM1, kA1⟩ := HKc.out _ (bnext HBx.out hd1)
                                  have e8 : IntKind.u8.wrap (q : Int) = (q : Int) := by simp [IntKind.wrap, IntKind.signed, IntKind.bits]; omega
                                  have cv := conv_drew wr q (by omega)
                                  by_cases hzv : z < mv
                                  · have hzv' : (z : Int) < (mv : Int) := by omega
                                    obtain ⟨g6, rfl⟩ := ownF_some oV (by rw [mkE_len]; omega)
                                    have t2 := (ownF_at (ownF_next oV (bnext HBx.out hd1)) (j := z) (by rw [mkE_len]; omega)).1.1
                                    have t2' := (ownF_at (ownF_next oV (bnext HBx.out hd2)) (j := z) (by rw [mkE_len]; omega)).1.1
                                    rw [mkE_get _ _ _ _ (by omega), show (⟨(mkT q).1.toArray⟩ : ByteArray) = mkB q from rfl] at t2 t2'
                                    have kA2 := (HKc.out _ (bnext HBx.out hd2)).2
                                    have cv2 := conv_drew (wr.alloc (.cells #[.int .u8 (q : Int)] 5)) q (by omega)
                                    rw [World.size_alloc] at cv2
                                    have HX : Hid (Below W1.heap.size W1 ((wr.alloc (.cells #[.int .u8 (q : Int)] 5)).alloc (.cells #[.int .u8 (q : Int)] 5)).drew ∧ z + 1 ≤ mm) := ⟨(bnext HBx.out hd2).drew, hzl⟩
                                    clear oM oV lM lV hzm hzl hi1 hd1 hd2 hzv HBx
                                    go_upto_region 59 with (fail)
                                    generalize mkB q = tx at *
                                    go_region
                                    go_wp2
                                    go_roundg (mm - (z + 1))
                                    case rel =>
                                      go_light
                                      exact ⟨z + 1, HX.out.2, rfl, by go_num, HX.out.1⟩
                                    case measure => go_light; have := HX.out.2; omega
                                  · have hzv' : ¬ ((z : Int) < (mv : Int)) := by omega
                                    have HX : Hid (Below W1.heap.size W1 (wr.alloc (.cells #[.int .u8 (q : Int)] 5)).drew ∧ z + 1 ≤ mm) := ⟨(bnext HBx.out hd1).drew, hzl⟩
                                    clear oM oV lM lV hzm hzl hi1 hd1 hd2 hzv HBx
                                    go_upto_region 59 with (fail)
                                    generalize mkB q = tx at *
                                    go_region
                                    go_wp2
                                    go_roundg (mm - (z + 1))
                                    case rel =>
                                      go_light
                                      exact ⟨z + 1, HX.out.2, rfl, by go_num, HX.out.1⟩
                                    case measure => go_light; have := HX.out.2; omega
                                · obtain rfl : z = mm := by omega
                                  have hzl' : ¬ (z : Int) < (z : Int) := by omega
                                  have HX : Hid (Below W1.heap.size W1 wr ∧ q + 1 ≤ 4) := ⟨HBx.out, hi1⟩
                                  clear oM oV lM lV hzm hzl hi1 HBx
                                  go_wp2
                                  go_roundg (4 - (q + 1))
                                  case rel =>
                                    go_light
                                    exact ⟨q + 1, HX.out.2, rfl, by go_num, HX.out.1⟩
                                  case measure => go_light; have := HX.out.2; omega
                            · obtain rfl : q = 4 := by omega
                              have hq4 : ¬ (((4 : Nat) : Int) < 4) := by omega
                              have hM4 := H4.out.next HBx.out
                              have hds : Dsk wr p S2 D3 := HK.out.1.same (fun x hx => hM4.hd.eq x (HHx.out.1 x hx))
                              have hst : RdF wr a15 b15 0 ls := HK.out.2.1.same (fun h0 => hM4.hd.eq b15 (HHx.out.2.1 (by rw [← HK.out.2.2.2.2.2.1]; exact h0)))
                              have HSy : Hid (Calls Try.prog 15 #[.pointer (some ⟨p, 0, none⟩), .string ⟨#[97]⟩] wr fun e w' => e = .returned (.int .i64 170) ∧ Mvd wr w' p S2 D4) := by
                                have := hds.sync ⟨#[97]⟩ (by decide) HMm.out.r3.1 HMm.out.r3.2.1 (hds.small HMm.out.r3 _)
                                rw [show synD D3 (⟨#[97]⟩ : ByteArray).data.toList = (D4, 170) from HMm.out.sy] at this
                                exact this
                              have HFi : Hid (∀ W S, Dsk W p S D4 → Calls Try.prog 21 #[.pointer (some ⟨p, 0, none⟩)] W fun e w' => ∃ ao c, e = .returned (.slice ao ll c) ∧ (∃ b, RdF w' ao b 0 ls) ∧ Below W.heap.size W w') := fun W S h => by
                                have := h.files
                                rw [HMm.out.g] at this
                                refine this.mono fun e w' z => ?_
                                obtain ⟨v, e1, o1, u1⟩ := z
                                obtain ⟨ao, b, c, e2, r1, _⟩ := ownF_rd' o1
                                rw [HK.out.2.2.2.2.2.1] at e2
                                exact ⟨ao, c, by rw [e1, e2], ⟨b, r1⟩, u1⟩
                              have HE : Hid (RdF wr a15 b15 0 ls ∧ Below w.heap.size w wr) := ⟨hst, hM4.below⟩
                              clear hM4 hds hst H4 HBx hqN hql
                              go_wp2_with (first
                                | (go_at_call 15; (with_reducible refine HSy.out.mono ?_); rintro e w2 ⟨rfl, S5, ds2, hs2, up2⟩; have HD2 := hide ds2; have HB2 : Hid (Below w.heap.size w w2 ∧ RdF w2 a15 b15 0 ls) := ⟨upo_below HE.out.2 HK.out.2.2.2.2.2.2.2.1 up2, HE.out.1.same (fun h0 => up2.block b15 (HE.out.1.lt h0) (HK.out.2.2.2.2.2.2.2.2 (by rw [← HK.out.2.2.2.2.2.1]; exact h0)))⟩; clear ds2 hs2 up2)
                                | (go_at_call 21; (with_reducible refine (HFi.out _ _ HD2.out).mono ?_); rintro e w3 ⟨ax, cx, rfl, rx, u3⟩; have HB3 : Hid (Below w.heap.size w w3 ∧ RdF w3 a15 b15 0 ls ∧ ∃ b, RdF w3 ax b 0 ls) := ⟨bnext HB2.out.1 u3, HB2.out.2.next u3, rx⟩; clear rx u3)
                                | (go_at_call 20; (with_reducible refine (HSm.out _ ls ll _ _ _ _ HK.out.2.2.2.2.2.1 (Nat.le_trans HK.out.2.2.2.2.2.2.1 (by decide)) HB3.out.2.2 ⟨b15, HB3.out.2.1⟩).mono ?_); rintro e w5 ⟨rfl, u5⟩; have HB5 := hide (bnext HB3.out.1 u5); clear u5))
                              go_ret
                              first | exact ⟨rfl, HB5.out⟩ | exact HB5.out
end Go.Proofs.Ytmhedhhbdpdafaa
