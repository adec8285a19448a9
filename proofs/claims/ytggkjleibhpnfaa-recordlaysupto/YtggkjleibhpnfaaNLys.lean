/-
  The walk of RecordLays. Own work.
-/
import Derived.Test.YtggkjleibhpnfaaNFix
import Derived.Test.YtggkjleibhpnfaaNRefC
import Derived.Test.YtggkjleibhpnfaaNList
import Derived.Deep.LoopGhost
namespace Go.Proofs.Ytggkjleibhpnfaa
open Go.RowKit
attribute [local go_sem ↓] Go.wp_at_zero Go.wp_at_succ
/-- The list as it is turned round, with the marks behind. -/
def rvL (ss : List ByteArray) (i : Nat) (m : List ByteArray) : List ByteArray := ss.reverse.take i ++ ss.drop i ++ m
theorem rvL_zero (ss m : List ByteArray) : rvL ss 0 m = ss ++ m := by simp [rvL]
theorem rvL_len (ss m : List ByteArray) (i : Nat) (hi : i ≤ ss.length) : (rvL ss i m).length = ss.length + m.length := by
  simp only [rvL, List.length_append, List.length_take, List.length_drop, List.length_reverse]
  omega
theorem rvL_set (ss m : List ByteArray) (i : Nat) (hi : i < ss.length) : (rvL ss i m).set i (ss.getD (ss.length - 1 - i) ByteArray.empty) = rvL ss (i + 1) m := by
  have hr : i < ss.reverse.length := by rw [List.length_reverse]; exact hi
  have e : ss.getD (ss.length - 1 - i) ByteArray.empty = ss.reverse[i] := by
    rw [List.getElem_reverse, List.getD_eq_getElem?_getD, List.getElem?_eq_getElem (show ss.length - 1 - i < ss.length by omega)]
    rfl
  have hl : (ss.reverse.take i).length = i := by rw [List.length_take]; omega
  rw [rvL, rvL, List.append_assoc, List.set_append_right _ _ (by omega), hl, Nat.sub_self, List.drop_eq_getElem_cons hi, List.cons_append, List.set_cons_zero, e, List.take_succ_eq_append_getElem hr, List.append_assoc, List.append_assoc]
  rfl
theorem rvL_at (ss m : List ByteArray) (i : Nat) (hi : i < ss.length) : (rvL ss (i + 1) m).getD i ByteArray.empty = ss.getD (ss.length - 1 - i) ByteArray.empty := by
  rw [← rvL_set ss m i hi, List.getD_eq_getElem?_getD, List.getElem?_set_self (by rw [rvL_len _ _ _ (by omega)]; omega)]
  rfl
theorem rvL_all (ss m : List ByteArray) : (rvL ss ss.length m).take ss.length = ss.reverse := by
  rw [rvL, List.drop_length, List.append_nil, List.take_append_of_le_length (by simp), List.take_take, Nat.min_self, List.take_of_length_le (by simp)]
theorem rvL_sz (ss m : List ByteArray) (i : Nat) (h1 : ∀ s ∈ ss, s.size ≤ 9223372036854775807) (h2 : ∀ s ∈ m, s.size ≤ 9223372036854775807) : ∀ s ∈ rvL ss i m, s.size ≤ 9223372036854775807 := fun s hs => by
  simp only [rvL, List.mem_append] at hs
  rcases hs with (hs | hs) | hs
  · exact h1 s (List.mem_reverse.1 (List.mem_of_mem_take hs))
  · exact h1 s (List.mem_of_mem_drop hs)
  · exact h2 s hs
theorem flat_rev (ss : List ByteArray) : (flat ss.reverse).length = (flat ss).length := by
  induction ss with
  | nil => rfl
  | cons x r ih =>
    have e1 : flat (x :: r) = x.data.toList ++ flat r := by simp [flat]
    have e2 : flat (x :: r).reverse = flat r.reverse ++ x.data.toList := by simp [flat]
    rw [e1, e2, List.length_append, List.length_append, ih]
    omega
theorem rev_step (ss : List ByteArray) (i : Nat) (hi : i < ss.length) : ss.reverse.take i ++ [ss.getD (ss.length - 1 - i) ByteArray.empty] = ss.reverse.take (i + 1) := by
  have hr : i < ss.reverse.length := by rw [List.length_reverse]; exact hi
  have e : ss.getD (ss.length - 1 - i) ByteArray.empty = ss.reverse[i] := by
    rw [List.getElem_reverse, List.getD_eq_getElem?_getD, List.getElem?_eq_getElem (show ss.length - 1 - i < ss.length by omega)]
    rfl
  rw [List.take_succ_eq_append_getElem hr, e]
theorem own_off {w : World} {B : Nat} {v : Value} {l : List ByteArray} (h : OwnS w B v l) (g i : Nat) (x : Value) (hg : g < B) : OwnS (w.setCell ⟨g, i, none⟩ x) B v l := by
  obtain ⟨h1, h2⟩ := h
  refine ⟨h1, ?_⟩
  rcases h2 with h2 | ⟨g', cap, cur, rfl, hg', hh, r⟩
  · exact .inl h2
  · exact .inr ⟨g', cap, cur, rfl, hg', by rw [Below.heap_setCell _ _ _ _ (by show g' ≠ g; omega)]; exact hh, r⟩
theorem own_low {w W : World} {B B2 g n cap : Nat} {l : List ByteArray} (h : OwnS w B (.slice (some ⟨g, 0, none⟩) n cap) l) (hb : Below B2 w W) (hg : g < B2) : OwnS W B (.slice (some ⟨g, 0, none⟩) n cap) l := by
  obtain ⟨h1, h2⟩ := h
  refine ⟨h1, ?_⟩
  rcases h2 with ⟨h2, _⟩ | ⟨g', cap', cur, hv, hg', hh, r⟩
  · cases h2
  · obtain ⟨e1, e2, e3⟩ := Value.slice.inj hv
    cases e1
    exact .inr ⟨g, cap', cur, hv, hg', by rw [hb.block g hg]; exact hh, r⟩
set_option maxRecDepth 100000 in
set_option maxHeartbeats 4000000 in
theorem lays_walk (w : World) (item : ByteArray) (hi : item.size ≤ 1048576) (p : Nat) (hp : p < 18446744073709551616) (dg : ByteArray) (hdg : dg.size ≤ 1048576) (k : Int) (ma mb mc : Nat) (ha : ma < 18446744073709551616) (hb : mb < 18446744073709551616) (hc : mc < 18446744073709551616) (md : BitVec 32) (ao : Option Addr) (b off cap : Nat) (ss : List ByteArray) (hr : RdS w ao b off ss.length ss) (hm : ss.length ≤ 1048576) (hn : ao = none → cap = 0) (hf : (flat ss).length ≤ 1048576) :
    Calls Try.prog 5 #[.string item, .int .u64 (p : Int), .string dg, .agg #[.int .i64 k, .int .u64 (ma : Int), .int .u64 (mb : Int), .int .u64 (mc : Int), .int .u32 (md.toNat : Int)], .slice ao ss.length cap] w fun e w' => e = .returned (.bool true) ∧ Below w.heap.size w w' := by
  obtain ⟨d, hd⟩ : ∃ d, md.toNat = d := ⟨_, rfl⟩
  rw [hd]
  obtain ⟨P, hP⟩ : ∃ t : ByteArray, (⟨(payS item.data.toList).toArray⟩ : ByteArray) = t := ⟨_, rfl⟩
  obtain ⟨N, hN⟩ : ∃ t : ByteArray, (⟨(nodS p dg.data.toList).toArray⟩ : ByteArray) = t := ⟨_, rfl⟩
  obtain ⟨M, hM⟩ : ∃ t : ByteArray, (⟨(mrk ⟨k, ma, mb, mc, md⟩).toArray⟩ : ByteArray) = t := ⟨_, rfl⟩
  have H0 : Hid (∀ W, Calls Try.prog 7 #[] W fun e w' => e = .returned (.bool true) ∧ Below W.heap.size W w') := fun W => fixed_any W
  have H1 : Hid (∀ W, Calls Try.prog 8 #[.string item] W fun e w' => e = .returned (.string P) ∧ Below W.heap.size W w') := fun W => payload_any W item (by omega) P hP
  have H2 : Hid (∀ W, Calls Try.prog 15 #[.string item] W fun e w' => e = .returned (.string P) ∧ Below W.heap.size W w') := fun W => refpayload_any W item (by omega) P hP
  have H3 : Hid (∀ W, Calls Try.prog 11 #[.int .u64 (p : Int), .string dg] W fun e w' => e = .returned (.string N) ∧ Below W.heap.size W w') := fun W => node_any W p hp dg (by omega) N hN
  have H4 : Hid (∀ W, Calls Try.prog 16 #[.int .u64 (p : Int), .string dg] W fun e w' => e = .returned (.string N) ∧ Below W.heap.size W w') := fun W => refnode_any W p hp dg (by omega) N hN
  have H5 : Hid (∀ W, Calls Try.prog 14 #[.agg #[.int .i64 k, .int .u64 (ma : Int), .int .u64 (mb : Int), .int .u64 (mc : Int), .int .u32 (d : Int)]] W fun e w' => e = .returned (.agg #[.int .i64 k, .int .u64 (ma : Int), .int .u64 (mb : Int), .int .u64 (mc : Int), .int .u32 (d : Int)]) ∧ Below W.heap.size W w') := fun W => mine_any W _ _ _ _ _
  have H6 : Hid (∀ W, Calls Try.prog 13 #[.agg #[.int .i64 k, .int .u64 (ma : Int), .int .u64 (mb : Int), .int .u64 (mc : Int), .int .u32 (d : Int)]] W fun e w' => e = .returned (.string M) ∧ Below W.heap.size W w') := fun W => by
    have := mark_any W ⟨k, ma, mb, mc, md⟩ ha hb hc M hM
    unfold mC at this
    simp only [hd] at this
    exact this
  have H7 : Hid (∀ W, Calls Try.prog 17 #[.agg #[.int .i64 k, .int .u64 (ma : Int), .int .u64 (mb : Int), .int .u64 (mc : Int), .int .u32 (d : Int)]] W fun e w' => e = .returned (.string M) ∧ Below W.heap.size W w') := fun W => by
    have := refmark_any W ⟨k, ma, mb, mc, md⟩ ha hb hc M hM
    unfold mC at this
    simp only [hd] at this
    exact this
  obtain ⟨wa, hwa⟩ : ∃ wa, w.alloc (.cells #[.int .i64 k, .int .u64 (ma : Int), .int .u64 (mb : Int), .int .u64 (mc : Int), .int .u32 (d : Int)] 25) = wa := ⟨_, rfl⟩
  have HC : Hid (∀ W, Below wa.heap.size wa W → W.cell? ⟨w.heap.size, 0, none⟩ = some (.int .i64 k) ∧ W.cell? ⟨w.heap.size, 1, none⟩ = some (.int .u64 (ma : Int)) ∧ W.cell? ⟨w.heap.size, 2, none⟩ = some (.int .u64 (mb : Int)) ∧ W.cell? ⟨w.heap.size, 3, none⟩ = some (.int .u64 (mc : Int)) ∧ W.cell? ⟨w.heap.size, 4, none⟩ = some (.int .u32 (d : Int))) := fun W hb => by
    have hh : W.heap[w.heap.size]? = some (.cells #[.int .i64 k, .int .u64 (ma : Int), .int .u64 (mb : Int), .int .u64 (mc : Int), .int .u32 (d : Int)] 25 (0, 0)) := by
      rw [hb.block _ (by rw [← hwa]; simp), ← hwa]; exact new1 _ _
    refine ⟨?_, ?_, ?_, ?_, ?_⟩
    iterate 5 (rw [cell_of_row W _ _ _ _ (0, 0) hh]; rfl)
  have HA : Hid (Below w.heap.size w wa ∧ w.heap.size < wa.heap.size) := by rw [← hwa]; exact ⟨bal (Below.refl _ _) _, by simp⟩
  have HSZ : Hid (RdS w ao b off ss.length ss ∧ ss.length ≤ 1048576 ∧ (ao = none → cap = 0) ∧ (flat ss).length ≤ 1048576 ∧ item.size ≤ 1048576 ∧ md.toNat = d) := ⟨hr, hm, hn, hf, hi, hd⟩
  clear hP hN hM hr hf hi hp hdg ha hb hc hd
  go_enter Try.func5, Try.ntmps5
  go_upto_region 1 with fail
  clear hwa
  have tw := bdrew (Below.refl wa.heap.size wa)
  go_cut [41] from 16 to 40 (fun x wx => x = .bool false ∧ Hid (Below wa.heap.size wa wx))
  case first =>
    go_region_held3 (fun Z => Z.cell? ⟨w.heap.size, 0, none⟩ = some (.int .i64 k) ∧ Z.cell? ⟨w.heap.size, 1, none⟩ = some (.int .u64 (ma : Int)) ∧ Z.cell? ⟨w.heap.size, 2, none⟩ = some (.int .u64 (mb : Int)) ∧ Z.cell? ⟨w.heap.size, 3, none⟩ = some (.int .u64 (mc : Int)) ∧ Z.cell? ⟨w.heap.size, 4, none⟩ = some (.int .u32 (d : Int))) (first | assumption | (exact HC.out _ tw)) (first
      | (go_at_call 7; with_reducible refine (H0.out _).mono ?_; rintro e w4 ⟨rfl, hb4⟩; replace tw := bnext tw hb4; clear hb4)
      | (go_at_call 8; with_reducible refine (H1.out _).mono ?_; rintro e w4 ⟨rfl, hb4⟩; replace tw := bnext tw hb4; clear hb4)
      | (go_at_call 15; with_reducible refine (H2.out _).mono ?_; rintro e w4 ⟨rfl, hb4⟩; replace tw := bnext tw hb4; clear hb4)
      | (go_at_call 11; with_reducible refine (H3.out _).mono ?_; rintro e w4 ⟨rfl, hb4⟩; replace tw := bnext tw hb4; clear hb4)
      | (go_at_call 16; with_reducible refine (H4.out _).mono ?_; rintro e w4 ⟨rfl, hb4⟩; replace tw := bnext tw hb4; clear hb4)
      | (go_at_call 14; with_reducible refine (H5.out _).mono ?_; rintro e w4 ⟨rfl, hb4⟩; replace tw := bnext tw hb4; clear hb4)
      | (go_at_call 13; with_reducible refine (H6.out _).mono ?_; rintro e w4 ⟨rfl, hb4⟩; replace tw := bnext tw hb4; clear hb4)
      | (go_at_call 17; with_reducible refine (H7.out _).mono ?_; rintro e w4 ⟨rfl, hb4⟩; replace tw := bnext tw hb4; clear hb4))
    all_goals
      go_wp2_with fail
      go_meet
      case rel => exact ⟨rfl, tw⟩
  clear H0 H1 H2 H3 H4 H5 H6 H7 tw
  obtain ⟨rfl, HW⟩ := hcut
  have hRn := (HSZ.out.1.next HA.out.1 (Nat.le_refl _)).next HW.out (Nat.le_refl _)
  have hsz1 : ∀ s ∈ ss, s.size ≤ 9223372036854775807 := hRn.sz
  have HBC : Hid (Below w.heap.size w wc) := bnext HA.out.1 HW.out
  obtain ⟨B0, hB0⟩ : ∃ B0, wc.heap.size = B0 := ⟨_, rfl⟩
  have HB0 : Hid (wc.heap.size = B0 ∧ wa.heap.size ≤ B0) := ⟨hB0, by rw [← hB0]; exact HW.out.size⟩
  clear hB0
  go_wp2_with (at_builtin; refine wpList_append_S _ rfl _ _ rfl wc.heap.size _ [] rfl (owns_nil wc _) ao b off cap ss rfl hRn hn ?_ (Nat.le_refl _) ?_)
  · simp; omega
  intro v1 w1 h1 hb1
  go_wp2_with (at_builtin; refine wpList_append_S _ rfl _ _ rfl wc.heap.size _ ss rfl (own_al h1 _) (some ⟨w1.heap.size, 0, none⟩) w1.heap.size 0 2 [⟨#[109, 97, 114, 107, 32, 111, 110, 101]⟩, ⟨#[109, 97, 114, 107, 32, 116, 119, 111]⟩] rfl (rds_two w1 ⟨#[109, 97, 114, 107, 32, 111, 110, 101]⟩ ⟨#[109, 97, 114, 107, 32, 116, 119, 111]⟩ (by decide) (by decide)) (fun h => by cases h) ?_ ?_ ?_)
  · simp; omega
  · have := hb1.size; simp; omega
  intro v2 w2 h2 hb2
  have HB2 : Hid (Below w.heap.size w w2 ∧ Below wc.heap.size wc w2) := by
    have q : Below wc.heap.size wc w2 := hb1.trans (((Below.refl _ _).alloc hb1.size _).trans hb2)
    exact ⟨bnext HBC.out q, q⟩
  obtain ⟨g, cap', rfl, hg, hc, hmx⟩ := own_form h2 (by simp)
  rw [List.length_append, show ([⟨#[109, 97, 114, 107, 32, 111, 110, 101]⟩, ⟨#[109, 97, 114, 107, 32, 116, 119, 111]⟩] : List ByteArray).length = 2 from rfl] at hc
  have hln : (ss ++ [⟨#[109, 97, 114, 107, 32, 111, 110, 101]⟩, ⟨#[109, 97, 114, 107, 32, 116, 119, 111]⟩] : List ByteArray).length = ss.length + 2 := by simp
  rw [hln] at h2 ⊢
  have HO : Hid (OwnS w2 B0 (.slice (some ⟨g, 0, none⟩) (ss.length + 2) cap') (rvL ss 0 [⟨#[109, 97, 114, 107, 32, 111, 110, 101]⟩, ⟨#[109, 97, 114, 107, 32, 116, 119, 111]⟩]) ∧ B0 ≤ g ∧ g < w2.heap.size ∧ (∀ s ∈ ss, s.size ≤ 9223372036854775807)) := by
    refine ⟨by rw [rvL_zero, ← HB0.out.1]; exact h2, by rw [← HB0.out.1]; exact hg, ?_, hsz1⟩
    have := (own_cell h2 (j := 0) (by simp)).1
    exact World.block_lt_of_cell? _ _ this
  clear h1 h2 hb1 hb2 hRn hsz1
  obtain ⟨n, hln2⟩ : ∃ n, ss.length = n := ⟨_, rfl⟩
  obtain ⟨r, hR⟩ : ∃ r, chn md item.data.toList ss = r := ⟨_, rfl⟩
  have HN : Hid (ss.length = n) := hln2
  rw [hln2] at HO HSZ hc hm ⊢
  have HRD : Hid (∀ Z, Below w.heap.size w Z → RdS Z ao b off n ss) := fun Z hz => HSZ.out.1.next hz (Nat.le_refl _)
  have HMK : Hid (∀ Z B i, OwnS Z B (.slice (some ⟨g, 0, none⟩) (n + 2) cap') (rvL ss i [⟨#[109, 97, 114, 107, 32, 111, 110, 101]⟩, ⟨#[109, 97, 114, 107, 32, 116, 119, 111]⟩]) → i ≤ n → Z.cell? ⟨g, n, none⟩ = some (.string ⟨#[109, 97, 114, 107, 32, 111, 110, 101]⟩) ∧ Z.cell? ⟨g, n + 1, none⟩ = some (.string ⟨#[109, 97, 114, 107, 32, 116, 119, 111]⟩)) := fun Z B i h hi => by
    have hl := HN.out
    have hlr : (ss.reverse.take i ++ ss.drop i).length = n := by simp only [List.length_append, List.length_take, List.length_drop, List.length_reverse]; omega
    have c1 := (own_cell h (j := n) (by rw [rvL_len _ _ _ (by omega)]; simp; omega)).1
    have c2 := (own_cell h (j := n + 1) (by rw [rvL_len _ _ _ (by omega)]; simp; omega)).1
    have e1 : (rvL ss i [⟨#[109, 97, 114, 107, 32, 111, 110, 101]⟩, ⟨#[109, 97, 114, 107, 32, 116, 119, 111]⟩]).getD n ByteArray.empty = ⟨#[109, 97, 114, 107, 32, 111, 110, 101]⟩ := by
      rw [rvL, List.getD_eq_getElem?_getD, List.getElem?_append_right (by omega), hlr, Nat.sub_self]; rfl
    have e2 : (rvL ss i [⟨#[109, 97, 114, 107, 32, 111, 110, 101]⟩, ⟨#[109, 97, 114, 107, 32, 116, 119, 111]⟩]).getD (n + 1) ByteArray.empty = ⟨#[109, 97, 114, 107, 32, 116, 119, 111]⟩ := by
      rw [rvL, List.getD_eq_getElem?_getD, List.getElem?_append_right (by omega), hlr, show n + 1 - n = 1 by omega]; rfl
    rw [e1] at c1
    rw [e2] at c2
    exact ⟨c1, c2⟩
  have HS7 : Hid (∀ Z, Below w2.heap.size w2 Z → Z.cell? ⟨w.heap.size, 4, none⟩ = some (.int .u32 (d : Int)) ∧ Z.cell? ⟨g, n, none⟩ = some (.string ⟨#[109, 97, 114, 107, 32, 111, 110, 101]⟩) ∧ Z.cell? ⟨g, n + 1, none⟩ = some (.string ⟨#[109, 97, 114, 107, 32, 116, 119, 111]⟩)) := fun Z hz =>
    ⟨(HC.out _ (bnext (bnext HW.out HB2.out.2) hz)).2.2.2.2, HMK.out _ _ 0 (own_next HO.out.1 hz (Nat.le_refl _)) (Nat.zero_le _)⟩
  have HCh : Hid (∀ Z, Below w2.heap.size w2 Z → Calls Try.prog 18 #[.int .u32 (d : Int), .string item, .slice (some ⟨g, 0, none⟩) n cap'] Z fun e w' => e = .returned (.int .u32 (r : Int)) ∧ Below Z.heap.size Z w') := fun Z hz => by
    have ho := own_next HO.out.1 hz (Nat.le_refl _)
    have hrd := own_take ho n (by rw [rvL_len _ _ _ (Nat.zero_le _)]; have := HN.out; omega) (rvL_sz ss _ 0 HO.out.2.2.2 (by decide))
    rw [rvL_zero, List.take_append_of_le_length (by have := HN.out; omega), List.take_of_length_le (by have := HN.out; omega)] at hrd
    have := chain_any Z md item (by have := HSZ.out.2.2.2.2.1; omega) _ g 0 n cap' ss hrd (by omega) r hR
    rw [HSZ.out.2.2.2.2.2] at this
    exact this
  have HRc : Hid (∀ Z, Below w2.heap.size w2 Z → Calls Try.prog 19 #[.int .u32 (d : Int), .string item, .slice ao n cap] Z fun e w' => e = .returned (.int .u32 (r : Int)) ∧ Below Z.heap.size Z w') := fun Z hz => by
    have := refchain_any Z md item ao b off n cap ss (HRD.out _ (bnext HB2.out.1 hz)) (by omega) (by have := HSZ.out.2.2.2; omega) r hR
    rw [HSZ.out.2.2.2.2.2] at this
    exact this
  have z1 : (n : Int) ≤ (cap' : Int) := by omega
  have z2 : (0 : Int) ≤ (n : Int) := by omega
  have z3 : (n : Int) < (n : Int) + 2 := by omega
  have z6 : (n : Int) + 1 < (n : Int) + 2 := by omega
  have z7 : (0 : Int) ≤ (n : Int) + 1 := by omega
  clear hln hln2
  have z4 : IntKind.i64.wrap ((n : Int) + 1) = (n : Int) + 1 := by rw [IntKind.wrap_i64]; omega
  have z5 : wrap64 ((n : Int) + 1) = (n : Int) + 1 := by unfold wrap64; omega
  go_upto_region 7 with fail
  have tw := bdrew (Below.refl w2.heap.size w2)
  go_cut [77] from 50 to 76 (fun x wx => x = .bool false ∧ Hid (Below w2.heap.size w2 wx))
  case first =>
    go_region_held3 (fun Z => Z.cell? ⟨w.heap.size, 4, none⟩ = some (.int .u32 (d : Int)) ∧ Z.cell? ⟨g, n, none⟩ = some (.string ⟨#[109, 97, 114, 107, 32, 111, 110, 101]⟩) ∧ Z.cell? ⟨g, n + 1, none⟩ = some (.string ⟨#[109, 97, 114, 107, 32, 116, 119, 111]⟩)) (first | assumption | (exact HS7.out _ tw)) (first
      | (go_at_call 18; with_reducible refine (HCh.out _ tw).mono ?_; rintro e w4 ⟨rfl, hb4⟩; replace tw := bnext tw hb4; clear hb4)
      | (go_at_call 19; with_reducible refine (HRc.out _ tw).mono ?_; rintro e w4 ⟨rfl, hb4⟩; replace tw := bnext tw hb4; clear hb4))
    all_goals
      go_wp2_with fail
      go_meet
      case rel => exact ⟨rfl, tw⟩
  clear HCh HRc HS7 tw z4 z5 z6 z7 z3 hR
  obtain ⟨rfl, HW7⟩ := hcut
  go_wp2
  go_loopg [13] n (fun G i wr => ∃ j : Nat, j ≤ n ∧ G = n - j ∧ i = .int .i64 (j : Int) ∧ Hid (Below w2.heap.size w2 wr))
  case atStart =>
    go_light
    exact ⟨0, Nat.zero_le _, rfl, rfl, HW7⟩
  case round =>
    clear HW7
    obtain ⟨j, hj, rfl, rfl, HW7⟩ := hrel
    by_cases hlt : j < n
    · have hz : (j : Int) < (n : Int) := by omega
      have hz0 : (0 : Int) ≤ (j : Int) := by omega
      have hz2 : (j : Int) < (n : Int) + 2 := by omega
      have ho := own_next HO.out.1 HW7.out (Nat.le_refl _)
      have c1 := (own_cell ho (j := j) (by rw [rvL_len _ _ _ (Nat.zero_le _)]; have := HN.out; omega)).1
      have rd := HRD.out wr (bnext HB2.out.1 HW7.out)
      obtain rfl := rd.ptr (by omega)
      have c2 := rd.at hlt
      have e1 : (rvL ss 0 [⟨#[109, 97, 114, 107, 32, 111, 110, 101]⟩, ⟨#[109, 97, 114, 107, 32, 116, 119, 111]⟩]).getD j ByteArray.empty = ss.getD j ByteArray.empty := by
        rw [rvL_zero, List.getD_eq_getElem?_getD, List.getElem?_append_left (by have := HN.out; omega), List.getD_eq_getElem?_getD]
      rw [e1] at c1
      generalize ss.getD j ByteArray.empty = part at *
      clear ho rd e1
      go_upto_region 12 with fail
      go_quiet (fail)
      go_wp2
      go_roundg (n - (j + 1))
      case rel =>
        go_light
        exact ⟨j + 1, by omega, rfl, by go_num, below_drewN HW7.out _⟩
      case measure => go_light; omega
    · obtain rfl : n = j := by omega
      have hz : ¬ ((n : Int) < (n : Int)) := by omega
      obtain ⟨B2, hB2⟩ : ∃ B2, wr.heap.size = B2 := ⟨_, rfl⟩
      have HI : Hid (OwnS wr B0 (.slice (some ⟨g, 0, none⟩) (n + 2) cap') (rvL ss 0 [⟨#[109, 97, 114, 107, 32, 111, 110, 101]⟩, ⟨#[109, 97, 114, 107, 32, 116, 119, 111]⟩]) ∧ OwnS wr B2 (.slice none 0 0) (ss.reverse.take 0) ∧ Below wa.heap.size wa wr ∧ B2 ≤ wr.heap.size) :=
        ⟨own_next HO.out.1 HW7.out (Nat.le_refl _), owns_nil _ _, bnext (bnext HW.out HB2.out.2) HW7.out, by omega⟩
      have HG : Hid (g < B2 ∧ wa.heap.size ≤ g ∧ wa.heap.size ≤ B2 ∧ (∀ s ∈ ss, s.size ≤ 9223372036854775807)) := by
        refine ⟨?_, ?_, ?_, HO.out.2.2.2⟩
        · have := HO.out.2.2.1; have := HW7.out.size; omega
        · have := HO.out.2.1; have := HB0.out.2; omega
        · have := HI.out.2.2.1.size; omega
      clear hB2 HW7 HO HB2 hj hlt
      go_wp2
      go_loopg [14, 15] n (fun G o i wx => ∃ t : Nat, t ≤ n ∧ G = n - t ∧ i = .int .i64 (t : Int) ∧ Hid (OwnS wx B0 (.slice (some ⟨g, 0, none⟩) (n + 2) cap') (rvL ss t [⟨#[109, 97, 114, 107, 32, 111, 110, 101]⟩, ⟨#[109, 97, 114, 107, 32, 116, 119, 111]⟩]) ∧ OwnS wx B2 o (ss.reverse.take t) ∧ Below wa.heap.size wa wx ∧ B2 ≤ wx.heap.size))
      case atStart =>
        go_light
        exact ⟨0, Nat.zero_le _, rfl, rfl, HI⟩
      case round =>
        clear HI
        obtain ⟨t, ht, rfl, rfl, HI⟩ := hrel
        by_cases hlt : t < n
        · have hz : (t : Int) < (n : Int) := by omega
          have hz0 : (0 : Int) ≤ (t : Int) := by omega
          have hz2 : (t : Int) < (n : Int) + 2 := by omega
          obtain ⟨q, hq⟩ : ∃ q, n - 1 - t = q := ⟨_, rfl⟩
          have e1 : (n : Int) - 1 - (t : Int) = (q : Int) := by omega
          have hq0 : (0 : Int) ≤ (q : Int) := by omega
          have hq1 : (q : Int) < (n : Int) := by omega
          have rd := HRD.out wr (bnext HA.out.1 HI.out.2.2.1)
          obtain rfl := rd.ptr (by omega)
          have c2 := rd.at (k := q) (by omega)
          have hln : ss.length = n := HN.out
          obtain ⟨c1, f1⟩ := own_cell HI.out.1 (j := t) (by rw [rvL_len _ _ _ (by omega)]; omega)
          obtain ⟨z, hz'⟩ : ∃ z, (rvL ss t [⟨#[109, 97, 114, 107, 32, 111, 110, 101]⟩, ⟨#[109, 97, 114, 107, 32, 116, 119, 111]⟩]).getD t ByteArray.empty = z := ⟨_, rfl⟩
          rw [hz'] at c1
          obtain ⟨X, hX⟩ : ∃ X, ss.getD q ByteArray.empty = X := ⟨_, rfl⟩
          rw [hX] at c2
          have hXs : X.size ≤ 9223372036854775807 := by
            rw [← hX, List.getD_eq_getElem?_getD, List.getElem?_eq_getElem (show q < ss.length by omega)]
            exact HG.out.2.2.2 _ (List.getElem_mem _)
          obtain ⟨W1, hW1⟩ : ∃ W1, wr.setCell ⟨g, t, none⟩ (.string X) = W1 := ⟨_, rfl⟩
          have HS : Hid (OwnS W1 B0 (.slice (some ⟨g, 0, none⟩) (n + 2) cap') (rvL ss (t + 1) [⟨#[109, 97, 114, 107, 32, 111, 110, 101]⟩, ⟨#[109, 97, 114, 107, 32, 116, 119, 111]⟩]) ∧ OwnS W1 B2 u14 (ss.reverse.take t) ∧ Below wa.heap.size wa W1 ∧ B2 ≤ W1.heap.size ∧ W1.cell? ⟨g, t, none⟩ = some (.string X)) := by
            have h1 := own_set HI.out.1 t X
            rw [← hX, ← hq, ← hln, rvL_set ss _ t (by omega), hln, hq, hX, hW1] at h1
            refine ⟨h1, ?_, ?_, ?_, ?_⟩
            · rw [← hW1]; exact own_off HI.out.2.1 g t _ HG.out.1
            · rw [← hW1]; exact HI.out.2.2.1.setCell HG.out.2.1 _
            · rw [← hW1]; have := HI.out.2.2.2; simpa using this
            · rw [← hW1]; exact World.cell?_setCell_same wr _ _ c1
          have cW := HS.out.2.2.2.2
          have HQ : Hid (ss.reverse.take t ++ [X] = ss.reverse.take (t + 1) ∧ (ss.reverse.take t).length = t) := by
            refine ⟨?_, by rw [List.length_take, List.length_reverse]; omega⟩
            rw [← hX, ← hq, ← hln]; exact rev_step ss t (by omega)
          clear rd hz' hX hq hln HI
          go_wp2_with (at_builtin; refine wpList_append_S _ rfl _ _ rfl B2 _ (ss.reverse.take t) rfl (own_al HS.out.2.1 _) (some ⟨W1.heap.size, 0, none⟩) W1.heap.size 0 1 [X] rfl (rds_one W1 X hXs) (fun h => by cases h) ?_ ?_ ?_)
          · have := HQ.out.2; simp at this ⊢; omega
          · have := HS.out.2.2.2.1; simp; omega
          intro v3 w3 h3 hb3
          rw [HQ.out.1] at h3
          have HN3 : Hid (OwnS w3 B0 (.slice (some ⟨g, 0, none⟩) (n + 2) cap') (rvL ss (t + 1) [⟨#[109, 97, 114, 107, 32, 111, 110, 101]⟩, ⟨#[109, 97, 114, 107, 32, 116, 119, 111]⟩]) ∧ OwnS w3 B2 v3 (ss.reverse.take (t + 1)) ∧ Below wa.heap.size wa w3 ∧ B2 ≤ w3.heap.size) := by
            have hG := HG.out
            refine ⟨own_low (own_al HS.out.1 _) hb3 hG.1, h3, (bal HS.out.2.2.1 _).trans (hb3.mono hG.2.2.1), ?_⟩
            have := hb3.size
            have := HS.out.2.2.2.1
            simp at *
            omega
          clear h3 hb3
          go_wp2
          go_roundg (n - (t + 1))
          case rel =>
            go_light
            exact ⟨t + 1, by omega, rfl, by go_num, HN3⟩
          case measure => go_light; omega
        · obtain rfl : n = t := by omega
          have hz : ¬ ((n : Int) < (n : Int)) := by omega
          have hln : ss.length = n := HN.out
          have hrev : ss.reverse.take n = ss.reverse := List.take_of_length_le (by rw [List.length_reverse, hln]; exact Nat.le_refl _)
          have hszr : ∀ s ∈ ss.reverse, s.size ≤ 9223372036854775807 := fun s hs => HG.out.2.2.2 s (List.mem_reverse.1 hs)
          obtain ⟨r2, hR2⟩ : ∃ r, chn md item.data.toList ss.reverse = r := ⟨_, rfl⟩
          obtain ⟨ov, hov⟩ : ∃ ov, u14 = ov := ⟨_, rfl⟩
          have hown := HI.out.2.1
          rw [hrev, hov] at hown
          obtain ⟨a2, b2, cap2, hv2, hrd2, _, _⟩ := owns_rds hown hszr
          rw [List.length_reverse, hln] at hv2 hrd2
          rw [hv2] at hov
          have HS8 : Hid (∀ Z, Below wr.heap.size wr Z → Z.cell? ⟨w.heap.size, 4, none⟩ = some (.int .u32 (d : Int))) := fun Z hz => (HC.out _ (bnext HI.out.2.2.1 hz)).2.2.2.2
          have HCh : Hid (∀ Z, Below wr.heap.size wr Z → Calls Try.prog 18 #[.int .u32 (d : Int), .string item, .slice (some ⟨g, 0, none⟩) n cap'] Z fun e w' => e = .returned (.int .u32 (r2 : Int)) ∧ Below Z.heap.size Z w') := fun Z hz => by
            have ho := own_next HI.out.1 hz (Nat.le_refl _)
            have hrd := own_take ho n (by rw [rvL_len _ _ _ (by omega)]; omega) (rvL_sz ss _ n HG.out.2.2.2 (by decide))
            rw [← hln, rvL_all, hln] at hrd
            have := chain_any Z md item (by have := HSZ.out.2.2.2.2.1; omega) _ g 0 n cap' ss.reverse hrd (by omega) r2 hR2
            rw [HSZ.out.2.2.2.2.2] at this
            exact this
          have HRc : Hid (∀ Z, Below wr.heap.size wr Z → Calls Try.prog 19 #[.int .u32 (d : Int), .string item, .slice a2 n cap2] Z fun e w' => e = .returned (.int .u32 (r2 : Int)) ∧ Below Z.heap.size Z w') := fun Z hz => by
            have := refchain_any Z md item a2 b2 0 n cap2 ss.reverse (hrd2.next hz (Nat.le_refl _)) (by omega) (by rw [flat_rev]; have := HSZ.out.2.2.2; omega) r2 hR2
            rw [HSZ.out.2.2.2.2.2] at this
            exact this
          have HE : Hid (Below w.heap.size w wr) := bnext HA.out.1 HI.out.2.2.1
          clear hv2 hrd2 hown hszr hrev hR2 HI hln
          rw [hov]
          go_upto_region 20 with fail
          have tw := bdrew (Below.refl wr.heap.size wr)
          go_region_held3 (fun Z => Z.cell? ⟨w.heap.size, 4, none⟩ = some (.int .u32 (d : Int))) (first | assumption | (exact HS8.out _ tw)) (first
            | (go_at_call 18; with_reducible refine (HCh.out _ tw).mono ?_; rintro e w4 ⟨rfl, hb4⟩; replace tw := bnext tw hb4; clear hb4)
            | (go_at_call 19; with_reducible refine (HRc.out _ tw).mono ?_; rintro e w4 ⟨rfl, hb4⟩; replace tw := bnext tw hb4; clear hb4))
          all_goals
            go_wp2
            go_ret
            exact ⟨rfl, bnext HE.out tw⟩
end Go.Proofs.Ytggkjleibhpnfaa
