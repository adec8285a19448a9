/-
  The walk of ShaOf. Own work.
-/
import Derived.Test.YthcldaejihdahaaDoorWalkM
namespace Go.Proofs.YthcldaejihdahaaDoor
open Go.RowKit
attribute [local go_sem ↓] Go.wp_at_zero Go.wp_at_succ
theorem owns_str {w : World} {base g n cap : Nat} {xs : List Value} (h : w.ownsRow base 9 1 (.slice (some ⟨g, 0, none⟩) n cap) n xs) : w.rangeAt g 0 xs ∧ w.there g 0 n ∧ base ≤ g ∧ n ≤ cap := by
  obtain ⟨h1, h2⟩ := h
  rcases h2 with ⟨h2, _⟩ | ⟨g', cap', cur, hv, hg, hh, hc1, hc, hs, ht⟩
  · cases h2
  · injection hv with e1 e2 e3
    injection e1 with e1
    injection e1 with e1
    subst e1 e3
    have hcell : ∀ j, w.cell? ⟨g, 0 + j, none⟩ = cur[j]? := fun j => by rw [Nat.zero_add, cell_of_row w g j cur 9 (0, 0) hh]
    refine ⟨fun j v hj => ?_, fun j hj => ⟨?_, frozen_of_row w g _ cur 9 hh⟩, hg, hc1⟩
    · rw [hcell]
      rw [← ht, List.getElem?_take] at hj
      split at hj
      · simpa using hj
      · cases hj
    · rw [hcell, Array.getElem?_eq_getElem (by omega)]; rfl
theorem range_pre {w : World} {b o : Nat} {xs ys : List Value} (h : w.rangeAt b o (xs ++ ys)) : w.rangeAt b o xs := fun j v hv => by
  have hj := (List.getElem?_eq_some_iff.1 hv).1
  exact h j v (by rw [List.getElem?_append_left hj]; exact hv)
theorem flat_rev (ss : List ByteArray) : (flat ss.reverse).length = (flat ss).length := by
  simp [flat, List.length_flatten, List.map_reverse, List.sum_reverse]
def M1b : ByteArray := ⟨#[109, 97, 114, 107, 32, 111, 110, 101]⟩
def M2b : ByteArray := ⟨#[109, 97, 114, 107, 32, 116, 119, 111]⟩
/-- The list when the first k places have been turned. -/
def turnedL (ss : List ByteArray) (k : Nat) : List ByteArray := ss.reverse.take k ++ (ss ++ [M1b, M2b]).drop k
theorem turnedL_len (ss : List ByteArray) (k : Nat) (hk : k ≤ ss.length) : (turnedL ss k).length = ss.length + 2 := by
  simp [turnedL]; omega
theorem turnedL_set (ss : List ByteArray) (k : Nat) (hk : k < ss.length) : (turnedL ss k).set k (ss.getD (ss.length - 1 - k) ByteArray.empty) = turnedL ss (k + 1) := by
  have hl : (ss.reverse.take k).length = k := by simp; omega
  have e : ss.getD (ss.length - 1 - k) ByteArray.empty = ss.reverse[k]'(by simpa using hk) := by
    rw [List.getElem_reverse, List.getD_eq_getElem?_getD, List.getElem?_eq_getElem (by omega)]; rfl
  unfold turnedL
  rw [List.set_append_right _ _ (by omega), hl, Nat.sub_self, List.take_succ_eq_append_getElem (by simpa using hk), e, List.append_assoc]
  congr 1
  rw [List.drop_eq_getElem_cons (by simp; omega)]
  rfl
theorem turnedL_all (ss : List ByteArray) : turnedL ss ss.length = ss.reverse ++ [M1b, M2b] := by
  unfold turnedL
  rw [List.take_of_length_le (by simp), List.drop_append_of_le_length (Nat.le_refl _), List.drop_length, List.nil_append]
set_option maxHeartbeats 4000000 in
set_option maxRecDepth 100000 in
theorem of_walk (w : World) (ao : Option Addr) (b off len cap : Nat) (ss : List ByteArray) (hl : ss.length = len) (hao : 0 < len → ao = some ⟨b, off, none⟩) (hs : w.rangeAt b off (ss.map Value.string)) (hnil : ao = none → cap = 0)
    (hmx : len ≤ 1048576) (hr : w.rangeAt 1 0 (cW RS)) (hr2 : w.rangeAt 2 0 (cW RS)) (hiv : w.rangeAt 0 0 (cW IV)) (hlen : (flat ss).length ≤ 1048576) :
    Calls Tryd.prog 5 #[.slice ao len cap] w fun e w' => e = .returned (.bool true) ∧ Below w.heap.size w w' := by
  have h2w : 2 < w.heap.size := range_lt hr2 (by intro h; have := congrArg List.length h; simp [cW_len, RS_len] at this)
  have hbl : 0 < len → b < w.heap.size := fun h0 => range_lt hs (by intro h; have := congrArg List.length h; rw [List.length_map, List.length_nil] at this; omega)
  have HPART : Hid (∀ W, Below w.heap.size w W → ∀ k, k < len → W.cell? ⟨b, off + k, none⟩ = some (.string (ss.getD k ByteArray.empty))) := fun W hW k hk => by
    rw [hW.cell (p := ⟨b, off + k, none⟩) (hbl (by omega))]
    exact hs k _ (by simp [List.getElem?_eq_getElem (show k < ss.length by omega), List.getD_eq_getElem?_getD])
  have HTX : Hid (∀ W, Below w.heap.size w W → Calls Tryd.prog 12 #[.slice ao len cap] W fun e w' => ∃ g cp, e = .returned (.slice (some ⟨g, 0, none⟩) (len + 2) cp) ∧ w'.rangeAt g 0 ((ss ++ [M1b, M2b]).map Value.string) ∧ w'.there g 0 (len + 2) ∧ w.heap.size ≤ g ∧ len + 2 ≤ cp ∧ Below w.heap.size w w') := fun W hW => by
    have hsW : W.rangeAt b off (ss.map Value.string) := by
      by_cases h0 : 0 < len
      · exact range_below hW (hbl h0) hs
      · have : ss = [] := List.length_eq_zero_iff.1 (by omega)
        rw [this]; intro j v hv; cases hv
    refine (texts_any W ao b off len cap ss hl hao hsW hnil hmx).mono ?_
    rintro e w' ⟨g, cp, he, hown, hb⟩
    obtain ⟨q1, q2, q3, q4⟩ := owns_str hown
    have := hW.size
    exact ⟨g, cp, he, by simpa [mark1, mark2, M1b, M2b] using q1, q2, by omega, q4, hW.trans (hb.mono hW.size)⟩
  clear hs
  go_enter Tryd.func5, Tryd.ntmps5
  go_upto_region 3 with (go_at_call 6; refine (fixed_any w hr).mono ?_; rintro e w1 ⟨rfl, hb1⟩)
  go_upto_region 5 with (go_at_call 12; refine (HTX.out _ hb1).mono ?_; rintro e w2 ⟨g, cp, rfl, hin, hint, hg, hcp, hb2⟩)
  clear hb1 HTX
  go_wp2
  go_loopg [5, 6] len (fun gg x i wx => w2 = wx ∧ ∃ (k : Nat) (all : ByteArray), k ≤ len ∧ gg = len - k ∧ x = .string all ∧ i = .int .i64 k ∧ Hid (tB all = flat (ss.take k)))
  case atStart =>
    go_light
    exact ⟨rfl, 0, _, Nat.zero_le _, rfl, rfl, rfl, rfl⟩
  case round =>
    obtain ⟨rfl, k, all, hk, rfl, rfl, rfl, HT⟩ := hrel
    by_cases hlt : k < len
    · obtain rfl := hao (by omega)
      have hk' : k < ss.length := by omega
      have ck := HPART.out w2 hb2 k hlt
      have hz : (k : Int) < (len : Int) := by omega
      have hfs := flat_snoc ss k hk'
      have hsz : (flat (ss.take (k + 1))).length ≤ (flat ss).length := flat_take_le _ _
      have hts : all.size = (flat (ss.take k)).length := by rw [← tB_len, HT.out]
      have hns : ¬ (9223372036854775807 < all.size + (ss.getD k ByteArray.empty).size) := by
        rw [hfs, List.length_append, tB_len] at hsz; omega
      have HF : Hid (tB (all ++ ss.getD k ByteArray.empty) = flat (ss.take (k + 1))) := by
        show _ = _
        rw [tB_append, HT.out, hfs]
      clear hfs hsz hts
      generalize ss.getD k ByteArray.empty = part at *
      go_wp2
      go_roundg (len - (k + 1))
      case rel =>
        go_light
        exact ⟨rfl, k + 1, _, by omega, rfl, rfl, by go_num, HF.out⟩
      case measure => go_light; omega
    · obtain rfl : k = len := by omega
      have hz : ¬ (k : Int) < (k : Int) := by omega
      have hT := HT.out
      rw [List.take_of_length_le (by omega)] at hT
      have hr1 : w2.rangeAt 1 0 (cW RS) := range_below hb2 (by omega) hr
      have hrr2 : w2.rangeAt 2 0 (cW RS) := range_below hb2 (by omega) hr2
      have hiv2 : w2.rangeAt 0 0 (cW IV) := range_below hb2 (by omega) hiv
      have h22 : 2 < w2.heap.size := Nat.lt_of_lt_of_le h2w hb2.size
      have has : all.size < 1152921504606846976 := by rw [← tB_len, hT]; omega
      have hof := of_any w2 (some ⟨g, 0, none⟩) g 0 k cp ss hl (fun _ => rfl) (range_pre (by rw [List.map_append] at hin; exact hin)) (by omega) RS RS_len hr1 (by omega)
      rw [← hT] at hof
      have hc1 := hin k (Value.string M1b) (by rw [List.map_append, List.getElem?_append_right (by simp; omega)]; simp [hl])
      have hc2 := hin (k + 1) (Value.string M2b) (by rw [List.map_append, List.getElem?_append_right (by simp; omega)]; simp [hl])
      rw [Nat.zero_add] at hc1 hc2
      have hglt : g < w2.heap.size := World.block_lt_of_cell? _ _ hc1
      have ck1 : ∀ W, Below w2.heap.size w2 W → W.cell? ⟨g, k, none⟩ = some (.string ⟨#[109, 97, 114, 107, 32, 111, 110, 101]⟩) := fun W h => by rw [h.cell (p := ⟨g, k, none⟩) hglt]; exact hc1
      have ck2 : ∀ W, Below w2.heap.size w2 W → W.cell? ⟨g, k + 1, none⟩ = some (.string ⟨#[109, 97, 114, 107, 32, 116, 119, 111]⟩) := fun W h => by rw [h.cell (p := ⟨g, k + 1, none⟩) hglt]; exact hc2
      have kk0 : (0 : Int) ≤ (k : Int) := Int.natCast_nonneg _
      have kcp : (k : Int) ≤ (cp : Int) := by omega
      have kk1 : (k : Int) ≤ 1048576 := by omega
      clear hT HT hc1 hc2
      go_upto_if 49 with (first | (go_at_call 10; with_reducible refine hof.mono ?_; rintro e w3 ⟨rfl, hbn⟩) | (go_at_call 11; with_reducible refine (ref_later w2 _ _ has hrr2 hiv2 h22 ?_).mono ?_; assumption; rintro e w3 ⟨rfl, hbn⟩))
      have Hb3 : Hid (Below w.heap.size w w3) := hb2.trans (hbn.mono hb2.size)
      have HI3 : Hid (w3.rangeAt g 0 ((ss ++ [M1b, M2b]).map Value.string)) := range_below hbn hglt hin
      have HT3 : Hid (w3.there g 0 (k + 2)) := there_below hbn hglt hint
      clear ck1 ck2 hof hr1 hrr2 hiv2 has
      go_wp2
      clear hin hint hb2 h22 hglt hbn
      go_loopg [7] k (fun gg i wx => ∃ j : Nat, j ≤ k ∧ gg = k - j ∧ i = .int .i64 j ∧ wx.rangeAt g 0 ((ss ++ [M1b, M2b]).map Value.string) ∧ wx.there g 0 (k + 2) ∧ Below w.heap.size w wx)
      case atStart =>
        go_light
        exact ⟨0, Nat.zero_le _, rfl, rfl, HI3.out, HT3.out, Hb3.out⟩
      case round =>
        clear HI3 HT3 Hb3
        obtain ⟨j, hj, rfl, rfl, hin, hint, hb⟩ := hrel
        by_cases hjl : j < k
        · obtain rfl := hao (by omega)
          have hz2 : (j : Int) < (k : Int) := by omega
          have j0 : (0 : Int) ≤ (j : Int) := Int.natCast_nonneg _
          have hjk : (j : Int) < (k : Int) + 2 := by omega
          have cj1 := hin j (Value.string (ss.getD j ByteArray.empty)) (by rw [List.map_append, List.getElem?_append_left (by simp; omega)]; simp [List.getElem?_eq_getElem (show j < ss.length by omega), List.getD_eq_getElem?_getD])
          rw [Nat.zero_add] at cj1
          have cj2 := HPART.out wr hb j hjl
          have HS : Hid (wr.rangeAt g 0 ((ss ++ [M1b, M2b]).map Value.string) ∧ wr.there g 0 (k + 2) ∧ Below w.heap.size w wr) := ⟨hin, hint, hb⟩
          clear hin hint hb
          generalize ss.getD j ByteArray.empty = part at *
          go_upto_region 15 with (fail)
          go_region_held3 (fun w' => w'.cell? ⟨g, j, none⟩ = some (.string part) ∧ w'.cell? ⟨b, off + j, none⟩ = some (.string part)) (first | assumption | (refine ⟨?_, ?_⟩ <;> assumption)) (fail)
          go_wp2
          go_roundg (k - (j + 1))
          case rel =>
            go_light
            exact ⟨j + 1, by omega, rfl, by go_num, HS.out.1, HS.out.2.1, ⟨HS.out.2.2.os, HS.out.2.2.tape, HS.out.2.2.output, HS.out.2.2.size, HS.out.2.2.block⟩⟩
          case measure => go_light; omega
        · obtain rfl : j = k := by omega
          have hz2 : ¬ (j : Int) < (j : Int) := by omega
          have HS0 : Hid (wr.rangeAt g 0 ((turnedL ss 0).map Value.string) ∧ wr.there g 0 (j + 2) ∧ Below w.heap.size w wr) := ⟨hin, hint, hb⟩
          clear hin hint hb hj hjl
          go_wp2
          go_loopg [8, 9] j (fun gg x i wx => ∃ (m : Nat) (other : ByteArray), m ≤ j ∧ gg = j - m ∧ x = .string other ∧ i = .int .i64 m ∧ Hid (tB other = flat (ss.reverse.take m)) ∧ wx.rangeAt g 0 ((turnedL ss m).map Value.string) ∧ wx.there g 0 (j + 2) ∧ Below w.heap.size w wx)
          case atStart =>
            go_light
            exact ⟨0, _, Nat.zero_le _, rfl, rfl, rfl, rfl, HS0.out.1, HS0.out.2.1, HS0.out.2.2⟩
          case round =>
            clear HS0
            obtain ⟨m, other, hm, rfl, rfl, rfl, HO, hin, hint, hb⟩ := hrel
            have hrl : (flat ss.reverse).length = (flat ss).length := flat_rev ss
            by_cases hml : m < j
            · obtain rfl := hao (by omega)
              obtain ⟨d1, hd1⟩ : ∃ d1 : Nat, d1 + 1 = j := ⟨j - 1, by omega⟩
              obtain ⟨d2, hd2⟩ : ∃ d2 : Nat, d2 + m = d1 := ⟨d1 - m, by omega⟩
              have hz3 : (m : Int) < (j : Int) := by omega
              have m0 : (0 : Int) ≤ (m : Int) := Int.natCast_nonneg _
              have ed1 : (j : Int) - 1 = (d1 : Int) := by omega
              have ed2 : (d1 : Int) - (m : Int) = (d2 : Int) := by omega
              have d20 : (0 : Int) ≤ (d2 : Int) := Int.natCast_nonneg _
              have d2j : (d2 : Int) < (j : Int) := by omega
              have hjk : (m : Int) < (j : Int) + 2 := by omega
              have cp1 := HPART.out wr hb d2 (by omega)
              have tl2 := turnedL_len ss m (by omega)
              have cm1 := hin m (Value.string ((turnedL ss m).getD m ByteArray.empty)) (by simp [List.getElem?_eq_getElem (show m < (turnedL ss m).length by omega), List.getD_eq_getElem?_getD])
              rw [Nat.zero_add] at cm1
              have fm : wr.frozen? ⟨g, m, none⟩ = false := by have := (hint m (by omega)).2; rwa [Nat.zero_add] at this
              have hts := turnedL_set ss m (by omega)
              rw [show ss.length - 1 - m = d2 by omega] at hts
              have hrev : ss.reverse.getD m ByteArray.empty = ss.getD d2 ByteArray.empty := by
                rw [List.getD_eq_getElem?_getD, List.getD_eq_getElem?_getD, List.getElem?_reverse (by omega), show ss.length - 1 - m = d2 by omega]
              have hfs := flat_snoc ss.reverse m (by simp; omega)
              rw [hrev] at hfs
              have hsz : (flat (ss.reverse.take (m + 1))).length ≤ (flat ss.reverse).length := flat_take_le _ _
              have hos : other.size = (flat (ss.reverse.take m)).length := by rw [← tB_len, HO.out]
              have hns : ¬ (9223372036854775807 < other.size + (ss.getD d2 ByteArray.empty).size) := by
                rw [hfs, List.length_append, tB_len] at hsz; omega
              have HF : Hid (tB (other ++ ss.getD d2 ByteArray.empty) = flat (ss.reverse.take (m + 1))) := by
                show _ = _
                rw [tB_append, HO.out, hfs]
              have HR : Hid ((wr.setCell ⟨g, m, none⟩ (.string (ss.getD d2 ByteArray.empty))).rangeAt g 0 ((turnedL ss (m + 1)).map Value.string) ∧ (wr.setCell ⟨g, m, none⟩ (.string (ss.getD d2 ByteArray.empty))).there g 0 (j + 2) ∧ Below w.heap.size w (wr.setCell ⟨g, m, none⟩ (.string (ss.getD d2 ByteArray.empty)))) := by
                refine ⟨?_, there_set hint _ _, hb.setCell hg _⟩
                have := range_set hin m (.string (ss.getD d2 ByteArray.empty))
                rw [Nat.zero_add, ← List.map_set, hts] at this
                exact this
              have cm2 := fun v => World.cell?_setCell_same wr ⟨g, m, none⟩ v cm1
              clear hts hrev hfs hsz hos hin hint hb hd1 hd2 tl2 hrl
              generalize ss.getD d2 ByteArray.empty = part at *
              generalize (turnedL ss m).getD m ByteArray.empty = old at *
              go_wp2
              go_roundg (j - (m + 1))
              case rel =>
                go_light
                exact ⟨m + 1, _, by omega, rfl, rfl, by go_num, HF.out, HR.out.1, HR.out.2.1, HR.out.2.2⟩
              case measure => go_light; omega
            · obtain rfl : m = j := by omega
              have hz3 : ¬ (m : Int) < (m : Int) := by omega
              have hT := HO.out
              rw [List.take_of_length_le (by simp; omega)] at hT
              rw [← hl, turnedL_all, List.map_append] at hin
              have hr1 : wr.rangeAt 1 0 (cW RS) := range_below hb (by omega) hr
              have hrr2 : wr.rangeAt 2 0 (cW RS) := range_below hb (by omega) hr2
              have hiv2 : wr.rangeAt 0 0 (cW IV) := range_below hb (by omega) hiv
              have h22 : 2 < wr.heap.size := Nat.lt_of_lt_of_le h2w hb.size
              have has : other.size < 1152921504606846976 := by rw [← tB_len, hT]; omega
              have hof := of_any wr (some ⟨g, 0, none⟩) g 0 m cp ss.reverse (by simp [hl]) (fun _ => rfl) (range_pre hin) (by omega) RS RS_len hr1 (by omega)
              rw [← hT] at hof
              have Hb' : Hid (Below w.heap.size w wr) := hb
              have HZ' : Hid (w.heap.size ≤ wr.heap.size) := hb.size
              clear hT HO hin hint hb hrl
              go_wp2_with (first | (go_at_call 10; with_reducible refine hof.mono ?_; rintro e w3 ⟨rfl, hbn⟩) | (go_at_call 11; with_reducible refine (ref_later wr _ _ has hrr2 hiv2 h22 ?_).mono ?_; assumption; rintro e w3 ⟨rfl, hbn⟩))
              go_ret
              exact ⟨rfl, Hb'.out.trans (hbn.mono HZ'.out)⟩
end Go.Proofs.YthcldaejihdahaaDoor
