/-
  Own work: QOps3, QOps4.
-/
import Derived.BigQuiet
import Derived.Test.YthfnpagangjpbabGreatV45
namespace Go.Proofs.YthfnpagangjpbabGreat
open Go.RowKit
section
variable {p : Nat} {lv : Value} {ka : Option Addr} {kb ko kc : Nat} {V : RV}
set_option maxRecDepth 100000 in
set_option maxHeartbeats 8000000 in
theorem rwrite_any (w : World) (h : Rk w p lv ka kb ko kc V) (hf : Fit V) (s t : ByteArray) (hs : s.size ≤ maxLen) (off : Int) (ht : t.size ≤ 140737488355328) (htot : tot V.L ≤ 4611686018427387904) :
    Calls Tryz.prog 127 #[.pointer (some ⟨p, 0, none⟩), .string s, .int .i64 off, .string t] w fun e w' => e = .returned (.int .i64 (rwr V s.data.toList off t.data.toList).2) ∧ RLeft w w' p lv kb V (rwr V s.data.toList off t.data.toList).1 := by
  obtain ⟨c0, _, _, _, _, _, _, c7⟩ := h.cells
  unfold rwr
  rw [size_list]
  cases ho : V.out
  · rw [ho] at c7
    rw [if_neg (by decide)]
    obtain ⟨nb, hnb⟩ : ∃ a : ByteArray, ⟨(fget V.L s.data.toList).now.toArray⟩ = a := ⟨_, rfl⟩
    obtain ⟨sb, hsb⟩ : ∃ a : ByteArray, ⟨(fget V.L s.data.toList).syn.toArray⟩ = a := ⟨_, rfl⟩
    have hn1 : nb.data.toList = (fget V.L s.data.toList).now := by rw [← hnb]
    have hs1 : sb.data.toList = (fget V.L s.data.toList).syn := by rw [← hsb]
    have hz : nb.size = (fget V.L s.data.toList).now.length := by rw [← size_list, hn1]
    have hz1 : nb.size ≤ 268435456 := by rw [hz]; exact (fget_sz h _).1
    have hz2 : sb.size ≤ 268435456 := by rw [← size_list, hs1]; exact (fget_sz h _).2
    have HG := hide (rget_any w h s nb sb hnb hsb)
    have HR : Hid (∀ W, Below w.heap.size w W → RLeft w W p lv kb V V) := fun W hW => RLeft.same h hW
    by_cases hbad : off < 0 ∨ ((fget V.L s.data.toList).now.length : Int) < off ∨ 268435456 - off < (t.size : Int)
    · rw [if_pos hbad]
      rw [← hz] at hbad
      clear h hf hs hnb hsb hn1 hs1 hz hz2 ho c0
      go_enter Tryz.func127, Tryz.ntmps127
      go_upto_region 4 with (go_at_call 79; (with_reducible refine HG.out.mono ?_); rintro e w1 ⟨rfl, u1⟩)
      have k1 := new1 w1 (.cells #[.string s, .string nb, .string sb] 59)
      have HZ := hide (HR.out _ (bal u1 (.cells #[.string s, .string nb, .string sb] 59)))
      obtain ⟨w2, hw2⟩ : ∃ W, w1.alloc (.cells #[.string s, .string nb, .string sb] 59) = W := ⟨_, rfl⟩
      rw [hw2] at k1 HZ ⊢
      obtain ⟨x0, x1, x2⟩ := three_at k1
      clear hw2 k1 u1 c7
      by_cases hb0 : off < 0
      · clear hbad
        go_wp2
        go_ret
        exact ⟨rfl, HZ.out⟩
      · by_cases hb1 : (nb.size : Int) < off
        · clear hbad
          go_wp2
          go_ret
          exact ⟨rfl, HZ.out⟩
        · have hb2 : 268435456 - off < (t.size : Int) := by omega
          have hw : IntKind.i64.wrap (268435456 - off) = 268435456 - off := by rw [IntKind.wrap_i64]; omega
          clear hbad
          go_wp2
          go_ret
          exact ⟨rfl, HZ.out⟩
    · rw [if_neg hbad]
      obtain ⟨o, rfl⟩ : ∃ o : Nat, off = (o : Int) := ⟨off.toNat, by omega⟩
      rw [show ((o : Int)).toNat = o from rfl, ← hz]
      rw [← hz] at hbad
      have hb0 : ¬ ((o : Int) < 0) := by omega
      have hb1 : ¬ ((nb.size : Int) < (o : Int)) := by omega
      have hb2 : ¬ (268435456 - (o : Int) < (t.size : Int)) := by omega
      have hw : IntKind.i64.wrap (268435456 - (o : Int)) = 268435456 - (o : Int) := by rw [IntKind.wrap_i64]; omega
      obtain ⟨ot, hot⟩ : ∃ m, o + t.size = m := ⟨_, rfl⟩
      have hw1 : IntKind.i64.wrap ((o : Int) + (t.size : Int)) = (ot : Int) := by rw [IntKind.wrap_i64]; omega
      obtain ⟨mo, hmo⟩ : ∃ m : Int, (o : Int) + (t.size : Int) - (nb.size : Int) = m := ⟨_, rfl⟩
      have hw2 : IntKind.i64.wrap ((ot : Int) - (nb.size : Int)) = mo := by rw [IntKind.wrap_i64]; omega
      rw [hmo]
      have HU : Hid (∀ W, Below w.heap.size w W → Calls Tryz.prog 147 #[.pointer (some ⟨p, 0, none⟩)] W fun e w' => e = .returned (.int .i64 (tot V.L : Int)) ∧ w' = W) := fun W hW => rused_any W (h.next hW) htot
      have HC0 : Hid (∀ W, Below w.heap.size w W → W.cell? ⟨p, 0, none⟩ = some (.int .i64 (V.room : Int))) := fun W hW => (h.next hW).cells.1
      obtain ⟨tt, htt⟩ : ∃ t, tot V.L = t := ⟨_, rfl⟩
      obtain ⟨rm, hrm⟩ : ∃ r, V.room = r := ⟨_, rfl⟩
      rw [htt] at HU ⊢
      rw [hrm] at HC0 ⊢
      have hw3 : IntKind.i64.wrap ((tt : Int) + mo) = (tt : Int) + mo := by rw [IntKind.wrap_i64]; omega
      have HAct : Hid (∀ (y : ByteArray), y.size ≤ 268435456 → ∀ W, Below w.heap.size w W → Calls Tryz.prog 120 #[.pointer (some ⟨p, 0, none⟩), .agg #[.string s, .string y, .string sb]] W fun e w' => e = .returned (.int .i64 (ract V s.data.toList ⟨y.data.toList, sb.data.toList⟩).2) ∧ RLeft w w' p lv kb V (ract V s.data.toList ⟨y.data.toList, sb.data.toList⟩).1) := fun y hy W hW => ract_at h hf ho s y sb hs hy hz2 W hW
      have HN : Hid (nb.data.toList = (fget V.L s.data.toList).now ∧ sb.data.toList = (fget V.L s.data.toList).syn ∧ o ≤ nb.size ∧ nb.size ≤ 268435456 ∧ o + t.size = ot ∧ ot ≤ 268435456) := ⟨hn1, hs1, by omega, hz1, hot, by omega⟩
      clear h hf hs hnb hsb hn1 hs1 hz hz2 ho htot htt hrm hmo hbad c0
      go_enter Tryz.func127, Tryz.ntmps127
      go_upto_region 4 with (go_at_call 79; (with_reducible refine HG.out.mono ?_); rintro e w1 ⟨rfl, u1⟩)
      have k1 := new1 w1 (.cells #[.string s, .string nb, .string sb] 59)
      have u2 : Below w.heap.size w (w1.alloc (.cells #[.string s, .string nb, .string sb] 59)) := bal u1 _
      obtain ⟨w2, hw2'⟩ : ∃ W, w1.alloc (.cells #[.string s, .string nb, .string sb] 59) = W := ⟨_, rfl⟩
      rw [hw2'] at k1 u2 ⊢
      obtain ⟨bf, hbf⟩ : ∃ b, w1.heap.size = b := ⟨_, rfl⟩
      rw [hbf] at k1 ⊢
      have HB : Hid (w2.heap[bf]? = some (.cells #[.string s, .string nb, .string sb] 59 (0, 0)) ∧ Below w.heap.size w w2 ∧ w.heap.size ≤ bf) := ⟨k1, u2, by rw [← hbf]; exact u1.size⟩
      obtain ⟨x0, x1, x2⟩ := three_at k1
      have c0 := HC0.out w2 u2
      have HUq : Hid (∀ t, Calls Tryz.prog 147 #[.pointer (some ⟨p, 0, none⟩)] (w2.drewN t) fun e w' => e = .returned (.int .i64 (tt : Int)) ∧ w' = w2.drewN t) := fun t => HU.out _ (below_drewN u2 t)
      clear hw2' hbf k1 u1 u2 c7 HG HU
      go_upto_region 8 with (fail)
      go_cut [55] from 13 to 80 (fun v wx => v = .bool (decide (0 < mo ∧ (rm : Int) < (tt : Int) + mo)) ∧ Hid (Below w2.heap.size w2 wx))
      case first =>
        by_cases hm0 : 0 < mo
        · have hm1 : mo > 0 := hm0
          have hdc : decide (0 < mo ∧ (rm : Int) < (tt : Int) + mo) = decide ((rm : Int) < (tt : Int) + mo) := by simp [hm0]
          have HD := hide hdc
          clear hdc
          go_quiet (first | (go_at_call 147; refine Calls.quiet_of_same (HUq.out _)))
          go_wp2
          go_meet
          case rel =>
            go_light
            exact ⟨by rw [HD.out], below_drewN (Below.refl _ _) _⟩
        · have hm1 : ¬ (mo > 0) := hm0
          have hdc : decide (0 < mo ∧ (rm : Int) < (tt : Int) + mo) = false := by simp [hm0]
          have HD := hide hdc
          clear hdc
          go_quiet (fail)
          go_wp2
          go_meet
          case rel =>
            go_light
            exact ⟨by rw [HD.out], below_drewN (Below.refl _ _) _⟩
      case rest =>
      obtain ⟨rfl, HBc⟩ := hcut
      obtain ⟨w3, hw3⟩ : ∃ W, W = wc := ⟨_, rfl⟩
      subst hw3
      have k3 : w3.heap[bf]? = some (.cells #[.string s, .string nb, .string sb] 59 (0, 0)) := (HBc.out.block bf (Array.getElem?_eq_some_iff.1 HB.out.1).1).trans HB.out.1
      have u3 : Below w.heap.size w w3 := bnext HB.out.2.1 HBc.out
      clear x0 x1 x2 c0
      obtain ⟨x0, x1, x2⟩ := three_at k3
      by_cases hrm : 0 < mo ∧ (rm : Int) < (tt : Int) + mo
      · rw [decide_eq_true hrm]
        have HRm := hide hrm
        have HZ := hide (HR.out w3 u3)
        clear k3 u3 HBc HB HAct HN hrm
        go_wp2
        go_ret
        all_goals first | exact ⟨rfl, HZ.out⟩ | exact absurd HRm.out (by assumption)
      · rw [decide_eq_false hrm]
        have HRm := hide hrm
        obtain ⟨q1, q2, q3, q4, q5, q6⟩ := HN.out
        obtain ⟨re, hre⟩ : ∃ r : ByteArray, ⟨(nb.data.toList.drop ot).toArray⟩ = r := ⟨_, rfl⟩
        have hre1 : re.data.toList = nb.data.toList.drop ot := by rw [← hre]
        have hre2 : re.size = nb.size - ot := by rw [← size_list, hre1, List.length_drop, size_list]
        obtain ⟨xa, hxa⟩ : ∃ a, nb.extract 0 o = a := ⟨_, rfl⟩
        have hxa1 : xa.data.toList = nb.data.toList.take o := by rw [← hxa, ext_take]
        have hxa2 : xa.size = o := by rw [← size_list, hxa1, List.length_take, size_list]; omega
        obtain ⟨y1, hy1⟩ : ∃ a, xa ++ t = a := ⟨_, rfl⟩
        have hy1s : y1.size = ot := by rw [← hy1, ByteArray.size_append]; omega
        obtain ⟨y2, hy2⟩ : ∃ a, y1 ++ re = a := ⟨_, rfl⟩
        have hy2s : y2.size ≤ 268435456 := by rw [← hy2, ByteArray.size_append]; omega
        have hy2l : y2.data.toList = Go.Proofs.YthfnpagangjpbabGreat.wr (fget V.L s.data.toList).now o t.data.toList := by
          rw [← hy2, ← hy1]
          unfold Go.Proofs.YthfnpagangjpbabGreat.wr
          rw [← q1, size_list, q5, ← hxa1, ← hre1]
          simp [ByteArray.data_append]
        have hcc1 : ¬ (9223372036854775807 < xa.size + t.size) := by omega
        have hcc2 : ¬ (9223372036854775807 < y1.size + re.size) := by omega
        have fz1 := frozen_of_row w3 bf 1 _ _ k3
        have k4 := heap_setCell_same w3 bf 1 _ _ (.string y2) k3
        have u4 : Below w.heap.size w (w3.setCell ⟨bf, 1, none⟩ (.string y2)) := u3.setCell HB.out.2.2 _
        obtain ⟨w4, hw4⟩ : ∃ W, w3.setCell ⟨bf, 1, none⟩ (.string y2) = W := ⟨_, rfl⟩
        rw [hw4] at k4 u4
        have HW4 := hide hw4
        obtain ⟨z0, z1, z2⟩ := three_at (show w4.heap[bf]? = some (.cells #[.string s, .string y2, .string sb] 59 (0, 0)) from k4)
        have HA4 := hide (HAct.out y2 hy2s w4 u4)
        rw [hy2l, q2] at HA4
        have ho2 : (o : Int) ≤ (nb.size : Int) := by omega
        have ho3 : (0 : Int) ≤ (o : Int) := by omega
        have HRe : Hid (re.data.toList = nb.data.toList.drop ot ∧ ot ≤ 268435456 ∧ nb.size ≤ 268435456) := ⟨hre1, q6, q4⟩
        clear hrm hre hre1 hre2 hxa1 hxa2 hy1s hy2s hy2l hw4 k3 k4 u3 u4 q1 q2 q3 q4 q5 q6 HBc HAct HR
        go_upto_if 61 with (fail)
        go_cut [12] from 13 to 80 (fun v wx => v = .string re ∧ wx = w3)
        case first =>
          by_cases hlt : ot < nb.size
          · have hl1 : (ot : Int) < (nb.size : Int) := by omega
            have hl2 : (ot : Int) ≤ (nb.size : Int) := by omega
            have hl3 : (0 : Int) ≤ (ot : Int) := by omega
            have hex : nb.extract ot nb.size = re := ba_ext (by rw [ext_drop, HRe.out.1])
            go_wp2
            go_meet
            case rel => exact ⟨by first | rfl | (rw [hex]), rfl⟩
          · have hl1 : ¬ ((ot : Int) < (nb.size : Int)) := by omega
            have hex : (⟨#[]⟩ : ByteArray) = re := ba_ext (by rw [HRe.out.1, List.drop_of_length_le (by rw [size_list]; omega)])
            go_wp2
            go_meet
            case rel => exact ⟨by first | rfl | (rw [← hex]), rfl⟩
        case rest =>
        obtain ⟨rfl, hwc⟩ := hcut
        rw [hwc]
        clear hwc wc
        go_upto_region 14 with (fail)
        rw [HW4.out]
        clear x0 x1 x2 fz1
        go_wp2_with (go_at_call 120; (with_reducible refine HA4.out.mono ?_); rintro e w5 ⟨rfl, r5⟩)
        go_ret
        all_goals first | exact ⟨rfl, r5⟩ | exact absurd (by assumption) HRm.out
  · rw [ho] at c7
    rw [if_pos rfl]
    have HR := hide (RLeft.same h (Below.refl _ _))
    clear h hf ho
    go_enter Tryz.func127, Tryz.ntmps127
    go_wp2
    go_ret
    exact ⟨rfl, HR.out⟩
end
end Go.Proofs.YthfnpagangjpbabGreat
namespace Go.Proofs.YthfnpagangjpbabGreat
open Go.RowKit
attribute [local go_sem ↓] exec_appR
section
variable {p : Nat} {lv : Value} {ka : Option Addr} {kb ko kc : Nat} {V : RV}
def rrd (V : RV) (s : List UInt8) (off q : Int) : List UInt8 × Int :=
  if V.out then ([], 170) else if off < 0 ∨ q < 0 ∨ ((fget V.L s).now.length : Int) < off ∨ ((fget V.L s).now.length : Int) - off < q then ([], 173) else (((fget V.L s).now.drop off.toNat).take q.toNat, 0)
set_option maxRecDepth 100000 in
set_option maxHeartbeats 4000000 in
theorem rread_any (w : World) (h : Rk w p lv ka kb ko kc V) (s : ByteArray) (off q : Int) (ho1 : -9223372036854775808 ≤ off) (ho2 : off ≤ 9223372036854775807) (r : ByteArray) (hr : (⟨(rrd V s.data.toList off q).1.toArray⟩ : ByteArray) = r) :
    Calls Tryz.prog 32 #[.pointer (some ⟨p, 0, none⟩), .string s, .int .i64 off, .int .i64 q] w fun e w' => e = .returned (.tuple #[.string r, .int .i64 (rrd V s.data.toList off q).2]) ∧ Below w.heap.size w w' := by
  obtain ⟨_, _, _, _, _, _, _, c7⟩ := h.cells
  unfold rrd at hr ⊢
  cases ho : V.out
  · rw [ho] at c7 hr
    rw [if_neg (by decide)] at hr ⊢
    obtain ⟨nb, hnb⟩ : ∃ a : ByteArray, ⟨(fget V.L s.data.toList).now.toArray⟩ = a := ⟨_, rfl⟩
    obtain ⟨sb, hsb⟩ : ∃ a : ByteArray, ⟨(fget V.L s.data.toList).syn.toArray⟩ = a := ⟨_, rfl⟩
    have hn1 : nb.data.toList = (fget V.L s.data.toList).now := by rw [← hnb]
    have hz : nb.size = (fget V.L s.data.toList).now.length := by rw [← size_list, hn1]
    have hz1 : nb.size ≤ 268435456 := by rw [hz]; exact (fget_sz h _).1
    have HG := hide (rget_any w h s nb sb hnb hsb)
    rw [← hz] at hr ⊢
    by_cases hbad : off < 0 ∨ q < 0 ∨ (nb.size : Int) < off ∨ (nb.size : Int) - off < q
    · rw [if_pos hbad] at hr ⊢
      obtain rfl : (⟨#[]⟩ : ByteArray) = r := hr
      clear h hnb hsb hn1 hz ho
      go_enter Tryz.func32, Tryz.ntmps32
      go_upto_region 4 with (go_at_call 79; (with_reducible refine HG.out.mono ?_); rintro e w1 ⟨rfl, u1⟩)
      have k1 := new1 w1 (.cells #[.string s, .string nb, .string sb] 59)
      have HZ := hide (bal u1 (.cells #[.string s, .string nb, .string sb] 59))
      obtain ⟨w2, hw2⟩ : ∃ W, w1.alloc (.cells #[.string s, .string nb, .string sb] 59) = W := ⟨_, rfl⟩
      rw [hw2] at k1 HZ ⊢
      obtain ⟨x0, x1, x2⟩ := three_at k1
      clear hw2 k1 u1 c7
      by_cases hb0 : off < 0
      · clear hbad
        go_wp2
        go_ret2
        exact ⟨rfl, HZ.out⟩
      · by_cases hb1 : q < 0
        · clear hbad
          go_wp2
          go_ret2
          exact ⟨rfl, HZ.out⟩
        · by_cases hb2 : (nb.size : Int) < off
          · clear hbad
            go_wp2
            go_ret2
            exact ⟨rfl, HZ.out⟩
          · have hb3 : (nb.size : Int) - off < q := by omega
            have hw : IntKind.i64.wrap ((nb.size : Int) - off) = (nb.size : Int) - off := by rw [IntKind.wrap_i64]; omega
            clear hbad
            go_wp2
            go_ret2
            exact ⟨rfl, HZ.out⟩
    · rw [if_neg hbad] at hr ⊢
      obtain ⟨o, rfl⟩ : ∃ o : Nat, off = (o : Int) := ⟨off.toNat, by omega⟩
      obtain ⟨m, rfl⟩ : ∃ o : Nat, q = (o : Int) := ⟨q.toNat, by omega⟩
      have hb0 : ¬ ((o : Int) < 0) := by omega
      have hb1 : ¬ ((m : Int) < 0) := by omega
      have hb2 : ¬ ((nb.size : Int) < (o : Int)) := by omega
      have hb3 : ¬ ((nb.size : Int) - (o : Int) < (m : Int)) := by omega
      have hw : IntKind.i64.wrap ((nb.size : Int) - (o : Int)) = (nb.size : Int) - (o : Int) := by rw [IntKind.wrap_i64]; omega
      obtain ⟨om, hom⟩ : ∃ k, o + m = k := ⟨_, rfl⟩
      have hw2 : IntKind.i64.wrap ((o : Int) + (m : Int)) = (om : Int) := by rw [IntKind.wrap_i64]; omega
      have h1 : (0 : Int) ≤ (o : Int) := by omega
      have h2 : (o : Int) ≤ (om : Int) := by omega
      have h3 : (om : Int) ≤ (nb.size : Int) := by omega
      have hex : nb.extract o om = r := by
        rw [← hr, ← hn1]
        apply ba_ext
        rw [ByteArray.data_extract, Array.toList_extract]
        simp only [List.extract]
        show _ = List.take m (List.drop o nb.data.toList)
        rw [show om - o = m by omega]
      clear h hnb hsb hn1 hz ho hbad hr hom
      go_enter Tryz.func32, Tryz.ntmps32
      go_upto_region 4 with (go_at_call 79; (with_reducible refine HG.out.mono ?_); rintro e w1 ⟨rfl, u1⟩)
      have k1 := new1 w1 (.cells #[.string s, .string nb, .string sb] 59)
      have HZ := hide (bal u1 (.cells #[.string s, .string nb, .string sb] 59))
      obtain ⟨w2, hw2'⟩ : ∃ W, w1.alloc (.cells #[.string s, .string nb, .string sb] 59) = W := ⟨_, rfl⟩
      rw [hw2'] at k1 HZ ⊢
      obtain ⟨x0, x1, x2⟩ := three_at k1
      clear hw2' k1 u1 c7
      go_wp2
      go_ret2
      exact ⟨rfl, HZ.out⟩
  · rw [ho] at c7 hr
    rw [if_pos rfl] at hr ⊢
    obtain rfl : (⟨#[]⟩ : ByteArray) = r := hr
    clear h ho
    go_enter Tryz.func32, Tryz.ntmps32
    go_wp2
    go_ret2
    exact ⟨rfl, Below.refl _ _⟩
set_option maxRecDepth 100000 in
set_option maxHeartbeats 4000000 in
theorem rafter_any (w : World) (h : Rk w p lv ka kb ko kc V) (hn : V.L.length ≤ 1073741824) (qa : Option Addr) (qb qo qc : Nat) (ks : List Bool) (hk : RdL w qa qb qo ks) (hkl : ks.length ≤ 140737488355328) :
    Calls Tryz.prog 50 #[.pointer (some ⟨p, 0, none⟩), .slice qa ks.length qc] w fun e w' => ∃ v, e = .returned v ∧ OwnF w' w.heap.size v (raf V ks) ∧ Below w.heap.size w w' := by
  unfold raf
  cases ho : V.out
  · rw [if_neg (by decide)]
    exact rafter_on w h hn ho qa qb qo qc ks hk hkl
  · rw [if_pos rfl]
    obtain ⟨_, _, _, _, _, _, _, c7⟩ := h.cells
    rw [ho] at c7
    have HF := hide (rfiles_any w h)
    obtain ⟨kl, hkl2⟩ : ∃ n, ks.length = n := ⟨_, rfl⟩
    rw [hkl2]
    clear h hn hk hkl hkl2 ho
    go_enter Tryz.func50, Tryz.ntmps50
    go_wp2_with (go_at_call 48; (with_reducible refine HF.out.mono ?_); rintro e w1 ⟨v, rfl, o1, u1⟩)
    go_ret
    exact ⟨_, rfl, o1, u1⟩
end
end Go.Proofs.YthfnpagangjpbabGreat
