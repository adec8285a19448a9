/-
  FilesOpens: the walk. Own work.
-/
import Derived.Test.YthfnpagangjpbabGreatZ57
namespace Go.Proofs.YthfnpagangjpbabGreat
open Go.RowKit
open Rc
attribute [local go_sem ↓] Go.wp_at_zero Go.wp_at_succ
attribute [local go_sem ↓] exec_appR
theorem ownF_set {w : World} {B bo i : Nat} {v : Value} {l : LF} (x : Value) (h : OwnF w B v l) (hb : ∀ g, v.ownBlock = some g → g ≠ bo) : OwnF (w.setCell ⟨bo, i, none⟩ x) B v l := row_keep h fun g hg => Below.heap_setCell _ _ _ _ (hb g hg)
set_option maxRecDepth 100000 in
set_option maxHeartbeats 8000000 in
theorem opens_walk (w : World) (k : Int) (ao : Option Addr) (b off cap : Nat) (l : LF) (hr : RdF w ao b off l) (hs : ∀ y ∈ l, y.1.length ≤ maxLen ∧ y.2.length ≤ maxLen) :
    Calls Tryz.prog 3 #[.int .i64 k, .slice ao l.length cap] w fun e w' => e = .returned (.bool true) ∧ Below w.heap.size w w' := by
  have HA := hide (falive_any w)
  obtain ⟨len, hlen⟩ : ∃ n, l.length = n := ⟨_, rfl⟩
  have HRd : Hid (∀ W, Below w.heap.size w W → RdF W ao b off l) := fun W hW => hr.next hW
  obtain ⟨L, hL⟩ : ∃ L, ofL (l.take 8) = L := ⟨_, rfl⟩
  obtain ⟨ll, hll⟩ : ∃ n, L.length = n := ⟨_, rfl⟩
  have hll8 : ll ≤ 8 := by rw [← hll, ← hL, ofL_len, List.length_take]; omega
  have hbyt : byt L ≤ 160000 := by
    have := ofL_byt (l.take 8)
    rw [hL] at this
    rw [List.length_take] at this
    omega
  have hnm : ∀ x ∈ L, x.1.length ≤ maxLen := fun x hx => by
    rw [← hL] at hx
    obtain ⟨y, hy, rfl⟩ := List.mem_map.1 hx
    exact (hs y (List.mem_of_mem_take hy)).1
  obtain ⟨D0, hD0⟩ : ∃ D, openD 16777216 L = D := ⟨_, rfl⟩
  obtain ⟨⟨D', so', ex⟩, hx⟩ : ∃ x, opnD D0 k = x := ⟨_, rfl⟩
  have HOp : Hid (∀ (w0 W : World) (bx p r : Nat), Bdk w0 W bx k p r D0 (.pointer none) (.pointer none) 8 → Calls Tryz.prog 8 #[.pointer (some ⟨bx, 0, none⟩), .int .i64 k] W fun e w' => e = .returned (.bool true) ∧ ∃ so, Bth w0 w' bx k p r D' so 14 ∧ so.map (·.2.2) = so') := fun w0 W bx p r hB => opens_any hB (by decide) k k (by split <;> rfl) _ hx
  have HBn : Hid (∀ (w0 w1 w2 : World) (p r : Nat) (S T : Nat → Prop), Rsk w1 r T (openR 16777216 L) → (∀ x, T x → w0.heap.size ≤ x) → Below w0.heap.size w0 w1 → Below w1.heap.size w1 w2 → Dsk w2 p S (openD 16777216 L) → (∀ x, S x → w1.heap.size ≤ x) → canL L → Bdk w0 (w2.alloc (.cells #[.int .i64 k, .pointer (some ⟨p, 0, none⟩), .pointer (some ⟨r, 0, none⟩), .pointer none, .pointer none] 37)) w2.heap.size k p r D0 (.pointer none) (.pointer none) 8) := fun w0 w1 w2 p r S T g1 g2 g3 g4 g5 g6 g7 => by
    rw [← hD0]
    exact bdk_new g1 g2 g3 g4 g5 g6 g7 (by omega) (by decide) (by omega) (by decide)
  have HRo : Hid (∀ (W : World) (a : Option Addr) (bb c : Nat), RdF W a bb 0 L → Calls Tryz.prog 6 #[.int .i64 16777216, .slice a ll c] W (RoQ W 16777216 L)) := fun W a bb c g => by
    have := ropen_any W 16777216 16777216 rfl (by decide) a bb 0 c L g hnm (by omega) (by omega)
    rw [hll] at this
    exact this
  have HDo : Hid (∀ (W : World) (a : Option Addr) (bb c : Nat), RdF W a bb 0 L → Calls Tryz.prog 7 #[.int .i64 16777216, .slice a ll c] W (OpP W 16777216 L)) := fun W a bb c g => by
    have := open_any W 16777216 16777216 rfl (by decide) a bb 0 c L g hnm (by omega)
    rw [hll] at this
    exact this
  have HLm : Hid (∀ S, so' = some S → S.lame = false) := fun S h => by
    rw [h] at hx
    exact (opn_lame hx).1
  have HL : Hid (ofL (l.take 8) = L ∧ L.length = ll ∧ byt L ≤ 160000 ∧ l.length = len) := ⟨hL, hll, hbyt, hlen⟩
  have hptr := hr.ptr
  rw [hlen] at hptr ⊢
  clear hr hs hlen hL hll hll8 hbyt hnm hD0 hx
  go_enter Tryz.func3, Tryz.ntmps3
  go_wp2_with (go_at_call 5; (with_reducible refine HA.out.mono ?_); rintro e w1 ⟨rfl, u1⟩)
  have HU1 := hide u1
  clear u1 HA
  go_loopg [5, 6] 8 (fun g v y wr => ∃ i : Nat, i ≤ 8 ∧ i ≤ len ∧ g = 8 - i ∧ y = .int .i64 (i : Int) ∧ Hid (OwnF wr w1.heap.size v (ofL (l.take i)) ∧ Below w1.heap.size w1 wr))
  case atStart =>
    go_light
    exact ⟨0, by omega, by omega, rfl, rfl, ⟨rfl, .inl ⟨rfl, rfl⟩⟩, Below.refl _ _⟩
  case round =>
    obtain ⟨i, hi8, hil, rfl, rfl, HW⟩ := hrel
    obtain ⟨va, vb, vc, hv, rdv, _, hown⟩ := ownF_rd' HW.out.1
    obtain ⟨ln, hln⟩ : ∃ n, (ofL (l.take i)).length = n := ⟨_, rfl⟩
    rw [hln] at hv
    by_cases hlt : i < 8 ∧ i < len
    · obtain ⟨hi2, hi3⟩ := hlt
      have hz1 : (i : Int) < (len : Int) := by omega
      have hz2 : (i : Int) < 8 := by omega
      have HI : Hid (i < 8 ∧ i < len) := ⟨hi2, hi3⟩
      subst hv
      have hrd := HRd.out wr (bnext HU1.out HW.out.2)
      have hlen := HL.out.2.2.2
      obtain ⟨⟨s, t⟩, hx⟩ : ∃ x, l.getD i ([], []) = x := ⟨_, rfl⟩
      have hx2 : l[i]? = some (s, t) := by
        rw [← hx, List.getD_eq_getElem?_getD, List.getElem?_eq_getElem (by omega)]; rfl
      have e0 := hrd.c0 i (by omega)
      have e1 := hrd.c1 i (by omega)
      rw [hx] at e0 e1
      simp only at e0 e1
      obtain rfl := hptr (by omega)
      have htk := ofL_take l i (s, t) hx2
      obtain ⟨sb, hsb⟩ : ∃ a : ByteArray, ⟨s.toArray⟩ = a := ⟨_, rfl⟩
      obtain ⟨tb, htb⟩ : ∃ a : ByteArray, ⟨t.toArray⟩ = a := ⟨_, rfl⟩
      obtain ⟨td, htd⟩ : ∃ a : ByteArray, ⟨(t.take 20000).toArray⟩ = a := ⟨_, rfl⟩
      rw [hsb] at e0
      rw [htb] at e1
      have htl : tb.data.toList = t := by rw [← htb]
      have htz : tb.size = t.length := by rw [← size_list, htl]
      have hex : tb.extract 0 20000 = td := by rw [ba_take, htl]; exact htd
      obtain ⟨bo, hbo⟩ : ∃ x, wr.heap.size = x := ⟨_, rfl⟩
      obtain ⟨w2, hw2⟩ : ∃ W, wr.alloc (.cells #[.string sb, .string tb] 25) = W := ⟨_, rfl⟩
      have u2 : Below wr.heap.size wr w2 := by rw [← hw2]; exact bal (Below.refl _ _) _
      have k2 : w2.heap[bo]? = some (.cells #[.string sb, .string tb] 25 (0, 0)) := by rw [← hw2, ← hbo]; exact new1 _ _
      obtain ⟨x0, x1⟩ := two_at' k2
      have f1 : w2.frozen? ⟨bo, 1, none⟩ = false := frozen_of_row w2 bo 1 _ _ k2
      have o2 := ownF_next HW.out.1 u2
      have hne : ∀ g, (Value.slice va ln vc).ownBlock = some g → g ≠ bo := fun g hg e => by
        have := (World.ownsRow.lt HW.out.1 g hg).2
        omega
      have b2 : Below w1.heap.size w1 w2 := bnext HW.out.2 u2
      have hbo1 : w1.heap.size ≤ bo := by rw [← hbo]; exact HW.out.2.size
      have HW2 := hide hw2
      have HBo := hide hbo
      have hw : IntKind.i64.wrap ((i : Int) + 1) = (i : Int) + 1 := by rw [IntKind.wrap_i64]; omega
      have hlnb : ln ≤ 8 := by rw [← hln, ofL_len, List.length_take]; omega
      by_cases hbig : 20000 < tb.size
      · have hb1 : (20000 : Int) < (tb.size : Int) := by omega
        have hb2 : (20000 : Int) ≤ (tb.size : Int) := by omega
        obtain ⟨w3, hw3⟩ : ∃ W, w2.setCell ⟨bo, 1, none⟩ (.string td) = W := ⟨_, rfl⟩
        have k3 : w3.heap[bo]? = some (.cells #[.string sb, .string td] 25 (0, 0)) := by rw [← hw3]; exact heap_setCell_same w2 bo 1 _ _ _ k2
        have o3 : OwnF w3 w1.heap.size (.slice va ln vc) (ofL (l.take i)) := by rw [← hw3]; exact ownF_set _ o2 hne
        have b3 : Below w1.heap.size w1 w3 := by rw [← hw3]; exact b2.setCell hbo1 _
        obtain ⟨y0, y1⟩ := two_at' k3
        obtain ⟨v4, w4, hrn, o4, b4⟩ := run_app_F1 w3 22 w1.heap.size _ _ o3 s (t.take 20000) (by omega) b3.size
        rw [← htk] at o4
        rw [hsb, htd] at hrn
        have hap := appR_of hrn
        have HZ : Hid (OwnF w4 w1.heap.size v4 (ofL (l.take (i + 1))) ∧ Below w1.heap.size w1 w4) := ⟨o4, b3.trans b4⟩
        have HW3 := hide hw3
        clear hrn o4 b4 o3 b3 k3 k2 o2 b2 u2 hw3 hw2 hbo hbo1 hne htk hx hx2 htl htz htb htd hsb hrd HW hi2 hi3 hi8 hil hlen hown rdv hln hlnb
        go_upto_region 8 with (fail)
        rw [HW2.out, HBo.out]
        go_upto_region 10 with (fail)
        rw [HW3.out]
        clear x0 x1 f1 e0 e1
        go_wp2
        clear hw
        go_roundg (8 - (i + 1))
        case rel =>
          go_light
          exact ⟨i + 1, HI.out.1, HI.out.2, rfl, by go_num, HZ.out⟩
        case measure => go_light; have := HI.out.1; omega
      · have hb1 : ¬ (20000 : Int) < (tb.size : Int) := by omega
        have htt : t.take 20000 = t := List.take_of_length_le (by omega)
        rw [htt] at htk
        obtain ⟨v4, w4, hrn, o4, b4⟩ := run_app_F1 w2 22 w1.heap.size _ _ o2 s t (by omega) b2.size
        rw [← htk] at o4
        rw [hsb, htb] at hrn
        have hap := appR_of hrn
        have HZ : Hid (OwnF w4 w1.heap.size v4 (ofL (l.take (i + 1))) ∧ Below w1.heap.size w1 w4) := ⟨o4, b2.trans b4⟩
        clear hrn o4 b4 k2 o2 b2 u2 hw2 hbo hbo1 hne htk hx hx2 htl htz htb htd hsb hrd HW hi2 hi3 hi8 hil hlen hown rdv hex f1 hln hlnb htt
        go_upto_region 8 with (fail)
        rw [HW2.out, HBo.out]
        clear e0 e1
        go_wp2
        clear hw
        go_roundg (8 - (i + 1))
        case rel =>
          go_light
          exact ⟨i + 1, HI.out.1, HI.out.2, rfl, by go_num, HZ.out⟩
        case measure => go_light; have := HI.out.1; omega
    · have hLi : ofL (l.take i) = L := by
        rw [← HL.out.1]
        rcases Nat.lt_or_ge i 8 with e | e
        · have : i = l.length := by have := HL.out.2.2.2; omega
          rw [this, List.take_length, List.take_of_length_le (by omega)]
        · rw [show i = 8 by omega]
      have hln2 : ln = ll := by rw [← hln, hLi, HL.out.2.1]
      rw [hLi] at rdv
      subst hln2
      subst hv
      have HRo2 := hide (HRo.out wr va vb vc rdv)
      have HDo2 : Hid (∀ W, Below wr.heap.size wr W → Calls Tryz.prog 7 #[.int .i64 16777216, .slice va ln vc] W (OpP W 16777216 L)) := fun W hW => HDo.out W va vb vc (rdv.next hW)
      have HB0 : Hid (Below w.heap.size w wr) := bnext HU1.out HW.out.2
      have hby := HL.out.2.2.1
      have HLt : Hid (¬ (i < 8 ∧ i < len) ∧ i ≤ 8 ∧ i ≤ len) := ⟨hlt, hi8, hil⟩
      clear hln hLi hown rdv HW HU1 HRo HDo HRd hptr hlt hi8 hil
      by_cases hcan : canL L
      · have HRo3 : Hid (Calls Tryz.prog 6 #[.int .i64 16777216, .slice va ln vc] wr fun e w' => ∃ r T, e = .returned (.tuple #[.pointer (some ⟨r, 0, none⟩), .int .i64 0]) ∧ Rsk w' r T (openR 16777216 L) ∧ (∀ x, T x → wr.heap.size ≤ x) ∧ Below wr.heap.size wr w') := HRo2.out.mono fun e w' q => by
          rcases q with ⟨h0, _⟩ | ⟨_, h0, _⟩ | ⟨_, _, h2, p, S, h1, h3, h4⟩
          · exact absurd hcan h0
          · omega
          · exact ⟨p, S, h1, h3, h4, h2⟩
        have HDo3 : Hid (∀ W, Below wr.heap.size wr W → Calls Tryz.prog 7 #[.int .i64 16777216, .slice va ln vc] W fun e w' => ∃ p S, e = .returned (.tuple #[.pointer (some ⟨p, 0, none⟩), .int .i64 0]) ∧ Dsk w' p S (openD 16777216 L) ∧ (∀ x, S x → W.heap.size ≤ x) ∧ Below W.heap.size W w') := fun W hW => (HDo2.out W hW).mono fun e w' q => by
          rcases q with ⟨h0, _⟩ | ⟨_, h0, _⟩ | ⟨_, _, h2, p, S, h1, h3, h4⟩
          · exact absurd hcan h0
          · omega
          · exact ⟨p, S, h1, h3, h4, h2⟩
        have HBn2 := hide (fun w1 w2 p r S T g1 g2 g3 g4 g5 g6 => HBn.out wr w1 w2 p r S T g1 g2 g3 g4 g5 g6 hcan)
        have HOp2 := hide (HOp.out wr)
        clear HRo2 HDo2 HBn hcan hby HL HOp
        have hcd : ((i : Int) < (len : Int) ∧ ¬ (i : Int) < 8) ∨ ¬ (i : Int) < (len : Int) := by have := HLt.out; omega
        clear HLt
        rcases hcd with ⟨hc1, hc2⟩ | hc1
        all_goals
          go_upto_region 18 with (first
            | (go_at_call 6; (with_reducible refine HRo3.out.mono ?_); rintro e w3 ⟨r, T, rfl, hrr, hT, u3⟩)
            | (go_at_call 7; (with_reducible refine (HDo3.out _ u3).mono ?_); rintro e w4 ⟨p, S0, rfl, hd, hS, u4⟩))
          have tb := HBn2.out _ _ _ _ _ _ hrr hT u3 u4 hd hS
          obtain ⟨bx, hbx⟩ : ∃ x, w4.heap.size = x := ⟨_, rfl⟩
          rw [hbx] at tb ⊢
          generalize w4.alloc (.cells #[.int .i64 k, .pointer (some ⟨p, 0, none⟩), .pointer (some ⟨r, 0, none⟩), .pointer none, .pointer none] 37) = w5 at *
          clear hbx hrr hT u3 u4 hd hS HRo3 HDo3 HBn2
          go_upto_region 19 with (go_at_call 8; (with_reducible refine (HOp2.out _ _ _ _ tb).mono ?_); rintro e w6 ⟨rfl, so, t6, hso⟩)
          cases so with
          | none =>
            have HZ : Hid (Below w.heap.size w w6) := by
              obtain ⟨_, _, _, _, _, _, _, _, _, _, _, g, _⟩ := t6
              exact bnext HB0.out g
            have x4 : w6.cell? ⟨bx, 4, none⟩ = some (.pointer none) := by
              obtain ⟨_, _, _, g, _⟩ := t6
              exact (five_at g).2.2.2.2
            clear t6 tb HOp2 HLm hso HB0
            go_wp2
            go_ret
            exact ⟨rfl, HZ.out⟩
          | some z =>
            obtain ⟨a, c, S⟩ := z
            have hlm : S.lame = false := HLm.out S hso.symm
            have HZ : Hid (∀ W, Below w6.heap.size w6 W → Below w.heap.size w W) := fun W hW => by
              obtain ⟨_, _, _, _, _, _, _, _, _, _, _, g, _⟩ := t6
              exact bnext (bnext HB0.out g) hW
            have HC : Hid (∀ W, Below w6.heap.size w6 W → W.cell? ⟨bx, 3, none⟩ = some (.pointer (some ⟨a, 0, none⟩)) ∧ W.cell? ⟨bx, 4, none⟩ = some (.pointer (some ⟨c, 0, none⟩))) := fun W hW => t6.cells W hW
            obtain ⟨n, hn⟩ : ∃ n, S.ends.length = n := ⟨_, rfl⟩
            have hn6 : n ≤ 65536 := by rw [← hn]; exact (t6.sizes w6 (Below.refl _ _)).2.2.2.2
            have HIt : Hid (∀ (i : Nat), i ≤ 65537 → ∃ (ti : ByteArray) (ei : Int) (tn : ByteArray) (en : Int), ∀ (W : World), Below w6.heap.size w6 W → (Calls Tryz.prog 10 #[.pointer (some ⟨a, 0, none⟩), .int .u64 (i : Int)] W fun e' w' => e' = .returned (.tuple #[.string ti, .int .i64 ei]) ∧ Below W.heap.size W w') ∧ (Calls Tryz.prog 11 #[.pointer (some ⟨c, 0, none⟩), .int .u64 (i : Int)] W fun e' w' => e' = .returned (.tuple #[.string ti, .int .i64 ei]) ∧ Below W.heap.size W w') ∧ (Calls Tryz.prog 12 #[.pointer (some ⟨a, 0, none⟩), .int .u64 (i : Int)] W fun e' w' => e' = .returned (.tuple #[.string tn, .int .i64 en]) ∧ Below W.heap.size W w') ∧ Calls Tryz.prog 13 #[.pointer (some ⟨c, 0, none⟩), .int .u64 (i : Int)] W fun e' w' => e' = .returned (.tuple #[.string tn, .int .i64 en]) ∧ Below W.heap.size W w') := fun i hi => ⟨_, _, _, _, fun W hW => ⟨(t6.item W hW i (by omega) _ _ rfl rfl).1, (t6.item W hW i (by omega) _ _ rfl rfl).2, (t6.node W hW i (by omega) _ _ rfl rfl).1, (t6.node W hW i (by omega) _ _ rfl rfl).2⟩⟩
            have HS2 : Hid (∀ W, Below w6.heap.size w6 W → Calls Tryz.prog 9 #[.pointer (some ⟨c, 0, none⟩)] W fun e' w' => e' = .returned (.int .u64 (n : Int)) ∧ w' = W) := fun W hW => by
              have := (t6.sizes W hW).2.1
              rw [hn] at this
              exact this
            have HS1 : Hid (∀ W, Below w6.heap.size w6 W → Calls Tryz.prog 14 #[.pointer (some ⟨a, 0, none⟩)] W fun e' w' => e' = .returned (.int .u64 (n : Int)) ∧ w' = W) := fun W hW => by
              have := (t6.sizes W hW).1
              rw [hn] at this
              exact this
            have HLa : Hid (∀ W, Below w6.heap.size w6 W → Calls Tryz.prog 15 #[.pointer (some ⟨a, 0, none⟩)] W fun e' w' => e' = .returned (.bool false) ∧ w' = W) := fun W hW => by
              have := (t6.sizes W hW).2.2.1
              rw [hlm] at this
              exact this
            obtain ⟨n1, hn1⟩ : ∃ m, n + 1 = m := ⟨_, rfl⟩
            have HEw : Hid (IntKind.u64.wrap ((n : Int) + 1) = (n1 : Int)) := by show _ = _; rw [wrap_u _ (by omega) (by omega)]; omega
            have HN1 : Hid (n + 1 = n1 ∧ n ≤ 65536) := ⟨hn1, hn6⟩
            obtain ⟨x3, x4⟩ := HC.out w6 (Below.refl _ _)
            clear t6 tb HOp2 HLm hso HB0 hlm hn hn6 hn1
            go_wp2
            go_loopg [14] (n1 + 1) (fun g y wr => ∃ i : Nat, i ≤ n1 + 1 ∧ g = n1 + 1 - i ∧ y = .int .u64 (i : Int) ∧ Hid (Below w6.heap.size w6 wr))
            case atStart =>
              go_light
              exact ⟨0, Nat.zero_le _, rfl, rfl, Below.refl _ _⟩
            case round =>
              obtain ⟨i, hi, rfl, rfl, HW⟩ := hrel
              clear x3 x4
              obtain ⟨x3, x4⟩ := HC.out _ HW.out
              by_cases hlt : i ≤ n1
              · have hz : (i : Int) ≤ (n1 : Int) := by omega
                have HI := hide hlt
                obtain ⟨i1, hi1⟩ : ∃ m, i + 1 = m := ⟨_, rfl⟩
                have HE2 : Hid (IntKind.u64.wrap ((i : Int) + 1) = (i1 : Int)) := by have := HN1.out; show _ = _; rw [wrap_u _ (by omega) (by omega)]; omega
                have HI1 := hide hi1
                obtain ⟨ti, ei, tn, en, hit⟩ := HIt.out i (by have := HN1.out; omega)
                have HQ := hide hit
                have ew1 := HEw.out
                have ew2 := HE2.out
                clear hit hlt hi hi1
                have u := HW.out
                go_wp2_with (first
                  | (go_at_call 9; (with_reducible refine (HS2.out _ u).mono ?_); rintro e wq ⟨rfl, rfl⟩)
                  | (go_at_call 10; (with_reducible refine (HQ.out _ u).1.mono ?_); rintro e wi ⟨rfl, v⟩; have ui := bnext u v; obtain ⟨x3, x4⟩ := HC.out _ ui)
                  | (go_at_call 11; (with_reducible refine (HQ.out _ ui).2.1.mono ?_); rintro e wj ⟨rfl, v⟩; have uj := bnext ui v; obtain ⟨x3, x4⟩ := HC.out _ uj)
                  | (go_at_call 12; (with_reducible refine (HQ.out _ uj).2.2.1.mono ?_); rintro e wk ⟨rfl, v⟩; have uk := bnext uj v; obtain ⟨x3, x4⟩ := HC.out _ uk)
                  | (go_at_call 13; (with_reducible refine (HQ.out _ uk).2.2.2.mono ?_); rintro e wl ⟨rfl, v⟩; have ul := bnext uk v; obtain ⟨x3, x4⟩ := HC.out _ ul))
                clear ew1 ew2
                go_roundg (n1 + 1 - (i + 1))
                case rel =>
                  go_light
                  exact ⟨i + 1, by have := HI.out; omega, rfl, by rw [← HI1.out], ul⟩
                case measure => go_light; have := HI.out; omega
              · have hz : ¬ (i : Int) ≤ (n1 : Int) := by omega
                have ew1 := HEw.out
                have u := HW.out
                have HDw : Hid (∀ t, Below w6.heap.size w6 (wr.drewN t)) := fun t => below_drewN HW.out t
                clear hlt hi HIt
                go_upto_region 30 with (go_at_call 9; (with_reducible refine (HS2.out _ u).mono ?_); rintro e wq ⟨rfl, rfl⟩)
                go_quiet (first
                  | (go_at_call 14; refine Calls.quiet_of_same (HS1.out _ (HDw.out _)))
                  | (go_at_call 9; refine Calls.quiet_of_same (HS2.out _ (HDw.out _)))
                  | (go_at_call 15; refine Calls.quiet_of_same (HLa.out _ (HDw.out _))))
                go_wp2
                go_ret
                exact ⟨rfl, HZ.out _ (HDw.out _)⟩
      · have HRo3 : Hid (Calls Tryz.prog 6 #[.int .i64 16777216, .slice va ln vc] wr fun e w' => e = .returned (.tuple #[.pointer none, .int .i64 173]) ∧ Below wr.heap.size wr w') := HRo2.out.mono fun e w' q => by
          rcases q with ⟨_, h1, h2⟩ | ⟨h0, _⟩ | ⟨h0, _⟩
          · exact ⟨h1, h2⟩
          · exact absurd h0 hcan
          · exact absurd h0 hcan
        have HDo3 : Hid (∀ W, Below wr.heap.size wr W → Calls Tryz.prog 7 #[.int .i64 16777216, .slice va ln vc] W fun e w' => e = .returned (.tuple #[.pointer none, .int .i64 173]) ∧ Below W.heap.size W w') := fun W hW => (HDo2.out W hW).mono fun e w' q => by
          rcases q with ⟨_, h1, h2⟩ | ⟨h0, _⟩ | ⟨h0, _⟩
          · exact ⟨h1, h2⟩
          · exact absurd h0 hcan
          · exact absurd h0 hcan
        clear HRo2 HDo2 HBn HOp hcan hby HL HLm
        have hcd : ((i : Int) < (len : Int) ∧ ¬ (i : Int) < 8) ∨ ¬ (i : Int) < (len : Int) := by have := HLt.out; omega
        clear HLt
        rcases hcd with ⟨hc1, hc2⟩ | hc1
        all_goals
          go_wp2_with (first
            | (go_at_call 6; (with_reducible refine HRo3.out.mono ?_); rintro e w3 ⟨rfl, u3⟩)
            | (go_at_call 7; (with_reducible refine (HDo3.out _ u3).mono ?_); rintro e w4 ⟨rfl, u4⟩))
          go_ret
          exact ⟨rfl, bnext HB0.out (bnext u3 u4)⟩
end Go.Proofs.YthfnpagangjpbabGreat
