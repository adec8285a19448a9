/-
  Own work: QAct, QOps, QOps2.
-/
import Derived.BigRegion
import Derived.Test.YthfnpagangjpbabGreatV44
namespace Go.Proofs.YthfnpagangjpbabGreat
open Go.RowKit
attribute [local go_sem ↓] exec_appR
def RLeft (w w' : World) (p : Nat) (lv : Value) (kb : Nat) (V V' : RV) : Prop :=
  ∃ lv' ka' kb' ko' kc', Rk w' p lv' ka' kb' ko' kc' V' ∧ (∀ x, RFoot p lv' kb' V' x → RFoot p lv kb V x ∨ w.heap.size ≤ x) ∧ Upo (RFoot p lv kb V) w w'
theorem Rk.setN {w : World} {p : Nat} {lv : Value} {ka : Option Addr} {kb ko kc : Nat} {V V' : RV} (h : Rk w p lv ka kb ko kc V) (i : Nat) (x : Value) (hL : V'.L = V.L) (hks : V'.ks = V.ks)
    (hb : (w.setCell ⟨p, i, none⟩ x).heap[p]? = some (.cells #[.int .i64 (V'.room : Int), lv, .int .i64 (V'.cnt : Int), .int .i64 0, .int .i64 V'.fk, .slice ka V'.ks.length kc, .int .i64 (V'.left : Int), .bool V'.out] 64 (0, 0))) (h1 : V'.room ≤ 9223372036854775807) (h2 : V'.cnt ≤ 4611686018427387904) (h3 : V'.left ≤ 9223372036854775807) : Rk (w.setCell ⟨p, i, none⟩ x) p lv ka kb ko kc V' := by
  have hne : ∀ y, y ≠ p → (w.setCell ⟨p, i, none⟩ x).heap[y]? = w.heap[y]? := fun y hy => Below.heap_setCell _ _ _ _ hy
  refine ⟨hb, ?_, ?_, ?_, by rw [hks]; exact h.kl, h1, h2, h3, by rw [hL]; exact h.srt, by rw [hL]; exact h.nm, by rw [hL]; exact h.sz, by rw [hL]; exact h.cn⟩
  · rw [hL]; exact row_keep h.own (fun g hg => hne g (h.pl hg))
  · rw [hks]; exact h.kp.same (fun h0 => hne kb (h.pk h0))
  · rw [hks]; exact fun h0 => (h.kt h0).same (hne kb (h.pk h0))
def cD (V : RV) (ka : Option Addr) (kl kc : Nat) (lv : Value) (out : Bool) : Obj := .cells #[.int .i64 (V.room : Int), lv, .int .i64 (V.cnt : Int), .int .i64 0, .int .i64 V.fk, .slice ka kl kc, .int .i64 (V.left : Int), .bool out] 64 (0, 0)
theorem cD_cells {w : World} {p : Nat} {V : RV} {ka : Option Addr} {kl kc : Nat} {lv : Value} {out : Bool} (h : w.heap[p]? = some (cD V ka kl kc lv out)) : w.cell? ⟨p, 1, none⟩ = some lv ∧ w.cell? ⟨p, 7, none⟩ = some (.bool out) := ⟨by rw [cell_of_row w p 1 _ _ (0, 0) h]; rfl, by rw [cell_of_row w p 7 _ _ (0, 0) h]; rfl⟩
theorem aft_mem2 (ks : List Bool) : ∀ (L : List (List UInt8 × FV)) (i : Nat) (x : List UInt8 × List UInt8), x ∈ aft ks L i → ∃ y ∈ L, y.1 = x.1 ∧ x.2.length ≤ max y.2.now.length y.2.syn.length
  | [], _, x, h => by simp [aft] at h
  | (t, g) :: r, i, x, h => by
    simp only [aft] at h
    have hin : ∀ j, x ∈ aft ks r j → ∃ y ∈ (t, g) :: r, y.1 = x.1 ∧ x.2.length ≤ max y.2.now.length y.2.syn.length := fun j hj => by
      obtain ⟨y, hy, e⟩ := aft_mem2 ks r j x hj
      exact ⟨y, List.mem_cons_of_mem _ hy, e⟩
    split at h
    · exact hin _ h
    · rcases List.mem_cons.1 h with rfl | h
      · refine ⟨(t, g), by simp, rfl, ?_⟩
        show (stay ks g i).1.length ≤ _
        rw [stay_len]
        unfold slen
        split
        · exact Nat.le_max_right _ _
        · split
          · exact Nat.le_max_left _ _
          · exact Nat.le_max_right _ _
      · exact hin _ h
theorem run_app_RD (w : World) (ty B : Nat) (v : Value) (L : List (List UInt8 × FV)) (hown : OwnR w B v L) (s : List UInt8) (f : FV) (hlen : L.length + 1 ≤ 2199023255552) (hB : B ≤ w.heap.size) :
    ∃ v' w', (Builtin.append_ #[60, 60] ty #[v, .slice (some ⟨w.heap.size, 0, none⟩) 1 1]).run Tryz.prog (w.alloc (.cells #[.string ⟨s.toArray⟩, .string ⟨f.now.toArray⟩, .string ⟨f.syn.toArray⟩] 59)).drew = .ok v' w' ∧ OwnR w' B v' (L ++ [(s, f)]) ∧ Below B w w' := by
  obtain ⟨i0, hi, hz0, hz1, hz2⟩ := info_parts Tryz.infoR
  have hb := (bal (Below.refl w.heap.size w) (.cells #[.string ⟨s.toArray⟩, .string ⟨f.now.toArray⟩, .string ⟨f.syn.toArray⟩] 59)).drew
  obtain ⟨v', w', q1, q2, q3, _⟩ := run_append_own (P := Tryz.prog) (w.alloc (.cells #[.string ⟨s.toArray⟩, .string ⟨f.now.toArray⟩, .string ⟨f.syn.toArray⟩] 59)).drew B 60 ty 59 i0 (.agg #[.string ⟨#[]⟩, .string ⟨#[]⟩, .string ⟨#[]⟩]) 3 48 Tryz.underlying60 hi hz0 hz1 hz2 rfl (by decide) v L.length (cR L) (ownR_next hown hb) ⟨w.heap.size, 0, none⟩ 1 1 _ rfl (three_new w _ _ _ _) (by intro u hu; simp at hu; rcases hu with rfl | rfl | rfl <;> rfl) (by unfold maxLen; omega) (by omega) (Nat.le_trans hB hb.size)
  refine ⟨v', w', q1, ?_, ?_⟩
  · rw [OwnR, cR_app, List.length_append]
    exact q2
  · exact (hb.mono hB).grown q3 (Nat.le_trans hB hb.size) (fun k hk => (hown.lt k hk).1)
set_option maxRecDepth 100000 in
set_option maxHeartbeats 40000000 in
theorem ract_any (w : World) {p : Nat} {lv : Value} {ka : Option Addr} {kb ko kc : Nat} {V : RV} (h : Rk w p lv ka kb ko kc V) (s nb sb : ByteArray) (hs : s.size ≤ maxLen) (hnb : nb.size ≤ 268435456) (hsb : sb.size ≤ 268435456) (hcn : V.L.length < 1073741824) (ho : V.out = false) (hct : V.cnt + 1 ≤ 4611686018427387904) (hfk : V.left = 0 ∨ (1 ≤ V.fk ∧ V.fk ≤ 5)) :
    Calls Tryz.prog 120 #[.pointer (some ⟨p, 0, none⟩), .agg #[.string s, .string nb, .string sb]] w fun e w' => e = .returned (.int .i64 (ract V s.data.toList ⟨nb.data.toList, sb.data.toList⟩).2) ∧ RLeft w w' p lv kb V (ract V s.data.toList ⟨nb.data.toList, sb.data.toList⟩).1 := by
  obtain ⟨S, hS⟩ : ∃ S, s.data.toList = S := ⟨_, rfl⟩
  obtain ⟨f, hf⟩ : ∃ f : FV, (⟨nb.data.toList, sb.data.toList⟩ : FV) = f := ⟨_, rfl⟩
  obtain ⟨k, hk⟩ : ∃ k : Int, (if V.left = 1 then V.fk else 0) = k := ⟨_, rfl⟩
  have hk6 : k = 0 ∨ k = 1 ∨ k = 2 ∨ k = 3 ∨ k = 4 ∨ k = 5 := by
    rw [← hk]
    split <;> omega
  obtain ⟨V2, hV2⟩ : ∃ V2 : RV, { V with cnt := V.cnt + 1, left := V.left - 1 } = V2 := ⟨_, rfl⟩
  obtain ⟨V3, hV3⟩ : ∃ V3 : RV, (if k = 0 ∨ k = 3 ∨ k = 5 then { V2 with L := rput V2.L S f } else V2) = V3 := ⟨_, rfl⟩
  have hra : ract V S f = if k = 1 ∨ k = 3 then (V3, 171) else if k = 2 then (V3, 172) else if k = 4 ∨ k = 5 then ({ V3 with L := allS (aft V.ks V3.L 0), out := true }, 170) else (V3, 0) := by
    rw [← hV3, ← hV2, ← hk]
    rfl
  obtain ⟨w1, hw1⟩ : ∃ W, w.alloc (.cells #[.string s, .string nb, .string sb] 59) = W := ⟨_, rfl⟩
  have HW1 := hide hw1
  have u1 : Below w.heap.size w w1 := by rw [← hw1]; exact bal (Below.refl _ _) _
  obtain ⟨bx, hbx⟩ : ∃ b, w.heap.size = b := ⟨_, rfl⟩
  have k1 : w1.heap[bx]? = some (.cells #[.string s, .string nb, .string sb] 59 (0, 0)) := by rw [← hw1, ← hbx]; exact new1 _ _
  have r1 := h.next u1
  have hpl : p < w.heap.size := h.lt (.inl rfl)
  obtain ⟨_, _, c2, _, c4, c5, c6, c7⟩ := r1.cells
  have fz1 := r1.frz 2
  have hwc : IntKind.i64.wrap ((V.cnt : Int) + 1) = ((V.cnt + 1 : Nat) : Int) := by rw [IntKind.wrap_i64]; omega
  obtain ⟨cn, hcn1⟩ : ∃ c, V.cnt + 1 = c := ⟨_, rfl⟩
  rw [hcn1] at hwc
  obtain ⟨w2, hw2⟩ : ∃ W, w1.setCell ⟨p, 2, none⟩ (.int .i64 (cn : Int)) = W := ⟨_, rfl⟩
  have HW2 := hide hw2
  have r2 : Rk w2 p lv ka kb ko kc { V with cnt := cn } := by
    rw [← hw2]
    exact r1.setN 2 _ rfl rfl (heap_setCell_same w1 p 2 _ _ _ r1.blk) r1.rm (by show cn ≤ _; omega) r1.lf
  have up2 : Upo (fun x => x = p) w1 w2 := by rw [← hw2]; exact (Upo.refl _ _).set _ _ _ (.inl rfl)
  have HV : Hid (s.data.toList = S ∧ (⟨nb.data.toList, sb.data.toList⟩ : FV) = f ∧ V2 = { V with cnt := V.cnt + 1, left := V.left - 1 } ∧ V3 = (if k = 0 ∨ k = 3 ∨ k = 5 then { V2 with L := rput V2.L S f } else V2) ∧ V3.ks = V.ks ∧ V3.room = V.room ∧ V3.out = false ∧ V3.L.length ≤ 1073741824 ∧ V3.cnt = V2.cnt ∧ V3.fk = V.fk ∧ V3.left = V2.left) := by
    refine ⟨hS, hf, hV2.symm, hV3.symm, ?_⟩
    rw [← hV3, ← hV2]
    split
    · refine ⟨rfl, rfl, ho, ?_, rfl, rfl, rfl⟩
      show (rput V.L S f).length ≤ _
      have := rput_len V.L S f
      omega
    · exact ⟨rfl, rfl, ho, by show V.L.length ≤ _; omega, rfl, rfl, rfl⟩
  have HB : Hid (Below w.heap.size w w1 ∧ w1.heap[bx]? = some (.cells #[.string s, .string nb, .string sb] 59 (0, 0)) ∧ w.heap.size = bx ∧ p < w.heap.size ∧ Rk w1 p lv ka kb ko kc V ∧ (∀ x, RFoot p lv kb V x → x < bx)) := ⟨u1, k1, hbx, hpl, r1, fun x hx => by rw [← hbx]; exact h.lt hx⟩
  have HK : Hid ((if V.left = 1 then V.fk else 0) = k ∧ (V.left = 0 ∨ (1 ≤ V.fk ∧ V.fk ≤ 5)) ∧ s.size ≤ maxLen ∧ nb.size ≤ 268435456 ∧ sb.size ≤ 268435456 ∧ V.L.length < 1073741824 ∧ V.cnt + 1 = cn ∧ V.out = false ∧ V.left ≤ 9223372036854775807) := ⟨hk, hfk, hs, hnb, hsb, hcn, hcn1, ho, h.lf⟩
  have HRa := hide hra
  rw [hS, hf, hra]
  obtain ⟨y0, y1, y2, y3, y4, y5, y6, y7⟩ := r2.cells
  have fz6 := r2.frz 6
  simp only at y4 y6
  have HR2 : Hid (Rk w2 p lv ka kb ko kc { V with cnt := cn } ∧ Upo (fun x => x = p) w1 w2) := ⟨r2, up2⟩
  clear hS hf hk hV2 hV3 hra hw1 hbx hw2 r2 up2 u1 k1 hpl r1 h hs hnb hsb hcn hcn1 hct hfk ho
  go_enter Tryz.func120, Tryz.ntmps120
  go_upto_region 1 with (fail)
  rw [HW1.out, HB.out.2.2.1]
  go_upto_region 2 with (fail)
  rw [HW2.out]
  clear c2 c4 c5 c6 c7 fz1 y0 y1 y2 y3 y5 y7
  go_upto_if 19 with (fail)
  go_cut [5] from 8 to 102 (fun v wx => v = .int .i64 k ∧ Hid (Rk wx p lv ka kb ko kc V2 ∧ Upo (fun x => x = p) w1 wx))
  case first =>
    obtain ⟨a1, a2, a3, a4, a5, a6, a7, a8, a9⟩ := HK.out
    by_cases hl0 : V.left = 0
    · have hz : ¬ ((V.left : Int) > 0) := by omega
      have hkk : k = 0 := by rw [← a1, if_neg (by omega)]
      have HZ : Hid (Rk w2 p lv ka kb ko kc V2 ∧ Upo (fun x => x = p) w1 w2) := by
        refine ⟨?_, HR2.out.2⟩
        rw [HV.out.2.2.1, a7, hl0]
        have := HR2.out.1
        have e : ({ V with cnt := cn } : RV) = { V with cnt := cn, left := 0 - 1 } := by
          show ({ V with cnt := cn, left := V.left } : RV) = _
          rw [hl0]
        rw [e] at this
        exact this
      subst hkk
      clear a1 a2 a3 a4 a5 a6 a7 a8 a9
      go_wp2
      go_meet
      case rel => exact ⟨rfl, HZ⟩
    · have hz : (0 : Int) < (V.left : Int) := by omega
      obtain ⟨lf, hlf⟩ : ∃ l, V.left - 1 = l := ⟨_, rfl⟩
      have hw6 : IntKind.i64.wrap ((V.left : Int) - 1) = (lf : Int) := by rw [IntKind.wrap_i64]; omega
      obtain ⟨w3, hw3⟩ : ∃ W, w2.setCell ⟨p, 6, none⟩ (.int .i64 (lf : Int)) = W := ⟨_, rfl⟩
      have HW3 := hide hw3
      have r3 : Rk w3 p lv ka kb ko kc V2 := by
        rw [← hw3, HV.out.2.2.1, a7, hlf]
        exact HR2.out.1.setN 6 _ rfl rfl (heap_setCell_same w2 p 6 _ _ _ HR2.out.1.blk) HR2.out.1.rm (by show cn ≤ _; exact HR2.out.1.ct) (by show lf ≤ _; omega)
      have up3 : Upo (fun x => x = p) w1 w3 := by rw [← hw3]; exact HR2.out.2.set _ _ _ (.inl rfl)
      have hV2f : V2.fk = V.fk ∧ V2.left = lf := by rw [HV.out.2.2.1]; exact ⟨rfl, hlf⟩
      obtain ⟨_, _, _, _, z4, _, z6, _⟩ := r3.cells
      rw [hV2f.1] at z4
      rw [hV2f.2] at z6
      have HZ : Hid (Rk w3 p lv ka kb ko kc V2 ∧ Upo (fun x => x = p) w1 w3) := ⟨r3, up3⟩
      by_cases hl1 : V.left = 1
      · have hkk : V.fk = k := by rw [← a1, if_pos hl1]
        have hlf0 : lf = 0 := by omega
        subst hlf0
        rw [hkk] at z4
        have HW3' : Hid (w2.setCell ⟨p, 6, none⟩ (.int .i64 0) = w3) := HW3.out
        replace z6 : w3.cell? ⟨p, 6, none⟩ = some (.int .i64 0) := z6
        replace hw6 : IntKind.i64.wrap ((V.left : Int) - 1) = 0 := hw6
        clear a1 a2 a3 a4 a5 a6 a7 a8 a9 r3 up3 hw3 hV2f hlf hl1 hl0 hkk
        go_upto_region 5 with (fail)
        rw [HW3'.out]
        go_wp2
        go_meet
        case rel => exact ⟨rfl, HZ⟩
      · have hkk : k = 0 := by rw [← a1, if_neg hl1]
        have hlf0 : ¬ ((lf : Int) = 0) := by omega
        have hlf1 : ¬ lf = 0 := by omega
        subst hkk
        clear a1 a2 a3 a4 a5 a6 a7 a8 a9 r3 up3 hw3 hV2f hlf hl1 hl0
        go_upto_region 5 with (fail)
        rw [HW3.out]
        go_wp2
        go_meet
        case rel => exact ⟨rfl, HZ⟩
  case rest =>
  obtain ⟨rfl, HR3⟩ := hcut
  obtain ⟨w3, hw3⟩ : ∃ W, W = wc := ⟨_, rfl⟩
  subst hw3
  clear y4 y6 fz6 HR2 HW1 HW2
  have HSz : Hid (s.size ≤ maxLen ∧ nb.size ≤ 268435456 ∧ sb.size ≤ 268435456 ∧ V2.L = V.L ∧ V.L.length < 1073741824 ∧ V2.ks = V.ks ∧ V2.out = false ∧ V.out = false) := by
    obtain ⟨a1, a2, a3, a4, a5, a6, a7, a8, a9⟩ := HK.out
    rw [HV.out.2.2.1]
    exact ⟨a3, a4, a5, rfl, a6, rfl, a8, a8⟩
  clear HK
  obtain ⟨x0, x1, x2⟩ := three_at (show w3.heap[bx]? = _ from (HR3.out.2.block bx (Array.getElem?_eq_some_iff.1 HB.out.2.1).1 (by have := HB.out.2.2.2.1; have := HB.out.2.2.1; omega)).trans HB.out.2.1)
  go_upto_region 7 with (fail)
  go_cut [46] from 8 to 102 (fun v wx => v = .bool (decide (k = 0 ∨ k = 3 ∨ k = 5)) ∧ wx = w3)
  case first =>
    rcases hk6 with rfl | rfl | rfl | rfl | rfl | rfl
    all_goals
      go_wp2
      go_meet
      case rel => exact ⟨rfl, rfl⟩
  case rest =>
  obtain ⟨rfl, hwc'⟩ := hcut
  rw [hwc']
  clear hwc' wc
  go_upto_if 46 with (fail)
  go_cut [] from 8 to 102 (fun wx => ∃ lv', Hid (Rk wx p lv' ka kb ko kc V3 ∧ (∀ g, lv'.ownBlock = some g → lv.ownBlock = some g ∨ w1.heap.size ≤ g) ∧ Upo (fun x => x = p) w1 wx))
  case first =>
    by_cases hc : k = 0 ∨ k = 3 ∨ k = 5
    · rw [decide_eq_true hc]
      obtain ⟨b1, b2, b3, b4, b5, b6, b7⟩ := HSz.out
      have HPu := hide (rput_any w3 HR3.out.1 s nb sb b1 b2 b3 (by rw [b4]; omega))
      rw [HV.out.1, HV.out.2.1] at HPu
      have hV3 : V3 = { V2 with L := rput V2.L S f } := by rw [HV.out.2.2.2.1, if_pos hc]
      rw [← hV3] at HPu
      have HU3 := hide HR3.out.2
      clear b1 b2 b3 b4 b5 b6 b7 hc hV3
      go_wp2_with (go_at_call 23; (with_reducible refine HPu.out.mono ?_); rintro e w4 ⟨rfl, lv4, r4, n4, up4⟩)
      go_meet
      case rel => exact ⟨lv4, r4, fun g hg => .inr (Nat.le_trans HU3.out.size (n4 g hg)), HU3.out.trans up4 (fun _ _ q => q)⟩
    · rw [decide_eq_false hc]
      have HZ : Hid (Rk w3 p lv ka kb ko kc V3 ∧ (∀ g, lv.ownBlock = some g → lv.ownBlock = some g ∨ w1.heap.size ≤ g) ∧ Upo (fun x => x = p) w1 w3) := by
        rw [HV.out.2.2.2.1, if_neg hc]
        exact ⟨HR3.out.1, fun g hg => .inl hg, HR3.out.2⟩
      clear hc
      go_wp2
      go_meet
      case rel => exact ⟨lv, HZ⟩
  case rest =>
  obtain ⟨lv4, HG⟩ := hcut
  obtain ⟨w4, hw4⟩ : ∃ W, W = wc := ⟨_, rfl⟩
  subst hw4
  have HL : Hid (∀ (V' : RV) (lv' : Value) (W : World), V'.ks = V.ks → Rk W p lv' ka kb ko kc V' → (∀ g, lv'.ownBlock = some g → lv.ownBlock = some g ∨ w1.heap.size ≤ g) → Upo (fun x => x = p) w1 W → RLeft w W p lv kb V V') := fun V' lv' W hks hr hn hu => by
    have hs1 := HB.out.1.size
    refine ⟨lv', ka, kb, ko, kc, hr, fun x hx => ?_, ?_⟩
    · rcases hx with rfl | hx | ⟨h0, rfl⟩
      · exact .inl (.inl rfl)
      · exact (hn x hx).imp (fun q => .inr (.inl q)) (fun q => by omega)
      · exact .inl (.inr (.inr ⟨by rw [← hks]; exact h0, rfl⟩))
    · exact (Upo.of HB.out.1).trans hu (fun x _ q => .inl q)
  clear x0 x1 x2 HR3
  rcases hk6 with rfl | rfl | rfl | rfl | rfl | rfl
  · have HZ := hide (HL.out V3 lv4 w4 HV.out.2.2.2.2.1 HG.out.1 HG.out.2.1 HG.out.2.2)
    clear HL HG
    go_wp2
    go_ret
    exact ⟨rfl, HZ.out⟩
  · have HZ := hide (HL.out V3 lv4 w4 HV.out.2.2.2.2.1 HG.out.1 HG.out.2.1 HG.out.2.2)
    clear HL HG
    go_wp2
    go_ret
    exact ⟨rfl, HZ.out⟩
  · have HZ := hide (HL.out V3 lv4 w4 HV.out.2.2.2.2.1 HG.out.1 HG.out.2.1 HG.out.2.2)
    clear HL HG
    go_wp2
    go_ret
    exact ⟨rfl, HZ.out⟩
  · have HZ := hide (HL.out V3 lv4 w4 HV.out.2.2.2.2.1 HG.out.1 HG.out.2.1 HG.out.2.2)
    clear HL HG
    go_wp2
    go_ret
    exact ⟨rfl, HZ.out⟩
  · obtain ⟨R4, hfo, up4⟩ := HG.out
    obtain ⟨ls, hls⟩ : ∃ l, aft V.ks V3.L 0 = l := ⟨_, rfl⟩
    obtain ⟨nl, hnl⟩ : ∃ n, ls.length = n := ⟨_, rfl⟩
    obtain ⟨kl, hkl⟩ : ∃ n, V3.ks.length = n := ⟨_, rfl⟩
    have hks3 := HV.out.2.2.2.2.1
    have HAf : Hid (Calls Tryz.prog 50 #[.pointer (some ⟨p, 0, none⟩), .slice ka kl kc] w4 fun e w' => ∃ ao b cc, e = .returned (.slice ao nl cc) ∧ RdF w' ao b 0 ls ∧ (0 < nl → w4.heap.size ≤ b) ∧ Below w4.heap.size w4 w') := by
      have := rafter_on w4 R4 HV.out.2.2.2.2.2.2.2.1 HV.out.2.2.2.2.2.2.1 ka kb ko kc V3.ks R4.kp R4.kl
      rw [hks3, hls, ← hks3, hkl] at this
      refine this.mono fun e w' z => ?_
      obtain ⟨v, e1, o1, u1⟩ := z
      obtain ⟨ao, b, cc, e2, r1, _, hb⟩ := ownF_rd o1
      exact ⟨ao, b, cc, by rw [e1, e2, hnl], r1, fun h0 => hb (by omega), u1⟩
    obtain ⟨_, c1, _, _, _, c5, _, _⟩ := R4.cells
    rw [hkl] at c5
    have hpl : p < w4.heap.size := R4.lt (.inl rfl)
    have HF : Hid (Rk w4 p lv4 ka kb ko kc V3 ∧ Upo (fun x => x = p) w1 w4 ∧ p < w4.heap.size ∧ aft V.ks V3.L 0 = ls ∧ ls.length = nl ∧ V3.ks.length = kl ∧ nl ≤ 1073741824) := ⟨R4, up4, hpl, hls, hnl, hkl, by rw [← hnl, ← hls]; have := aft_le V.ks V3.L 0; have := HV.out.2.2.2.2.2.2.2.1; omega⟩
    clear hls hnl hkl hks3 R4 hfo up4 hpl HG
    go_upto_region 18 with (go_at_call 50; (with_reducible refine HAf.out.mono ?_); rintro e w5 ⟨sa, sbk, sc, rfl, rs5, hsb5, u5⟩)
    have r5 := HF.out.1.next u5
    obtain ⟨_, d1, _⟩ := r5.cells
    have fz1 := r5.frz 1
    obtain ⟨w6, hw6⟩ : ∃ W, w5.setCell ⟨p, 1, none⟩ (.slice none 0 0) = W := ⟨_, rfl⟩
    have HW6 := hide hw6
    have HS6 : Hid (w6.heap[p]? = some (cD V3 ka kl kc (.slice none 0 0) false) ∧ OwnR w6 w5.heap.size (.slice none 0 0) (allS (ls.take 0)) ∧ Upo (fun x => x = p) w5 w6) := by
      refine ⟨?_, ⟨rfl, .inl ⟨rfl, rfl⟩⟩, by rw [← hw6]; exact (Upo.refl _ _).set _ _ _ (.inl rfl)⟩
      have := heap_setCell_same w5 p 1 _ _ (.slice none 0 0) r5.blk
      rw [hw6] at this
      rw [this, HF.out.2.2.2.2.2.1, HV.out.2.2.2.2.2.2.1]
      rfl
    have HQ5 : Hid (RdF w5 sa sbk 0 ls ∧ (0 < nl → w4.heap.size ≤ sbk) ∧ Below w4.heap.size w4 w5 ∧ p < w5.heap.size) := ⟨rs5, hsb5, u5, Nat.lt_of_lt_of_le HF.out.2.2.1 u5.size⟩
    clear hw6 r5 rs5 hsb5 u5 c1 c5
    go_upto_region 19 with (fail)
    rw [HW6.out]
    clear d1 fz1
    go_wp2
    go_loopg [7] nl (fun g y wr => ∃ (i : Nat) (lvi : Value), i ≤ nl ∧ g = nl - i ∧ y = .int .i64 (i : Int) ∧ Hid (wr.heap[p]? = some (cD V3 ka kl kc lvi false) ∧ OwnR wr w5.heap.size lvi (allS (ls.take i)) ∧ Upo (fun x => x = p) w5 wr))
    case atStart => exact ⟨0, _, Nat.zero_le _, rfl, rfl, HS6⟩
    case round =>
      clear HS6
      obtain ⟨i, lvi, hi, rfl, rfl, HO⟩ := hrel
      obtain ⟨c1, c7⟩ := cD_cells HO.out.1
      by_cases hlt : i < nl
      · have hil : (i : Int) < (nl : Int) := by omega
        have hi0 : (0 : Int) ≤ (i : Int) := by omega
        have hw : IntKind.i64.wrap ((i : Int) + 1) = (i : Int) + 1 := by have := HF.out.2.2.2.2.2.2; rw [IntKind.wrap_i64]; omega
        obtain ⟨⟨t, x⟩, hx⟩ : ∃ x, ls.getD i ([], []) = x := ⟨_, rfl⟩
        obtain ⟨tb, htb⟩ : ∃ a : ByteArray, ⟨t.toArray⟩ = a := ⟨_, rfl⟩
        obtain ⟨xb, hxb⟩ : ∃ a : ByteArray, ⟨x.toArray⟩ = a := ⟨_, rfl⟩
        obtain ⟨q1, q2, q3, q4⟩ := HQ5.out
        have hnl := HF.out.2.2.2.2.1
        have hsbp : sbk ≠ p := by have := q2 (by omega); have := HF.out.2.2.1; omega
        have ea := q1.ptr (by omega)
        subst ea
        have HCs : Hid (∀ W : World, W.heap[sbk]? = w5.heap[sbk]? → W.cell? ⟨sbk, i * 2, none⟩ = some (.string tb) ∧ W.cell? ⟨sbk, i * 2 + 1, none⟩ = some (.string xb)) := fun W hW => by
          have := q1.same (fun _ => hW)
          have e0 := this.c0 i (by omega)
          have e1 := this.c1 i (by omega)
          rw [hx] at e0 e1
          simp only [Nat.zero_add] at e0 e1
          rw [htb] at e0
          rw [hxb] at e1
          exact ⟨e0, e1⟩
        have hsw : wr.heap[sbk]? = w5.heap[sbk]? := HO.out.2.2.block sbk (q1.lt (by omega)) hsbp
        obtain ⟨e0, e1⟩ := HCs.out wr hsw
        obtain ⟨v7, w7, hrn, o7, b7⟩ := run_app_RD wr 60 w5.heap.size lvi _ HO.out.2.1 t ⟨x, x⟩ (by unfold allS; rw [List.length_map, List.length_take]; have := HF.out.2.2.2.2.2.2; omega) HO.out.2.2.size
        simp only at hrn
        rw [htb, hxb] at hrn
        have htk : allS (ls.take (i + 1)) = allS (ls.take i) ++ [(t, ⟨x, x⟩)] := by
          rw [take_snoc ls ([], []) i (by omega), hx]
          unfold allS
          rw [List.map_append]
          rfl
        have hp7 : w7.heap[p]? = some (cD V3 ka kl kc lvi false) := (b7.block p q4).trans HO.out.1
        obtain ⟨g1, _⟩ := cD_cells hp7
        have gf : w7.frozen? ⟨p, 1, none⟩ = false := frozen_of_row w7 p 1 _ _ hp7
        have h7s := HCs.out w7 ((b7.block sbk (q1.lt (by omega))).trans hsw)
        have HX : Hid ((w7.setCell ⟨p, 1, none⟩ v7).heap[p]? = some (cD V3 ka kl kc v7 false) ∧ OwnR (w7.setCell ⟨p, 1, none⟩ v7) w5.heap.size v7 (allS (ls.take (i + 1))) ∧ Upo (fun x => x = p) w5 (w7.setCell ⟨p, 1, none⟩ v7) ∧ i + 1 ≤ nl) := by
          refine ⟨heap_setCell_same w7 p 1 _ _ _ hp7, ?_, ?_, hlt⟩
          · rw [htk]
            exact row_keep o7 (fun g hg => Below.heap_setCell _ _ _ _ (by have := (ownR_lt o7 g hg).1; show g ≠ p; omega))
          · exact (show Upo (fun x => x = p) w5 w7 from ⟨b7.os.trans HO.out.2.2.os, b7.tape.trans HO.out.2.2.tape, b7.output.trans HO.out.2.2.output, Nat.le_trans HO.out.2.2.size b7.size, fun y hy hyp => (b7.block y hy).trans (HO.out.2.2.block y hy hyp)⟩).set _ _ _ (.inl rfl)
        have ha := HCs.out (wr.alloc (.cells #[.string tb, .string xb, .string xb] 59)) (((bal (Below.refl wr.heap.size wr) _).block sbk (Nat.lt_of_lt_of_le (q1.lt (by omega)) HO.out.2.2.size)).trans hsw)
        have hap : (wr.alloc (.cells #[.string tb, .string xb, .string xb] 59)).heap[p]? = some (cD V3 ka kl kc lvi false) := ((bal (Below.refl wr.heap.size wr) _).block p (Nat.lt_of_lt_of_le q4 HO.out.2.2.size)).trans HO.out.1
        obtain ⟨f1, _⟩ := cD_cells hap
        have hlv : ∃ lo ln lc, lvi = .slice lo ln lc := by obtain ⟨lo, lc, e⟩ := own_slice HO.out.2.1; exact ⟨lo, _, lc, e⟩
        obtain ⟨lo, ln, lc, rfl⟩ := hlv
        have hv7 : ∃ lo ln lc, v7 = .slice lo ln lc := by obtain ⟨lo, lc, e⟩ := own_slice o7; exact ⟨lo, _, lc, e⟩
        obtain ⟨lo7, ln7, lc7, rfl⟩ := hv7
        clear hx htb hxb q1 q2 q3 q4 hnl o7 b7 htk hp7 hap hsw c7 hi hlt HO
        go_upto_region 22 with (fail)
        have hap := appR_of hrn
        clear hrn ha h7s HCs
        go_region
        all_goals
          clear hap
          go_wp2
          go_roundg (nl - (i + 1))
          case rel =>
            go_light
            exact ⟨i + 1, _, HX.out.2.2.2, rfl, by go_num, HX.out.1, HX.out.2.1, HX.out.2.2.1⟩
          case measure => go_light; have := HX.out.2.2.2; omega
      · obtain rfl : i = nl := by omega
        have hil : ¬ ((i : Int) < (i : Int)) := by omega
        have gf : wr.frozen? ⟨p, 7, none⟩ = false := frozen_of_row wr p 7 _ _ HO.out.1
        have HZ : Hid (RLeft w (wr.setCell ⟨p, 7, none⟩ (.bool true)) p lv kb V { V3 with L := allS (aft V.ks V3.L 0), out := true }) := by
          obtain ⟨q1, q2, q3, q4, q5, q6, q7⟩ := HF.out
          obtain ⟨z1, z2, z3, z4⟩ := HQ5.out
          have htk : ls.take i = ls := List.take_of_length_le (by omega)
          have ho := HO.out.2.1
          rw [htk] at ho
          have hu4 : Upo (fun x => x = p) w1 wr := (q2.next z3).trans HO.out.2.2 (fun _ _ q => q)
          have hne : ∀ y, y ≠ p → (wr.setCell ⟨p, 7, none⟩ (.bool true)).heap[y]? = wr.heap[y]? := fun y hy => Below.heap_setCell _ _ _ _ hy
          have hsor := aft_sor V.ks V3.L 0 q1.srt
          rw [q4] at hsor ⊢
          have hmem : ∀ x ∈ ls, x.1.length ≤ maxLen ∧ x.2.length ≤ 268435456 := fun x hx => by
            rw [← q4] at hx
            obtain ⟨y, hy, e1, e2⟩ := aft_mem2 V.ks V3.L 0 x hx
            have h1 := q1.nm y hy
            have h2 := q1.sz y hy
            exact ⟨by rw [← e1]; exact h1, by omega⟩
          have hkb : ∀ y, y < w4.heap.size → y ≠ p → wr.heap[y]? = w4.heap[y]? := fun y hy hyp => (HO.out.2.2.block y (Nat.lt_of_lt_of_le hy z3.size) hyp).trans (z3.block y hy)
          refine HL.out _ lvi _ (by show V3.ks = V.ks; exact HV.out.2.2.2.2.1) ⟨?_, ?_, ?_, ?_, q1.kl, q1.rm, q1.ct, q1.lf, ?_, ?_, ?_, ?_⟩ (fun g hg => ?_) ?_
          · have := heap_setCell_same wr p 7 _ _ (.bool true) HO.out.1
            rw [this]
            show _ = some (Obj.cells #[.int .i64 (V3.room : Int), lvi, .int .i64 (V3.cnt : Int), .int .i64 0, .int .i64 V3.fk, .slice ka V3.ks.length kc, .int .i64 (V3.left : Int), .bool true] 64 (0, 0))
            rw [q6]
            rfl
          · exact row_keep (ownR_mono ho (Nat.zero_le _)) (fun g hg => hne g (by have := (ownR_lt ho g hg).1; omega))
          · exact q1.kp.same (fun h0 => (hne kb (q1.pk h0)).trans (hkb kb (q1.kt h0).lt (q1.pk h0)))
          · exact fun h0 => (q1.kt h0).same ((hne kb (q1.pk h0)).trans (hkb kb (q1.kt h0).lt (q1.pk h0)))
          · show (allS ls).Pairwise _
            unfold allS
            rw [List.pairwise_map]
            exact hsor.1
          · intro x hx
            obtain ⟨y, hy, rfl⟩ := List.mem_map.1 hx
            exact (hmem y hy).1
          · intro x hx
            obtain ⟨y, hy, rfl⟩ := List.mem_map.1 hx
            exact ⟨(hmem y hy).2, (hmem y hy).2⟩
          · show (allS ls).length ≤ _
            unfold allS
            rw [List.length_map]
            omega
          · have := (ownR_lt ho g hg).1
            have := q2.size
            have := z3.size
            exact .inr (by omega)
          · exact hu4.set _ _ _ (.inl rfl)
        clear hlt hi HO HF HQ5
        go_wp2
        go_ret
        exact ⟨rfl, HZ.out⟩
  · obtain ⟨R4, hfo, up4⟩ := HG.out
    obtain ⟨ls, hls⟩ : ∃ l, aft V.ks V3.L 0 = l := ⟨_, rfl⟩
    obtain ⟨nl, hnl⟩ : ∃ n, ls.length = n := ⟨_, rfl⟩
    obtain ⟨kl, hkl⟩ : ∃ n, V3.ks.length = n := ⟨_, rfl⟩
    have hks3 := HV.out.2.2.2.2.1
    have HAf : Hid (Calls Tryz.prog 50 #[.pointer (some ⟨p, 0, none⟩), .slice ka kl kc] w4 fun e w' => ∃ ao b cc, e = .returned (.slice ao nl cc) ∧ RdF w' ao b 0 ls ∧ (0 < nl → w4.heap.size ≤ b) ∧ Below w4.heap.size w4 w') := by
      have := rafter_on w4 R4 HV.out.2.2.2.2.2.2.2.1 HV.out.2.2.2.2.2.2.1 ka kb ko kc V3.ks R4.kp R4.kl
      rw [hks3, hls, ← hks3, hkl] at this
      refine this.mono fun e w' z => ?_
      obtain ⟨v, e1, o1, u1⟩ := z
      obtain ⟨ao, b, cc, e2, r1, _, hb⟩ := ownF_rd o1
      exact ⟨ao, b, cc, by rw [e1, e2, hnl], r1, fun h0 => hb (by omega), u1⟩
    obtain ⟨_, c1, _, _, _, c5, _, _⟩ := R4.cells
    rw [hkl] at c5
    have hpl : p < w4.heap.size := R4.lt (.inl rfl)
    have HF : Hid (Rk w4 p lv4 ka kb ko kc V3 ∧ Upo (fun x => x = p) w1 w4 ∧ p < w4.heap.size ∧ aft V.ks V3.L 0 = ls ∧ ls.length = nl ∧ V3.ks.length = kl ∧ nl ≤ 1073741824) := ⟨R4, up4, hpl, hls, hnl, hkl, by rw [← hnl, ← hls]; have := aft_le V.ks V3.L 0; have := HV.out.2.2.2.2.2.2.2.1; omega⟩
    clear hls hnl hkl hks3 R4 hfo up4 hpl HG
    go_upto_region 18 with (go_at_call 50; (with_reducible refine HAf.out.mono ?_); rintro e w5 ⟨sa, sbk, sc, rfl, rs5, hsb5, u5⟩)
    have r5 := HF.out.1.next u5
    obtain ⟨_, d1, _⟩ := r5.cells
    have fz1 := r5.frz 1
    obtain ⟨w6, hw6⟩ : ∃ W, w5.setCell ⟨p, 1, none⟩ (.slice none 0 0) = W := ⟨_, rfl⟩
    have HW6 := hide hw6
    have HS6 : Hid (w6.heap[p]? = some (cD V3 ka kl kc (.slice none 0 0) false) ∧ OwnR w6 w5.heap.size (.slice none 0 0) (allS (ls.take 0)) ∧ Upo (fun x => x = p) w5 w6) := by
      refine ⟨?_, ⟨rfl, .inl ⟨rfl, rfl⟩⟩, by rw [← hw6]; exact (Upo.refl _ _).set _ _ _ (.inl rfl)⟩
      have := heap_setCell_same w5 p 1 _ _ (.slice none 0 0) r5.blk
      rw [hw6] at this
      rw [this, HF.out.2.2.2.2.2.1, HV.out.2.2.2.2.2.2.1]
      rfl
    have HQ5 : Hid (RdF w5 sa sbk 0 ls ∧ (0 < nl → w4.heap.size ≤ sbk) ∧ Below w4.heap.size w4 w5 ∧ p < w5.heap.size) := ⟨rs5, hsb5, u5, Nat.lt_of_lt_of_le HF.out.2.2.1 u5.size⟩
    clear hw6 r5 rs5 hsb5 u5 c1 c5
    go_upto_region 19 with (fail)
    rw [HW6.out]
    clear d1 fz1
    go_wp2
    go_loopg [7] nl (fun g y wr => ∃ (i : Nat) (lvi : Value), i ≤ nl ∧ g = nl - i ∧ y = .int .i64 (i : Int) ∧ Hid (wr.heap[p]? = some (cD V3 ka kl kc lvi false) ∧ OwnR wr w5.heap.size lvi (allS (ls.take i)) ∧ Upo (fun x => x = p) w5 wr))
    case atStart => exact ⟨0, _, Nat.zero_le _, rfl, rfl, HS6⟩
    case round =>
      clear HS6
      obtain ⟨i, lvi, hi, rfl, rfl, HO⟩ := hrel
      obtain ⟨c1, c7⟩ := cD_cells HO.out.1
      by_cases hlt : i < nl
      · have hil : (i : Int) < (nl : Int) := by omega
        have hi0 : (0 : Int) ≤ (i : Int) := by omega
        have hw : IntKind.i64.wrap ((i : Int) + 1) = (i : Int) + 1 := by have := HF.out.2.2.2.2.2.2; rw [IntKind.wrap_i64]; omega
        obtain ⟨⟨t, x⟩, hx⟩ : ∃ x, ls.getD i ([], []) = x := ⟨_, rfl⟩
        obtain ⟨tb, htb⟩ : ∃ a : ByteArray, ⟨t.toArray⟩ = a := ⟨_, rfl⟩
        obtain ⟨xb, hxb⟩ : ∃ a : ByteArray, ⟨x.toArray⟩ = a := ⟨_, rfl⟩
        obtain ⟨q1, q2, q3, q4⟩ := HQ5.out
        have hnl := HF.out.2.2.2.2.1
        have hsbp : sbk ≠ p := by have := q2 (by omega); have := HF.out.2.2.1; omega
        have ea := q1.ptr (by omega)
        subst ea
        have HCs : Hid (∀ W : World, W.heap[sbk]? = w5.heap[sbk]? → W.cell? ⟨sbk, i * 2, none⟩ = some (.string tb) ∧ W.cell? ⟨sbk, i * 2 + 1, none⟩ = some (.string xb)) := fun W hW => by
          have := q1.same (fun _ => hW)
          have e0 := this.c0 i (by omega)
          have e1 := this.c1 i (by omega)
          rw [hx] at e0 e1
          simp only [Nat.zero_add] at e0 e1
          rw [htb] at e0
          rw [hxb] at e1
          exact ⟨e0, e1⟩
        have hsw : wr.heap[sbk]? = w5.heap[sbk]? := HO.out.2.2.block sbk (q1.lt (by omega)) hsbp
        obtain ⟨e0, e1⟩ := HCs.out wr hsw
        obtain ⟨v7, w7, hrn, o7, b7⟩ := run_app_RD wr 60 w5.heap.size lvi _ HO.out.2.1 t ⟨x, x⟩ (by unfold allS; rw [List.length_map, List.length_take]; have := HF.out.2.2.2.2.2.2; omega) HO.out.2.2.size
        simp only at hrn
        rw [htb, hxb] at hrn
        have htk : allS (ls.take (i + 1)) = allS (ls.take i) ++ [(t, ⟨x, x⟩)] := by
          rw [take_snoc ls ([], []) i (by omega), hx]
          unfold allS
          rw [List.map_append]
          rfl
        have hp7 : w7.heap[p]? = some (cD V3 ka kl kc lvi false) := (b7.block p q4).trans HO.out.1
        obtain ⟨g1, _⟩ := cD_cells hp7
        have gf : w7.frozen? ⟨p, 1, none⟩ = false := frozen_of_row w7 p 1 _ _ hp7
        have h7s := HCs.out w7 ((b7.block sbk (q1.lt (by omega))).trans hsw)
        have HX : Hid ((w7.setCell ⟨p, 1, none⟩ v7).heap[p]? = some (cD V3 ka kl kc v7 false) ∧ OwnR (w7.setCell ⟨p, 1, none⟩ v7) w5.heap.size v7 (allS (ls.take (i + 1))) ∧ Upo (fun x => x = p) w5 (w7.setCell ⟨p, 1, none⟩ v7) ∧ i + 1 ≤ nl) := by
          refine ⟨heap_setCell_same w7 p 1 _ _ _ hp7, ?_, ?_, hlt⟩
          · rw [htk]
            exact row_keep o7 (fun g hg => Below.heap_setCell _ _ _ _ (by have := (ownR_lt o7 g hg).1; show g ≠ p; omega))
          · exact (show Upo (fun x => x = p) w5 w7 from ⟨b7.os.trans HO.out.2.2.os, b7.tape.trans HO.out.2.2.tape, b7.output.trans HO.out.2.2.output, Nat.le_trans HO.out.2.2.size b7.size, fun y hy hyp => (b7.block y hy).trans (HO.out.2.2.block y hy hyp)⟩).set _ _ _ (.inl rfl)
        have ha := HCs.out (wr.alloc (.cells #[.string tb, .string xb, .string xb] 59)) (((bal (Below.refl wr.heap.size wr) _).block sbk (Nat.lt_of_lt_of_le (q1.lt (by omega)) HO.out.2.2.size)).trans hsw)
        have hap : (wr.alloc (.cells #[.string tb, .string xb, .string xb] 59)).heap[p]? = some (cD V3 ka kl kc lvi false) := ((bal (Below.refl wr.heap.size wr) _).block p (Nat.lt_of_lt_of_le q4 HO.out.2.2.size)).trans HO.out.1
        obtain ⟨f1, _⟩ := cD_cells hap
        have hlv : ∃ lo ln lc, lvi = .slice lo ln lc := by obtain ⟨lo, lc, e⟩ := own_slice HO.out.2.1; exact ⟨lo, _, lc, e⟩
        obtain ⟨lo, ln, lc, rfl⟩ := hlv
        have hv7 : ∃ lo ln lc, v7 = .slice lo ln lc := by obtain ⟨lo, lc, e⟩ := own_slice o7; exact ⟨lo, _, lc, e⟩
        obtain ⟨lo7, ln7, lc7, rfl⟩ := hv7
        clear hx htb hxb q1 q2 q3 q4 hnl o7 b7 htk hp7 hap hsw c7 hi hlt HO
        go_upto_region 22 with (fail)
        have hap := appR_of hrn
        clear hrn ha h7s HCs
        go_region
        all_goals
          clear hap
          go_wp2
          go_roundg (nl - (i + 1))
          case rel =>
            go_light
            exact ⟨i + 1, _, HX.out.2.2.2, rfl, by go_num, HX.out.1, HX.out.2.1, HX.out.2.2.1⟩
          case measure => go_light; have := HX.out.2.2.2; omega
      · obtain rfl : i = nl := by omega
        have hil : ¬ ((i : Int) < (i : Int)) := by omega
        have gf : wr.frozen? ⟨p, 7, none⟩ = false := frozen_of_row wr p 7 _ _ HO.out.1
        have HZ : Hid (RLeft w (wr.setCell ⟨p, 7, none⟩ (.bool true)) p lv kb V { V3 with L := allS (aft V.ks V3.L 0), out := true }) := by
          obtain ⟨q1, q2, q3, q4, q5, q6, q7⟩ := HF.out
          obtain ⟨z1, z2, z3, z4⟩ := HQ5.out
          have htk : ls.take i = ls := List.take_of_length_le (by omega)
          have ho := HO.out.2.1
          rw [htk] at ho
          have hu4 : Upo (fun x => x = p) w1 wr := (q2.next z3).trans HO.out.2.2 (fun _ _ q => q)
          have hne : ∀ y, y ≠ p → (wr.setCell ⟨p, 7, none⟩ (.bool true)).heap[y]? = wr.heap[y]? := fun y hy => Below.heap_setCell _ _ _ _ hy
          have hsor := aft_sor V.ks V3.L 0 q1.srt
          rw [q4] at hsor ⊢
          have hmem : ∀ x ∈ ls, x.1.length ≤ maxLen ∧ x.2.length ≤ 268435456 := fun x hx => by
            rw [← q4] at hx
            obtain ⟨y, hy, e1, e2⟩ := aft_mem2 V.ks V3.L 0 x hx
            have h1 := q1.nm y hy
            have h2 := q1.sz y hy
            exact ⟨by rw [← e1]; exact h1, by omega⟩
          have hkb : ∀ y, y < w4.heap.size → y ≠ p → wr.heap[y]? = w4.heap[y]? := fun y hy hyp => (HO.out.2.2.block y (Nat.lt_of_lt_of_le hy z3.size) hyp).trans (z3.block y hy)
          refine HL.out _ lvi _ (by show V3.ks = V.ks; exact HV.out.2.2.2.2.1) ⟨?_, ?_, ?_, ?_, q1.kl, q1.rm, q1.ct, q1.lf, ?_, ?_, ?_, ?_⟩ (fun g hg => ?_) ?_
          · have := heap_setCell_same wr p 7 _ _ (.bool true) HO.out.1
            rw [this]
            show _ = some (Obj.cells #[.int .i64 (V3.room : Int), lvi, .int .i64 (V3.cnt : Int), .int .i64 0, .int .i64 V3.fk, .slice ka V3.ks.length kc, .int .i64 (V3.left : Int), .bool true] 64 (0, 0))
            rw [q6]
            rfl
          · exact row_keep (ownR_mono ho (Nat.zero_le _)) (fun g hg => hne g (by have := (ownR_lt ho g hg).1; omega))
          · exact q1.kp.same (fun h0 => (hne kb (q1.pk h0)).trans (hkb kb (q1.kt h0).lt (q1.pk h0)))
          · exact fun h0 => (q1.kt h0).same ((hne kb (q1.pk h0)).trans (hkb kb (q1.kt h0).lt (q1.pk h0)))
          · show (allS ls).Pairwise _
            unfold allS
            rw [List.pairwise_map]
            exact hsor.1
          · intro x hx
            obtain ⟨y, hy, rfl⟩ := List.mem_map.1 hx
            exact (hmem y hy).1
          · intro x hx
            obtain ⟨y, hy, rfl⟩ := List.mem_map.1 hx
            exact ⟨(hmem y hy).2, (hmem y hy).2⟩
          · show (allS ls).length ≤ _
            unfold allS
            rw [List.length_map]
            omega
          · have := (ownR_lt ho g hg).1
            have := q2.size
            have := z3.size
            exact .inr (by omega)
          · exact hu4.set _ _ _ (.inl rfl)
        clear hlt hi HO HF HQ5
        go_wp2
        go_ret
        exact ⟨rfl, HZ.out⟩
end Go.Proofs.YthfnpagangjpbabGreat
namespace Go.Proofs.YthfnpagangjpbabGreat
open Go.RowKit
def Rsk (w : World) (p : Nat) (S : Nat → Prop) (V : RV) : Prop := ∃ lv ka kb ko kc, Rk w p lv ka kb ko kc V ∧ ∀ x, RFoot p lv kb V x ↔ S x
def RMvd (w w' : World) (p : Nat) (S : Nat → Prop) (V' : RV) : Prop := ∃ S', Rsk w' p S' V' ∧ (∀ x, S' x → S x ∨ w.heap.size ≤ x) ∧ Upo S w w'
section
variable {w W : World} {p : Nat} {S : Nat → Prop} {V : RV}
theorem Rsk.same (h : Rsk w p S V) (hb : ∀ x, S x → W.heap[x]? = w.heap[x]?) : Rsk W p S V := by
  obtain ⟨lv, ka, kb, ko, kc, h1, h2⟩ := h
  exact ⟨lv, ka, kb, ko, kc, h1.same (fun x hx => hb x ((h2 x).1 hx)), h2⟩
theorem Rsk.lt (h : Rsk w p S V) {x : Nat} (hx : S x) : x < w.heap.size := by
  obtain ⟨lv, ka, kb, ko, kc, h1, h2⟩ := h
  exact h1.lt ((h2 x).2 hx)
theorem Rsk.next (h : Rsk w p S V) (hb : Below w.heap.size w W) : Rsk W p S V := h.same fun x hx => hb.block x (h.lt hx)
theorem Rsk.keep {T : Nat → Prop} (h : Rsk w p S V) (hu : Upo T w W) (hd : ∀ x, S x → ¬ T x) : Rsk W p S V := h.same fun x hx => hu.block x (h.lt hx) (hd x hx)
theorem Rsk.mvd {lv : Value} {kb : Nat} {V' : RV} (hi : ∀ x, RFoot p lv kb V x ↔ S x) (h : RLeft w W p lv kb V V') : RMvd w W p S V' := by
  obtain ⟨lv', ka', kb', ko', kc', h1, h2, h3⟩ := h
  exact ⟨RFoot p lv' kb' V', ⟨lv', ka', kb', ko', kc', h1, fun _ => Iff.rfl⟩, fun x hx => (h2 x hx).imp (hi x).1 id, h3.mono (fun x _ q => (hi x).1 q)⟩
end
def newR (room : Nat) : RV := ⟨room, [], 0, 0, [], 0, false⟩
set_option maxRecDepth 100000 in
theorem rnew_any (w : World) (room : Int) (n : Nat) (hn : n = room.toNat) (h2 : room ≤ 9223372036854775807) :
    Calls Tryz.prog 17 #[.int .i64 room] w fun e w' => ∃ p S, e = .returned (.pointer (some ⟨p, 0, none⟩)) ∧ Rsk w' p S (newR n) ∧ (∀ x, S x → w.heap.size ≤ x) ∧ Below w.heap.size w w' := by
  have e1 : (if room < 0 then 0 else room) = (n : Int) := by split <;> omega
  go_enter Tryz.func17, Tryz.ntmps17
  go_wp2
  go_ret
  have hm : max room 0 = (n : Int) := by omega
  rw [hm]
  have k1 := new1 w (.cells #[.int .i64 (n : Int), .slice none 0 0, .int .i64 0, .int .i64 0, .int .i64 0, .slice none 0 0, .int .i64 0, .bool false] 64)
  refine ⟨w.heap.size, RFoot w.heap.size (.slice none 0 0) 0 (newR n), rfl, ⟨.slice none 0 0, none, 0, 0, 0, ⟨k1, ⟨rfl, .inl ⟨rfl, rfl⟩⟩, rdl_nil _ _ _ _, fun h0 => by simp [newR] at h0, by simp [newR], by show n ≤ _; omega, by simp [newR], by simp [newR], by simp [newR, srt], fun p hp => by simp [newR] at hp, fun p hp => by simp [newR] at hp, by simp [newR]⟩, fun x => Iff.rfl⟩, fun x hx => ?_, bal (Below.refl _ _) _⟩
  rcases hx with rfl | hx | ⟨h0, _⟩
  · exact Nat.le_refl _
  · cases hx
  · simp [newR] at h0
set_option maxRecDepth 100000 in
theorem racts_any (w : World) {p : Nat} {lv : Value} {ka : Option Addr} {kb ko kc : Nat} {V : RV} (h : Rk w p lv ka kb ko kc V) : Calls Tryz.prog 44 #[.pointer (some ⟨p, 0, none⟩)] w fun e w' => e = .returned (.int .i64 (V.cnt : Int)) ∧ w' = w := by
  obtain ⟨_, _, c2, _⟩ := h.cells
  clear h
  go_enter Tryz.func44, Tryz.ntmps44
  go_wp2
  go_ret
  exact ⟨rfl, rfl⟩
set_option maxRecDepth 100000 in
theorem rdown_any (w : World) {p : Nat} {lv : Value} {ka : Option Addr} {kb ko kc : Nat} {V : RV} (h : Rk w p lv ka kb ko kc V) : Calls Tryz.prog 30 #[.pointer (some ⟨p, 0, none⟩)] w fun e w' => e = .returned (.bool V.out) ∧ w' = w := by
  obtain ⟨_, _, _, _, _, _, _, c7⟩ := h.cells
  clear h
  go_enter Tryz.func30, Tryz.ntmps30
  go_wp2
  go_ret
  exact ⟨rfl, rfl⟩
def rsz (V : RV) (s : List UInt8) : Nat := if V.out then 0 else (fget V.L s).now.length
set_option maxRecDepth 100000 in
theorem rsize_any (w : World) {p : Nat} {lv : Value} {ka : Option Addr} {kb ko kc : Nat} {V : RV} (h : Rk w p lv ka kb ko kc V) (s : ByteArray) : Calls Tryz.prog 117 #[.pointer (some ⟨p, 0, none⟩), .string s] w fun e w' => e = .returned (.int .i64 (rsz V s.data.toList : Int)) ∧ Below w.heap.size w w' := by
  obtain ⟨_, _, _, _, _, _, _, c7⟩ := h.cells
  obtain ⟨nb, hnb⟩ : ∃ a : ByteArray, ⟨(fget V.L s.data.toList).now.toArray⟩ = a := ⟨_, rfl⟩
  have hz : nb.size = (fget V.L s.data.toList).now.length := by rw [← size_list, ← hnb]
  obtain ⟨sb, hsb⟩ : ∃ a : ByteArray, ⟨(fget V.L s.data.toList).syn.toArray⟩ = a := ⟨_, rfl⟩
  have HG := hide (rget_any w h s nb sb hnb hsb)
  have hfd : ∀ W : World, (Instr.field 59 (.agg #[.string s, .string nb, .string sb]) 1).run Tryz.prog W = .ok (.string nb) W := fun W => by kernel_rfl
  clear hsb
  unfold rsz
  cases ho : V.out
  · rw [ho] at c7
    rw [if_neg (by decide), ← hz]
    clear h hnb hz ho
    go_enter Tryz.func117, Tryz.ntmps117
    go_wp2_with (go_at_call 79; (with_reducible refine HG.out.mono ?_); rintro e w1 ⟨rfl, u1⟩)
    go_ret
    exact ⟨rfl, u1⟩
  · rw [ho] at c7
    rw [if_pos rfl]
    clear h hnb hz ho HG
    go_enter Tryz.func117, Tryz.ntmps117
    go_wp2
    go_ret
    exact ⟨rfl, Below.refl _ _⟩
theorem RLeft.same {w w' : World} {p : Nat} {lv : Value} {ka : Option Addr} {kb ko kc : Nat} {V : RV} (h : Rk w p lv ka kb ko kc V) (hb : Below w.heap.size w w') : RLeft w w' p lv kb V V := ⟨lv, ka, kb, ko, kc, h.next hb, fun _ hx => .inl hx, Upo.of hb⟩
theorem RLeft.after {w w1 w' : World} {p : Nat} {lv : Value} {kb : Nat} {V V' : RV} (hb : Below w.heap.size w w1) (h : RLeft w1 w' p lv kb V V') : RLeft w w' p lv kb V V' := by
  obtain ⟨lv', ka', kb', ko', kc', h1, h2, h3⟩ := h
  have := hb.size
  exact ⟨lv', ka', kb', ko', kc', h1, fun x hx => (h2 x hx).imp id (fun q => by omega), (Upo.of hb).trans h3 (fun _ _ q => q)⟩
end Go.Proofs.YthfnpagangjpbabGreat
namespace Go.Proofs.YthfnpagangjpbabGreat
open Go.RowKit
structure Fit (V : RV) : Prop where
  cn : V.L.length < 1073741824
  ct : V.cnt + 1 ≤ 4611686018427387904
  fk : V.left = 0 ∨ (1 ≤ V.fk ∧ V.fk ≤ 5)
section
variable {p : Nat} {lv : Value} {ka : Option Addr} {kb ko kc : Nat} {V : RV}
theorem fget_sz {w : World} (h : Rk w p lv ka kb ko kc V) (s : List UInt8) : (fget V.L s).now.length ≤ 268435456 ∧ (fget V.L s).syn.length ≤ 268435456 := by
  by_cases hm : s ∈ V.L.map (·.1)
  · exact h.sz _ (fget_in hm)
  · rw [fget_none hm]; exact ⟨Nat.zero_le _, Nat.zero_le _⟩
theorem ract_at {w : World} (h : Rk w p lv ka kb ko kc V) (hf : Fit V) (ho : V.out = false) (s nb sb : ByteArray) (hs : s.size ≤ maxLen) (hnb : nb.size ≤ 268435456) (hsb : sb.size ≤ 268435456) (W : World) (hW : Below w.heap.size w W) :
    Calls Tryz.prog 120 #[.pointer (some ⟨p, 0, none⟩), .agg #[.string s, .string nb, .string sb]] W fun e w' => e = .returned (.int .i64 (ract V s.data.toList ⟨nb.data.toList, sb.data.toList⟩).2) ∧ RLeft w w' p lv kb V (ract V s.data.toList ⟨nb.data.toList, sb.data.toList⟩).1 :=
  (ract_any W (h.next hW) s nb sb hs hnb hsb hf.cn ho hf.ct hf.fk).mono fun _ _ z => ⟨z.1, RLeft.after hW z.2⟩
set_option maxRecDepth 100000 in
set_option maxHeartbeats 4000000 in
theorem rsync_any (w : World) (h : Rk w p lv ka kb ko kc V) (hf : Fit V) (s : ByteArray) (hs : s.size ≤ maxLen) :
    Calls Tryz.prog 76 #[.pointer (some ⟨p, 0, none⟩), .string s] w fun e w' => e = .returned (.int .i64 (rsyn V s.data.toList).2) ∧ RLeft w w' p lv kb V (rsyn V s.data.toList).1 := by
  obtain ⟨_, _, _, _, _, _, _, c7⟩ := h.cells
  unfold rsyn
  cases ho : V.out
  · rw [ho] at c7
    rw [if_neg (by decide)]
    obtain ⟨nb, hnb⟩ : ∃ a : ByteArray, ⟨(fget V.L s.data.toList).now.toArray⟩ = a := ⟨_, rfl⟩
    obtain ⟨sb, hsb⟩ : ∃ a : ByteArray, ⟨(fget V.L s.data.toList).syn.toArray⟩ = a := ⟨_, rfl⟩
    have hn1 : nb.data.toList = (fget V.L s.data.toList).now := by rw [← hnb]
    have hz : nb.size ≤ 268435456 := by rw [← size_list, hn1]; exact (fget_sz h _).1
    have HG := hide (rget_any w h s nb sb hnb hsb)
    have HA := hide (ract_at h hf ho s nb nb hs hz hz)
    rw [hn1] at HA
    clear h hf hs hnb hsb hn1 hz ho
    go_enter Tryz.func76, Tryz.ntmps76
    go_upto_region 4 with (go_at_call 79; (with_reducible refine HG.out.mono ?_); rintro e w1 ⟨rfl, u1⟩)
    have k1 := new1 w1 (.cells #[.string s, .string nb, .string sb] 59)
    have u2 : Below w.heap.size w (w1.alloc (.cells #[.string s, .string nb, .string sb] 59)) := bal u1 _
    obtain ⟨w2, hw2⟩ : ∃ W, w1.alloc (.cells #[.string s, .string nb, .string sb] 59) = W := ⟨_, rfl⟩
    rw [hw2] at k1 u2 ⊢
    obtain ⟨bf, hbf⟩ : ∃ b, w1.heap.size = b := ⟨_, rfl⟩
    rw [hbf] at k1 ⊢
    have hbw : w.heap.size ≤ bf := by rw [← hbf]; exact u1.size
    obtain ⟨x0, x1, x2⟩ := three_at k1
    have fz2 := frozen_of_row w2 bf 2 _ _ k1
    have k3 := heap_setCell_same w2 bf 2 _ _ (.string nb) k1
    have u3 : Below w.heap.size w (w2.setCell ⟨bf, 2, none⟩ (.string nb)) := u2.setCell hbw _
    obtain ⟨w3, hw3⟩ : ∃ W, w2.setCell ⟨bf, 2, none⟩ (.string nb) = W := ⟨_, rfl⟩
    rw [hw3] at k3 u3
    have HW3 := hide hw3
    obtain ⟨z0, z1, z2⟩ := three_at (show w3.heap[bf]? = some (.cells #[.string s, .string nb, .string nb] 59 (0, 0)) from k3)
    have HA3 := hide (HA.out w3 u3)
    clear hw2 hbf hw3 k1 k3 u1 u2 u3 HA hbw
    go_upto_region 5 with (fail)
    rw [HW3.out]
    clear x0 x1 x2 fz2
    go_wp2_with (go_at_call 120; (with_reducible refine HA3.out.mono ?_); rintro e w4 ⟨rfl, r4⟩)
    go_ret
    exact ⟨rfl, r4⟩
  · rw [ho] at c7
    rw [if_pos rfl]
    have HR := hide (RLeft.same h (Below.refl _ _))
    clear h hf ho
    go_enter Tryz.func76, Tryz.ntmps76
    go_wp2
    go_ret
    exact ⟨rfl, HR.out⟩
set_option maxRecDepth 100000 in
set_option maxHeartbeats 4000000 in
theorem rcut_any (w : World) (h : Rk w p lv ka kb ko kc V) (hf : Fit V) (s : ByteArray) (hs : s.size ≤ maxLen) (off : Int) :
    Calls Tryz.prog 119 #[.pointer (some ⟨p, 0, none⟩), .string s, .int .i64 off] w fun e w' => e = .returned (.int .i64 (rcut V s.data.toList off).2) ∧ RLeft w w' p lv kb V (rcut V s.data.toList off).1 := by
  obtain ⟨_, _, _, _, _, _, _, c7⟩ := h.cells
  unfold rcut
  cases ho : V.out
  · rw [ho] at c7
    rw [if_neg (by decide)]
    obtain ⟨nb, hnb⟩ : ∃ a : ByteArray, ⟨(fget V.L s.data.toList).now.toArray⟩ = a := ⟨_, rfl⟩
    obtain ⟨sb, hsb⟩ : ∃ a : ByteArray, ⟨(fget V.L s.data.toList).syn.toArray⟩ = a := ⟨_, rfl⟩
    have hn1 : nb.data.toList = (fget V.L s.data.toList).now := by rw [← hnb]
    have hs1 : sb.data.toList = (fget V.L s.data.toList).syn := by rw [← hsb]
    have hz : nb.size = (fget V.L s.data.toList).now.length := by rw [← size_list, hn1]
    have hz1 : nb.size ≤ 268435456 := by rw [hz]; exact (fget_sz h _).1
    have hz2 : sb.size ≤ 268435456 := by rw [← size_list, hs1]; exact (fget_sz h _).2
    have HG := hide (rget_any w h s nb sb hnb hsb)
    by_cases hbad : off < 0 ∨ ((fget V.L s.data.toList).now.length : Int) < off
    · rw [if_pos hbad]
      have HR : Hid (∀ W, Below w.heap.size w W → RLeft w W p lv kb V V) := fun W hW => RLeft.same h hW
      rw [← hz] at hbad
      clear h hf hs hnb hsb hn1 hs1 hz hz1 hz2 ho
      go_enter Tryz.func119, Tryz.ntmps119
      go_upto_region 4 with (go_at_call 79; (with_reducible refine HG.out.mono ?_); rintro e w1 ⟨rfl, u1⟩)
      have k1 := new1 w1 (.cells #[.string s, .string nb, .string sb] 59)
      have HZ := hide (HR.out _ (bal u1 (.cells #[.string s, .string nb, .string sb] 59)))
      obtain ⟨w2, hw2⟩ : ∃ W, w1.alloc (.cells #[.string s, .string nb, .string sb] 59) = W := ⟨_, rfl⟩
      rw [hw2] at k1 HZ ⊢
      obtain ⟨x0, x1, x2⟩ := three_at k1
      clear hw2 k1 u1
      by_cases hb0 : off < 0
      · clear hbad
        go_wp2
        go_ret
        exact ⟨rfl, HZ.out⟩
      · have hb1 : (nb.size : Int) < off := by omega
        clear hbad
        go_wp2
        go_ret
        exact ⟨rfl, HZ.out⟩
    · rw [if_neg hbad]
      obtain ⟨o, rfl⟩ : ∃ o : Nat, off = (o : Int) := ⟨off.toNat, by omega⟩
      rw [show ((o : Int)).toNat = o from rfl]
      have ho1 : o ≤ nb.size := by omega
      obtain ⟨xt, hxt⟩ : ∃ a, nb.extract 0 o = a := ⟨_, rfl⟩
      have hxt2 : xt.data.toList = (fget V.L s.data.toList).now.take o := by rw [← hxt, ext_take, hn1]
      have hxz : xt.size ≤ 268435456 := by rw [← size_list, hxt2, List.length_take]; omega
      have HA := hide (ract_at h hf ho s xt sb hs hxz hz2)
      rw [hxt2, hs1] at HA
      have hb0 : ¬ ((o : Int) < 0) := by omega
      have hb1 : ¬ ((nb.size : Int) < (o : Int)) := by omega
      have hb2 : (o : Int) ≤ (nb.size : Int) := by omega
      have hb3 : (0 : Int) ≤ (o : Int) := by omega
      clear h hf hs hnb hsb hn1 hs1 hz hz1 hz2 ho hbad hxt2 hxz
      go_enter Tryz.func119, Tryz.ntmps119
      go_upto_region 4 with (go_at_call 79; (with_reducible refine HG.out.mono ?_); rintro e w1 ⟨rfl, u1⟩)
      have k1 := new1 w1 (.cells #[.string s, .string nb, .string sb] 59)
      have u2 : Below w.heap.size w (w1.alloc (.cells #[.string s, .string nb, .string sb] 59)) := bal u1 _
      obtain ⟨w2, hw2⟩ : ∃ W, w1.alloc (.cells #[.string s, .string nb, .string sb] 59) = W := ⟨_, rfl⟩
      rw [hw2] at k1 u2 ⊢
      obtain ⟨bf, hbf⟩ : ∃ b, w1.heap.size = b := ⟨_, rfl⟩
      rw [hbf] at k1 ⊢
      have hbw : w.heap.size ≤ bf := by rw [← hbf]; exact u1.size
      obtain ⟨x0, x1, x2⟩ := three_at k1
      have fz1 := frozen_of_row w2 bf 1 _ _ k1
      have k3 := heap_setCell_same w2 bf 1 _ _ (.string xt) k1
      have u3 : Below w.heap.size w (w2.setCell ⟨bf, 1, none⟩ (.string xt)) := u2.setCell hbw _
      obtain ⟨w3, hw3⟩ : ∃ W, w2.setCell ⟨bf, 1, none⟩ (.string xt) = W := ⟨_, rfl⟩
      rw [hw3] at k3 u3
      have HW3 := hide hw3
      obtain ⟨z0, z1, z2⟩ := three_at (show w3.heap[bf]? = some (.cells #[.string s, .string xt, .string sb] 59 (0, 0)) from k3)
      have HA3 := hide (HA.out w3 u3)
      clear hw2 hbf hw3 k1 k3 u1 u2 u3 HA hbw
      go_upto_region 7 with (fail)
      rw [HW3.out]
      clear x0 x1 x2 fz1
      go_wp2_with (go_at_call 120; (with_reducible refine HA3.out.mono ?_); rintro e w4 ⟨rfl, r4⟩)
      go_ret
      exact ⟨rfl, r4⟩
  · rw [ho] at c7
    rw [if_pos rfl]
    have HR := hide (RLeft.same h (Below.refl _ _))
    clear h hf ho
    go_enter Tryz.func119, Tryz.ntmps119
    go_wp2
    go_ret
    exact ⟨rfl, HR.out⟩
end
end Go.Proofs.YthfnpagangjpbabGreat
