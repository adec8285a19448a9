/-
  CodecWrites. Own work.
-/
import Derived.Test.YtelglfmppmdmoaaGWriteA
namespace Go.Proofs.Ytelglfmppmdmoaa
open Go.RowKit
attribute [local go_sem ↓] Go.wp_at_zero Go.wp_at_succ
set_option maxRecDepth 100000 in
set_option maxHeartbeats 8000000 in
theorem writes_walk (w : World) (sa : Option Addr) (sb so sc : Nat) (da : Option Addr) (db dO dc : Nat) (P : PV) (hp : RdP w sa sb so sc da db dO dc P) (hns : sa = none → sc = 0) (hnd : da = none → dc = 0) (hS : P.S.length ≤ 17592186043904) (hD : P.D.length ≤ 8796093021952) :
    Calls Try.prog 4 #[pvP P sa sc da dc] w fun e w' => e = .returned (.bool true) ∧ Below w.heap.size w w' := by
  obtain ⟨W, hW, h6, hb, _⟩ := box6 w (.int .i64 P.kd) (.int .i64 P.k) (.int .u64 (P.old : Int)) (.int .u64 (P.size : Int)) (.slice sa P.S.length sc) (.slice da P.D.length dc)
  have HX : Hid (∀ F, Below W.heap.size W F → RdP F sa sb so sc da db dO dc P ∧ Six F w.heap.size (.int .i64 P.kd) (.int .i64 P.k) (.int .u64 (P.old : Int)) (.int .u64 (P.size : Int)) (.slice sa P.S.length sc) (.slice da P.D.length dc) ∧ Below w.heap.size w F) := fun F hF => ⟨hp.next (bnext hb hF), h6.next hF, bnext hb hF⟩
  have HZ : Hid (∀ d ∈ P.D, d.size ≤ 9223372036854775807) := hp.rd.sz
  have HL : Hid (∀ F, Below W.heap.size W F → Calls Try.prog 15 #[.agg #[.int .i64 P.kd, .int .i64 P.k, .int .u64 (P.old : Int), .int .u64 (P.size : Int), .slice sa P.S.length sc, .slice da P.D.length dc]] F fun e w' => ∃ gs cs gd cd, e = .returned (.agg #[.int .i64 P.kd, .int .i64 P.k, .int .u64 (P.old : Int), .int .u64 (P.size : Int), .slice (some ⟨gs, 0, none⟩) P.S.length cs, .slice (some ⟨gd, 0, none⟩) P.D.length cd]) ∧ Cv.Own w' F.heap.size (.slice (some ⟨gs, 0, none⟩) (P.S.length + 2) cs) (P.S ++ [7000000, 7000001]) ∧ OwnS w' F.heap.size (.slice (some ⟨gd, 0, none⟩) (P.D.length + 2) cd) (P.D ++ [oneB, twoB]) ∧ P.S.length + 2 ≤ cs ∧ P.D.length + 2 ≤ cd ∧ Below F.heap.size F w') := fun F hF => by
    have r := (HX.out F hF).1
    exact lent_any F P.kd P.k P.old P.size sa sb so sc P.S r.rs hns hS da db dO dc P.D r.rd hnd hD
  have hS1 : (P.S.length : Int) ≤ 17592186043904 := by omega
  have hD1 : (P.D.length : Int) ≤ 8796093021952 := by omega
  obtain ⟨cn, ce, hcV⟩ := cV_two (cnt P.kd P.k P.old P.size P.S)
  have HCV := hide hcV
  have h6W := h6.lt
  have HWl : Hid (w.heap.size < W.heap.size) := h6W
  clear hp h6 hb hns hnd hcV hS hD h6W
  simp only [pvP, pv6]
  go_enter Try.func4, Try.ntmps4
  go_upto_region 3 with (go_at_call 9; (try rw [hW]); with_reducible refine (fixed_any _).mono ?_; rintro x w1 ⟨rfl, hb1⟩)
  clear hW
  obtain ⟨_, x2, _⟩ := HX.out _ hb1
  obtain ⟨e0, e1, e2, e3, e4, e5⟩ := x2.cells
  clear x2
  go_upto_region 4 with (go_at_call 15; with_reducible refine (HL.out _ hb1).mono ?_; rintro x w2 ⟨gs, cs, gd, cd, rfl, o1, o2, hc1, hc2, hb2⟩)
  obtain ⟨X, hX, h7, hb3, hz3⟩ := box6 w2 (.int .i64 P.kd) (.int .i64 P.k) (.int .u64 (P.old : Int)) (.int .u64 (P.size : Int)) (.slice (some ⟨gs, 0, none⟩) P.S.length cs) (.slice (some ⟨gd, 0, none⟩) P.D.length cd)
  try rw [hX]
  clear hX hz3 e0 e1 e2 e3 e4 e5
  have hwX : Below W.heap.size W X := bnext (bnext hb1 hb2) hb3
  have o1X := Cv.ownB_next o1 hb3
  have o2X := own_next o2 hb3 (Nat.le_refl _)
  have HG : Hid (gs < w2.heap.size ∧ gd < w2.heap.size ∧ gs ≠ gd ∧ w1.heap.size ≤ gs ∧ w1.heap.size ≤ gd ∧ W.heap.size ≤ w1.heap.size ∧ w2.heap.size < X.heap.size ∧ P.S.length + 2 ≤ cs ∧ P.D.length + 2 ≤ cd) := ⟨(World.ownsRow.lt o1 gs rfl).2, (World.ownsRow.lt o2 gd rfl).2, own_apart o1 o2, (World.ownsRow.lt o1 gs rfl).1, (World.ownsRow.lt o2 gd rfl).1, hb1.size, h7.lt, hc1, hc2⟩
  have HY : Hid (∀ F, Below X.heap.size X F → Cv.Own F w1.heap.size (.slice (some ⟨gs, 0, none⟩) (P.S.length + 2) cs) (P.S ++ [7000000, 7000001]) ∧ OwnS F w1.heap.size (.slice (some ⟨gd, 0, none⟩) (P.D.length + 2) cd) (P.D ++ [oneB, twoB]) ∧ Six F w2.heap.size (.int .i64 P.kd) (.int .i64 P.k) (.int .u64 (P.old : Int)) (.int .u64 (P.size : Int)) (.slice (some ⟨gs, 0, none⟩) P.S.length cs) (.slice (some ⟨gd, 0, none⟩) P.D.length cd) ∧ Below W.heap.size W F) := fun F hF => ⟨Cv.ownB_next o1X hF, own_next o2X hF (Nat.le_refl _), h7.next hF, bnext hwX hF⟩
  have HR : Hid (∀ F, Below X.heap.size X F → RdP F (some ⟨gs, 0, none⟩) gs 0 cs (some ⟨gd, 0, none⟩) gd 0 cd P) := fun F hF => by
    obtain ⟨k1, k2, _, k4⟩ := HY.out F hF
    have r := (HX.out F k4).1
    exact ⟨own_rdu k1, own_rds k2 HZ.out, r.old64, r.sz64, r.mS, r.mD, by have := HG.out; omega⟩
  clear hb1 hb2 hb3 h7 o1 o2 o1X o2X hc1 hc2 hwX
  have hX0 := Below.refl X.heap.size X
  obtain ⟨_, _, x6, _⟩ := HY.out X hX0
  obtain ⟨e0, e1, e2, e3, e4, e5⟩ := x6.cells
  have HC1 := count_any X P.kd P.k P.old P.size (some ⟨gs, 0, none⟩) gs 0 cs P.S (.slice (some ⟨gd, 0, none⟩) P.D.length cd) (HR.out X hX0).old64 (HR.out X hX0).sz64 (HR.out X hX0).rs (fun _ => (HR.out X hX0).mS)
  rw [HCV.out] at HC1
  simp only [pv6] at HC1
  clear x6
  go_upto_region 5 with (go_at_call 12; with_reducible refine HC1.mono ?_; rintro x w3 ⟨rfl, hb3⟩)
  clear HC1 e0 e1 e2 e3 e4 e5 hX0
  have p3 := HX.out w3 (HY.out w3 hb3).2.2.2
  have HC2 := rcount_any w3 P.kd P.k P.old P.size sa sb so sc P.S (.slice da P.D.length dc) p3.1.rs p3.1.mS
  rw [HCV.out] at HC2
  simp only [pv6] at HC2
  obtain ⟨e0, e1, e2, e3, e4, e5⟩ := p3.2.1.cells
  clear p3
  go_upto_region 6 with (go_at_call 16; with_reducible refine HC2.mono ?_; rintro x w4 ⟨rfl, hb4⟩)
  clear HC2 e0 e1 e2 e3 e4 e5
  have hX4 := bnext hb3 hb4
  have HE1 := encode_both w4 _ _ _ _ _ _ _ _ P (HR.out w4 hX4)
  simp only [pvP, pv6] at HE1
  obtain ⟨e0, e1, e2, e3, e4, e5⟩ := (HY.out w4 hX4).2.2.1.cells
  clear hb3 hb4
  go_upto_region 7 with (go_at_call 11; with_reducible refine HE1.mono ?_; rintro x w5 ⟨rfl, hb5⟩)
  clear HE1 e0 e1 e2 e3 e4 e5
  have hX5 := bnext hX4 hb5
  have p5 := HX.out w5 (HY.out w5 hX5).2.2.2
  have HE2 := rencode_both w5 _ _ _ _ _ _ _ _ P p5.1
  simp only [pvP, pv6] at HE2
  obtain ⟨e0, e1, e2, e3, e4, e5⟩ := p5.2.1.cells
  clear hX4 hb5 p5
  go_upto_region 8 with (go_at_call 17; with_reducible refine HE2.mono ?_; rintro x w6 ⟨rfl, hb6⟩)
  clear HE2 e0 e1 e2 e3 e4 e5
  have hX6 := bnext hX5 hb6
  obtain ⟨y1, y2, y3, y4⟩ := HY.out w6 hX6
  have p6 := HX.out w6 y4
  have HSt := still_yes w6 _ _ _ _ _ _ _ _ P p6.1 _ gs cs gd cd y1 y2 HG.out.2.2.2.2.2.2.2.1 HG.out.2.2.2.2.2.2.2.2
  simp only [pvP, pv6] at HSt
  obtain ⟨e0, e1, e2, e3, e4, e5⟩ := p6.2.1.cells
  obtain ⟨m0, m1, m2, m3, m4, m5⟩ := y3.cells
  have g1 := bne_self_eq_false cn
  have g2 := bne_self_eq_false ce
  have g3 := bne_self_eq_false (encE P)
  clear hX5 hb6 y1 y2 y3 y4 p6
  go_upto_region 10 with (go_at_call 18; with_reducible refine HSt.mono ?_; rintro x w7 ⟨rfl, hb7⟩)
  clear HSt e0 e1 e2 e3 e4 e5 m0 m1 m2 m3 m4 m5
  have hX7 := bnext hX6 hb7
  have hW7 := (HY.out w7 hX7).2.2.2
  obtain ⟨e0, e1, e2, e3, e4, e5⟩ := (HX.out w7 hW7).2.1.cells
  go_upto_region 11 with (go_at_call 15; with_reducible refine (HL.out _ hW7).mono ?_; rintro x w8 ⟨hs, ks, hd, kd', rfl, o1, o2, hc1, hc2, hb8⟩)
  obtain ⟨Y, hY, h9, hb9, hz9⟩ := box6 w8 (.int .i64 P.kd) (.int .i64 P.k) (.int .u64 (P.old : Int)) (.int .u64 (P.size : Int)) (.slice (some ⟨hs, 0, none⟩) P.S.length ks) (.slice (some ⟨hd, 0, none⟩) P.D.length kd')
  try rw [hY]
  clear hY hz9 e0 e1 e2 e3 e4 e5
  have hwY : Below W.heap.size W Y := bnext (bnext hW7 hb8) hb9
  have hX8 := bnext (bnext hX7 hb8) hb9
  obtain ⟨a1, a2, a3, _⟩ := HY.out Y hX8
  have b1 := Cv.ownB_next o1 hb9
  have b2 := own_next o2 hb9 (Nat.le_refl _)
  have HGG : Hid (hs < w8.heap.size ∧ hd < w8.heap.size ∧ hs ≠ hd ∧ w7.heap.size ≤ hs ∧ w7.heap.size ≤ hd ∧ X.heap.size ≤ w7.heap.size ∧ w7.heap.size ≤ w8.heap.size ∧ P.S.length + 2 ≤ ks ∧ P.D.length + 2 ≤ kd') := ⟨(World.ownsRow.lt o1 hs rfl).2, (World.ownsRow.lt o2 hd rfl).2, own_apart o1 o2, (World.ownsRow.lt o1 hs rfl).1, (World.ownsRow.lt o2 hd rfl).1, hX7.size, hb8.size, hc1, hc2⟩
  have HT1 : Hid (∀ F, ChT (fun b => b = gd ∨ b = hd) Y F → RdP F sa sb so sc da db dO dc P ∧ Six F w.heap.size (.int .i64 P.kd) (.int .i64 P.k) (.int .u64 (P.old : Int)) (.int .u64 (P.size : Int)) (.slice sa P.S.length sc) (.slice da P.D.length dc) ∧ Six F w2.heap.size (.int .i64 P.kd) (.int .i64 P.k) (.int .u64 (P.old : Int)) (.int .u64 (P.size : Int)) (.slice (some ⟨gs, 0, none⟩) P.S.length cs) (.slice (some ⟨gd, 0, none⟩) P.D.length cd) ∧ Six F w8.heap.size (.int .i64 P.kd) (.int .i64 P.k) (.int .u64 (P.old : Int)) (.int .u64 (P.size : Int)) (.slice (some ⟨hs, 0, none⟩) P.S.length ks) (.slice (some ⟨hd, 0, none⟩) P.D.length kd') ∧ Cv.Own F w1.heap.size (.slice (some ⟨gs, 0, none⟩) (P.S.length + 2) cs) (P.S ++ [7000000, 7000001]) ∧ Cv.Own F w7.heap.size (.slice (some ⟨hs, 0, none⟩) (P.S.length + 2) ks) (P.S ++ [7000000, 7000001]) ∧ Below W.heap.size W F) := fun F hF => by
    have G1 := HG.out
    have G2 := HGG.out
    have hBF : Below W.heap.size W F := hwY.trans (hF.below (by rintro b (rfl | rfl) <;> omega))
    obtain ⟨r1, r2, _⟩ := HX.out F hBF
    refine ⟨r1, r2, a3.same (hF.block _ (by rintro (h | h) <;> omega)), h9.same (hF.block _ (by rintro (h | h) <;> omega)), ?_, ?_, hBF⟩
    · refine keep_row a1 fun g hg _ => hF.block g ?_
      have h0 : gs = g := by injection hg
      rintro (h | h) <;> omega
    · refine keep_row b1 fun g hg _ => hF.block g ?_
      have h0 : hs = g := by injection hg
      rintro (h | h) <;> omega
  have HO0 : Hid (OwnS Y w1.heap.size (.slice (some ⟨gd, 0, none⟩) (P.D.length + 2) cd) (mk P.D.reverse P.D [oneB, twoB] 0) ∧ OwnS Y w7.heap.size (.slice (some ⟨hd, 0, none⟩) (P.D.length + 2) kd') (mk P.D.reverse P.D [oneB, twoB] 0)) := by
    show _ ∧ _
    rw [mk_zero]; exact ⟨a2, b2⟩
  have hcd : (P.D.length : Int) ≤ (cd : Int) := by have := HG.out; omega
  have hkd : (P.D.length : Int) ≤ (kd' : Int) := by have := HGG.out; omega
  clear a1 a2 a3 b1 b2 o1 o2 hc1 hc2 hb8 hb9 h9 hX6 hX7 hX8 hW7 hb7 HL HR HY hwY
  go_wp2
  go_loopg [13] P.D.length (fun gk i wr => ∃ j : Nat, j ≤ P.D.length ∧ gk = P.D.length - j ∧ i = .int .i64 (j : Int) ∧ Hid (ChT (fun b => b = gd ∨ b = hd) Y wr) ∧ Hid (OwnS wr w1.heap.size (.slice (some ⟨gd, 0, none⟩) (P.D.length + 2) cd) (mk P.D.reverse P.D [oneB, twoB] j) ∧ OwnS wr w7.heap.size (.slice (some ⟨hd, 0, none⟩) (P.D.length + 2) kd') (mk P.D.reverse P.D [oneB, twoB] j)))
  case atStart =>
    go_light
    exact ⟨0, Nat.zero_le _, rfl, rfl, ChT.refl _ _, HO0⟩
  case round =>
    obtain ⟨j, hj, rfl, rfl, HI, HO⟩ := hrel
    clear HO0
    obtain ⟨r1, r2, r3, r4, r5, r6, r7⟩ := HT1.out wr HI.out
    have hj0 : (0 : Int) ≤ (j : Int) := Int.natCast_nonneg _
    obtain ⟨_, _, _, _, _, p5⟩ := r2.cells
    by_cases hlt : j < P.D.length
    · have hlt' : (j : Int) < (P.D.length : Int) := by omega
      obtain rfl := r1.rd.ptr (by omega)
      obtain ⟨n1, hn1⟩ : ∃ n1 : Nat, (P.D.length : Int) - 1 = (n1 : Int) := ⟨P.D.length - 1, by omega⟩
      obtain ⟨r, hr⟩ : ∃ r : Nat, (n1 : Int) - (j : Int) = (r : Int) := ⟨P.D.length - 1 - j, by omega⟩
      have hr1 : (r : Int) < (P.D.length : Int) := by omega
      have hr0 : (0 : Int) ≤ (r : Int) := Int.natCast_nonneg _
      have hn1b : (n1 : Int) ≤ 8796093021952 := by omega
      have hn10 : (0 : Int) ≤ (n1 : Int) := Int.natCast_nonneg _
      have hra := rev_at hlt
      rw [show P.D.length - 1 - j = r by omega] at hra
      obtain ⟨d, hd0⟩ : ∃ d, P.D.getD r ByteArray.empty = d := ⟨_, rfl⟩
      rw [hd0] at hra
      have HRa := hide hra
      have HSx : Hid (∀ F, ChT (fun b => b = gd ∨ b = hd) Y F → F.cell? ⟨w2.heap.size, 5, none⟩ = some (.slice (some ⟨gd, 0, none⟩) P.D.length cd) ∧ F.cell? ⟨w.heap.size, 5, none⟩ = some (.slice (some ⟨db, dO, none⟩) P.D.length dc) ∧ F.cell? ⟨db, dO + r, none⟩ = some (.string d)) := fun F hF => by
        obtain ⟨k1, k2, k3, _⟩ := HT1.out F hF
        exact ⟨k3.cells.2.2.2.2.2, k2.cells.2.2.2.2.2, by rw [← hd0]; exact k1.rd.at (k := r) (by omega)⟩
      have hch1 : ChT (fun b => b = gd ∨ b = hd) Y (wr.drew.setCell ⟨gd, j, none⟩ (.string d)) := (HI.out.drew).set gd j _ (.inl rfl)
      have od := own_next HO.out.1 ((Below.refl wr.heap.size wr).drew) (Nat.le_refl _)
      have hml : (mk P.D.reverse P.D [oneB, twoB] j).length = P.D.length + 2 := mk_len (by simp) rfl hj
      obtain ⟨oc1, oc2⟩ := own_cell od (j := j) (by omega)
      obtain ⟨q1, q2, q3⟩ := HSx.out _ HI.out.drew
      have HM : Hid ((mk P.D.reverse P.D [oneB, twoB] j).set j d = mk P.D.reverse P.D [oneB, twoB] (j + 1)) := by
        show _ = _
        have := mk_set (R := P.D.reverse) (L := P.D) (M := [oneB, twoB]) (n := P.D.length) (by simp) rfl hlt ByteArray.empty
        rw [hra] at this; exact this
      have HO1 : Hid (OwnS (wr.drew.setCell ⟨gd, j, none⟩ (.string d)) w1.heap.size (.slice (some ⟨gd, 0, none⟩) (P.D.length + 2) cd) (mk P.D.reverse P.D [oneB, twoB] (j + 1)) ∧ OwnS (wr.drew.setCell ⟨gd, j, none⟩ (.string d)) w7.heap.size (.slice (some ⟨hd, 0, none⟩) (P.D.length + 2) kd') (mk P.D.reverse P.D [oneB, twoB] j)) := by
        refine ⟨?_, ?_⟩
        · have := ownS_set (j := j) od d
          rw [HM.out] at this; exact this
        · refine keep_row (own_next HO.out.2 ((Below.refl wr.heap.size wr).drew) (Nat.le_refl _)) fun g hg _ => ?_
          have h0 : hd = g := by injection hg
          have G1 := HG.out
          have G2 := HGG.out
          exact ((ChT.refl (fun b => b = gd) wr.drew).set gd j (.string d) rfl).block g (by show ¬ _ = _; omega)
      clear r1 r2 r3 r4 r5 r6 r7 hra hd0 od hml
      go_upto_region 14 with (fail)
      clear p5
      have hn1' : (P.D.length : Int) - 1 = (n1 : Int) := by omega
      have hr' : (n1 : Int) - (j : Int) = (r : Int) := by omega
      have hw1 : IntKind.i64.wrap (n1 : Int) = (n1 : Int) := by rw [IntKind.wrap_i64]; omega
      have hw2 : IntKind.i64.wrap (r : Int) = (r : Int) := by rw [IntKind.wrap_i64]; omega
      go_region_held3 (fun Z => Z.cell? ⟨w2.heap.size, 5, none⟩ = some (.slice (some ⟨gd, 0, none⟩) P.D.length cd) ∧ Z.cell? ⟨w.heap.size, 5, none⟩ = some (.slice (some ⟨db, dO, none⟩) P.D.length dc) ∧ Z.cell? ⟨db, dO + r, none⟩ = some (.string d)) (first | assumption | (exact HSx.out _ HI.out.drew) | (exact HSx.out _ hch1)) (fail)
      all_goals
        obtain ⟨F1, hF1⟩ : ∃ F1, wr.drew.setCell ⟨gd, j, none⟩ (.string d) = F1 := ⟨_, rfl⟩
        have hF2 : (wr.setCell ⟨gd, j, none⟩ (.string d)).drew = F1 := hF1
        rw [hF1] at hch1 HO1
        rw [hF2]
        clear hF2
        have oD1 := own_next HO1.out.1 ((Below.refl F1.heap.size F1).drew) (Nat.le_refl _)
        have oD2 := own_next HO1.out.2 ((Below.refl F1.heap.size F1).drew) (Nat.le_refl _)
        have hl1 : (mk P.D.reverse P.D [oneB, twoB] (j + 1)).length = P.D.length + 2 := mk_len (by simp) rfl hlt
        have hl0 : (mk P.D.reverse P.D [oneB, twoB] j).length = P.D.length + 2 := mk_len (by simp) rfl (by omega)
        have cg := (own_cell oD1 (j := j) (by omega)).1
        rw [mk_at (n := P.D.length) (by simp) rfl hlt, HRa.out] at cg
        have hgh : gd ≠ hd := by have G1 := HG.out; have G2 := HGG.out; omega
        have cg2 : (F1.drew.setCell ⟨hd, j, none⟩ (.string d)).cell? ⟨gd, j, none⟩ = some (.string d) := by
          rw [World.cell?_setCell_other _ _ _ _ (fun e => hgh (by have h2 := congrArg Addr.block e; simpa using h2.symm))]; exact cg
        obtain ⟨od1, od2⟩ := own_cell oD2 (j := j) (by omega)
        have hch2 : ChT (fun b => b = gd ∨ b = hd) Y (F1.drew.setCell ⟨hd, j, none⟩ (.string d)) := (hch1.drew).set hd j _ (.inr rfl)
        have HSy : Hid (∀ F, ChT (fun b => b = gd ∨ b = hd) Y F → F.cell? ⟨gd, j, none⟩ = some (.string d) → F.cell? ⟨w8.heap.size, 5, none⟩ = some (.slice (some ⟨hd, 0, none⟩) P.D.length kd') ∧ F.cell? ⟨w2.heap.size, 5, none⟩ = some (.slice (some ⟨gd, 0, none⟩) P.D.length cd) ∧ F.cell? ⟨gd, j, none⟩ = some (.string d)) := fun F hF hc => by
          obtain ⟨_, _, k3, k4, _⟩ := HT1.out F hF
          exact ⟨k4.cells.2.2.2.2.2, k3.cells.2.2.2.2.2, hc⟩
        have HO2 : Hid (OwnS (F1.drew.setCell ⟨hd, j, none⟩ (.string d)) w1.heap.size (.slice (some ⟨gd, 0, none⟩) (P.D.length + 2) cd) (mk P.D.reverse P.D [oneB, twoB] (j + 1)) ∧ OwnS (F1.drew.setCell ⟨hd, j, none⟩ (.string d)) w7.heap.size (.slice (some ⟨hd, 0, none⟩) (P.D.length + 2) kd') (mk P.D.reverse P.D [oneB, twoB] (j + 1))) := by
          refine ⟨?_, ?_⟩
          · refine keep_row oD1 fun g hg _ => ?_
            have h0 : gd = g := by injection hg
            exact ((ChT.refl (fun b => b = hd) F1.drew).set hd j (.string d) rfl).block g (by show ¬ _ = _; omega)
          · have := ownS_set (j := j) oD2 d
            rw [HM.out] at this; exact this
        obtain ⟨t1, t2, t3⟩ := HSy.out _ hch1.drew cg
        have HCh2 := hide hch2
        clear oD1 oD2 hl1 hl0 q1 q2 q3 oc1 oc2 hF1 HSx HO HO1 HM
        go_upto_region 15 with (fail)
        go_region_held3 (fun Z => Z.cell? ⟨w8.heap.size, 5, none⟩ = some (.slice (some ⟨hd, 0, none⟩) P.D.length kd') ∧ Z.cell? ⟨w2.heap.size, 5, none⟩ = some (.slice (some ⟨gd, 0, none⟩) P.D.length cd) ∧ Z.cell? ⟨gd, j, none⟩ = some (.string d)) (first | assumption | (exact HSy.out _ hch1.drew cg) | (exact HSy.out _ HCh2.out cg2)) (fail)
        all_goals
          clear t1 t2 t3 cg cg2 od1 od2 hch1 hch2 HSy
          go_wp2
          go_roundg (P.D.length - (j + 1))
          case rel =>
            go_light
            exact ⟨j + 1, hlt, rfl, by go_num, HCh2, HO2⟩
          case measure => go_light; omega
    · obtain rfl : j = P.D.length := by omega
      have hlt' : ¬ (P.D.length : Int) < (P.D.length : Int) := by omega
      obtain ⟨V, rfl⟩ : ∃ V, V = wr := ⟨wr, rfl⟩
      have hO : OwnS V w1.heap.size (.slice (some ⟨gd, 0, none⟩) (P.D.length + 2) cd) (P.D.reverse ++ [oneB, twoB]) ∧ OwnS V w7.heap.size (.slice (some ⟨hd, 0, none⟩) (P.D.length + 2) kd') (P.D.reverse ++ [oneB, twoB]) := by
        have := HO.out
        rw [mk_all (n := P.D.length) (by simp) rfl] at this
        exact this
      have HT2 : Hid (∀ F, ChT (fun b => b = gs ∨ b = hs) V F → RdP F sa sb so sc da db dO dc P ∧ Six F w.heap.size (.int .i64 P.kd) (.int .i64 P.k) (.int .u64 (P.old : Int)) (.int .u64 (P.size : Int)) (.slice sa P.S.length sc) (.slice da P.D.length dc) ∧ Six F w2.heap.size (.int .i64 P.kd) (.int .i64 P.k) (.int .u64 (P.old : Int)) (.int .u64 (P.size : Int)) (.slice (some ⟨gs, 0, none⟩) P.S.length cs) (.slice (some ⟨gd, 0, none⟩) P.D.length cd) ∧ Six F w8.heap.size (.int .i64 P.kd) (.int .i64 P.k) (.int .u64 (P.old : Int)) (.int .u64 (P.size : Int)) (.slice (some ⟨hs, 0, none⟩) P.S.length ks) (.slice (some ⟨hd, 0, none⟩) P.D.length kd') ∧ OwnS F w1.heap.size (.slice (some ⟨gd, 0, none⟩) (P.D.length + 2) cd) (P.D.reverse ++ [oneB, twoB]) ∧ OwnS F w7.heap.size (.slice (some ⟨hd, 0, none⟩) (P.D.length + 2) kd') (P.D.reverse ++ [oneB, twoB]) ∧ Below W.heap.size W F) := fun F hF => by
        have G1 := HG.out
        have G2 := HGG.out
        have hBF : Below W.heap.size W F := r7.trans (hF.below (by rintro b (rfl | rfl) <;> omega))
        obtain ⟨k1, k2, _⟩ := HX.out F hBF
        refine ⟨k1, k2, r3.same (hF.block _ (by rintro (h | h) <;> omega)), r4.same (hF.block _ (by rintro (h | h) <;> omega)), ?_, ?_, hBF⟩
        · refine keep_row hO.1 fun g hg _ => hF.block g ?_
          have h0 : gd = g := by injection hg
          rintro (h | h) <;> omega
        · refine keep_row hO.2 fun g hg _ => hF.block g ?_
          have h0 : hd = g := by injection hg
          rintro (h | h) <;> omega
      have HU0 : Hid (Cv.Own V w1.heap.size (.slice (some ⟨gs, 0, none⟩) (P.S.length + 2) cs) (mk (P.S.map hv) P.S [7000000, 7000001] 0) ∧ Cv.Own V w7.heap.size (.slice (some ⟨hs, 0, none⟩) (P.S.length + 2) ks) (mk (P.S.map hv) P.S [7000000, 7000001] 0)) := by
        show _ ∧ _
        rw [mk_zero]; exact ⟨r5, r6⟩
      have hcs : (P.S.length : Int) ≤ (cs : Int) := by have := HG.out; omega
      have hks : (P.S.length : Int) ≤ (ks : Int) := by have := HGG.out; omega
      clear r1 r2 r3 r4 r5 r6 r7 hO HO HI hlt HT1 hj hj0
      go_wp2
      clear p5 hlt'
      go_loopg [14] P.S.length (fun gk i wz => ∃ m : Nat, m ≤ P.S.length ∧ gk = P.S.length - m ∧ i = .int .i64 (m : Int) ∧ Hid (ChT (fun b => b = gs ∨ b = hs) V wz) ∧ Hid (Cv.Own wz w1.heap.size (.slice (some ⟨gs, 0, none⟩) (P.S.length + 2) cs) (mk (P.S.map hv) P.S [7000000, 7000001] m) ∧ Cv.Own wz w7.heap.size (.slice (some ⟨hs, 0, none⟩) (P.S.length + 2) ks) (mk (P.S.map hv) P.S [7000000, 7000001] m)))
      case atStart =>
        go_light
        exact ⟨0, Nat.zero_le _, rfl, rfl, ChT.refl _ _, HU0⟩
      case round =>
        obtain ⟨m, hm, rfl, rfl, HI2, HU⟩ := hrel
        clear HU0
        obtain ⟨r1, r2, r3, r4, r5, r6, r7⟩ := HT2.out wr HI2.out
        have hm0 : (0 : Int) ≤ (m : Int) := Int.natCast_nonneg _
        obtain ⟨_, _, _, _, p4, _⟩ := r2.cells
        by_cases hlt : m < P.S.length
        · have hlt' : (m : Int) < (P.S.length : Int) := by omega
          obtain rfl := r1.rs.ptr (by omega)
          have hha := half_at hlt
          obtain ⟨y, hy⟩ : ∃ y, P.S.getD m 0 = y := ⟨_, rfl⟩
          rw [hy] at hha
          obtain ⟨d, hd0⟩ : ∃ d, hv y = d := ⟨_, rfl⟩
          obtain ⟨c, hc0⟩ : ∃ c, y / 2 = c := ⟨_, rfl⟩
          have hcd0 : c % 18446744073709551616 = d := by rw [← hc0]; exact hd0
          rw [hd0] at hha
          have HSx : Hid (∀ F, ChT (fun b => b = gs ∨ b = hs) V F → F.cell? ⟨w2.heap.size, 4, none⟩ = some (.slice (some ⟨gs, 0, none⟩) P.S.length cs) ∧ F.cell? ⟨w.heap.size, 4, none⟩ = some (.slice (some ⟨sb, so, none⟩) P.S.length sc) ∧ F.cell? ⟨sb, so + m, none⟩ = some (.int .u64 (y : Int)) ∧ F.cell? ⟨w8.heap.size, 4, none⟩ = some (.slice (some ⟨hs, 0, none⟩) P.S.length ks)) := fun F hF => by
            obtain ⟨k1, k2, k3, k4, _⟩ := HT2.out F hF
            exact ⟨k3.cells.2.2.2.2.1, k2.cells.2.2.2.2.1, by rw [← hy]; exact k1.rs.at (j := m) hlt, k4.cells.2.2.2.2.1⟩
          have q0 : (y : Int) / 2 = (c : Int) := by omega
          have q0' : Int.tdiv (y : Int) 2 = (c : Int) := by rw [Int.tdiv_eq_ediv_of_nonneg (by omega)]; exact q0
          have q0w : IntKind.u64.wrap (c : Int) = (d : Int) := by rw [IntKind.wrap_u64]; omega
          have hch1 : ChT (fun b => b = gs ∨ b = hs) V (wr.drew.setCell ⟨gs, m, none⟩ (.int .u64 (d : Int))) := (HI2.out.drew).set gs m _ (.inl rfl)
          have od := Cv.ownB_next HU.out.1 ((Below.refl wr.heap.size wr).drew)
          have hml : (mk (P.S.map hv) P.S [7000000, 7000001] m).length = P.S.length + 2 := mk_len (by simp) rfl hm
          obtain ⟨oc1, oc2⟩ := ownU_cell od (j := m) (by omega)
          obtain ⟨q1, q2, q3, q4⟩ := HSx.out _ HI2.out.drew
          have HM : Hid ((mk (P.S.map hv) P.S [7000000, 7000001] m).set m d = mk (P.S.map hv) P.S [7000000, 7000001] (m + 1)) := by
            show _ = _
            have := mk_set (R := P.S.map hv) (L := P.S) (M := [7000000, 7000001]) (n := P.S.length) (by simp) rfl hlt 0
            rw [hha] at this; exact this
          have HO1 : Hid (Cv.Own (wr.drew.setCell ⟨gs, m, none⟩ (.int .u64 (d : Int))) w1.heap.size (.slice (some ⟨gs, 0, none⟩) (P.S.length + 2) cs) (mk (P.S.map hv) P.S [7000000, 7000001] (m + 1)) ∧ Cv.Own (wr.drew.setCell ⟨gs, m, none⟩ (.int .u64 (d : Int))) w7.heap.size (.slice (some ⟨hs, 0, none⟩) (P.S.length + 2) ks) (mk (P.S.map hv) P.S [7000000, 7000001] m)) := by
            refine ⟨?_, ?_⟩
            · have := ownU_set (j := m) od d
              rw [HM.out] at this; exact this
            · refine keep_row (Cv.ownB_next HU.out.2 ((Below.refl wr.heap.size wr).drew)) fun g hg _ => ?_
              have h0 : hs = g := by injection hg
              have G1 := HG.out
              have G2 := HGG.out
              exact ((ChT.refl (fun b => b = gs) wr.drew).set gs m (.int .u64 (d : Int)) rfl).block g (by show ¬ _ = _; omega)
          clear r1 r2 r3 r4 r5 r6 r7 hha hd0 od hml hy hc0 hcd0
          go_upto_region 19 with (fail)
          clear p4
          go_region_held3 (fun Z => Z.cell? ⟨w2.heap.size, 4, none⟩ = some (.slice (some ⟨gs, 0, none⟩) P.S.length cs) ∧ Z.cell? ⟨w.heap.size, 4, none⟩ = some (.slice (some ⟨sb, so, none⟩) P.S.length sc) ∧ Z.cell? ⟨sb, so + m, none⟩ = some (.int .u64 (y : Int)) ∧ Z.cell? ⟨w8.heap.size, 4, none⟩ = some (.slice (some ⟨hs, 0, none⟩) P.S.length ks)) (first | assumption | (exact HSx.out _ HI2.out.drew) | (exact HSx.out _ hch1)) (fail)
          all_goals
            obtain ⟨F1, hF1⟩ : ∃ F1, (wr.drew.setCell ⟨gs, m, none⟩ (.int .u64 (d : Int))) = F1 := ⟨_, rfl⟩
            have hF2 : (wr.setCell ⟨gs, m, none⟩ (.int .u64 (d : Int))).drew = F1 := hF1
            rw [hF1] at hch1 HO1
            rw [hF2]
            clear hF2
            have oD1 := Cv.ownB_next HO1.out.1 ((Below.refl F1.heap.size F1).drew)
            have oD2 := Cv.ownB_next HO1.out.2 ((Below.refl F1.heap.size F1).drew)
            have hl0 : (mk (P.S.map hv) P.S [7000000, 7000001] m).length = P.S.length + 2 := mk_len (by simp) rfl (by omega)
            obtain ⟨od1, od2⟩ := ownU_cell oD2 (j := m) (by omega)
            have hch2 : ChT (fun b => b = gs ∨ b = hs) V (F1.drew.setCell ⟨hs, m, none⟩ (.int .u64 (d : Int))) := (hch1.drew).set hs m _ (.inr rfl)
            have HO2 : Hid (Cv.Own (F1.drew.setCell ⟨hs, m, none⟩ (.int .u64 (d : Int))) w1.heap.size (.slice (some ⟨gs, 0, none⟩) (P.S.length + 2) cs) (mk (P.S.map hv) P.S [7000000, 7000001] (m + 1)) ∧ Cv.Own (F1.drew.setCell ⟨hs, m, none⟩ (.int .u64 (d : Int))) w7.heap.size (.slice (some ⟨hs, 0, none⟩) (P.S.length + 2) ks) (mk (P.S.map hv) P.S [7000000, 7000001] (m + 1))) := by
              refine ⟨?_, ?_⟩
              · refine keep_row oD1 fun g hg _ => ?_
                have h0 : gs = g := by injection hg
                have G1 := HG.out
                have G2 := HGG.out
                exact ((ChT.refl (fun b => b = hs) F1.drew).set hs m (.int .u64 (d : Int)) rfl).block g (by show ¬ _ = _; omega)
              · have := ownU_set (j := m) oD2 d
                rw [HM.out] at this; exact this
            have HCh2 := hide hch2
            obtain ⟨t1, t2, t3, t4⟩ := HSx.out _ hch1.drew
            clear oD1 oD2 hl0 q1 q2 q3 q4 oc1 oc2 hF1 HU HO1 HM
            go_upto_region 20 with (fail)
            go_region_held3 (fun Z => Z.cell? ⟨w2.heap.size, 4, none⟩ = some (.slice (some ⟨gs, 0, none⟩) P.S.length cs) ∧ Z.cell? ⟨w.heap.size, 4, none⟩ = some (.slice (some ⟨sb, so, none⟩) P.S.length sc) ∧ Z.cell? ⟨sb, so + m, none⟩ = some (.int .u64 (y : Int)) ∧ Z.cell? ⟨w8.heap.size, 4, none⟩ = some (.slice (some ⟨hs, 0, none⟩) P.S.length ks)) (first | assumption | (exact HSx.out _ hch1.drew) | (exact HSx.out _ HCh2.out)) (fail)
            all_goals
              clear t1 t2 t3 t4 od1 od2 hch1 hch2 HSx
              go_wp2
              go_roundg (P.S.length - (m + 1))
              case rel =>
                go_light
                exact ⟨m + 1, hlt, rfl, by go_num, HCh2, HO2⟩
              case measure => go_light; omega
        · obtain rfl : m = P.S.length := by omega
          have hlt' : ¬ (P.S.length : Int) < (P.S.length : Int) := by omega
          have hU := HU.out
          rw [mk_all (n := P.S.length) (by simp) rfl] at hU
          have rx : RdP wr (some ⟨gs, 0, none⟩) gs 0 cs (some ⟨gd, 0, none⟩) gd 0 cd ⟨P.kd, P.k, P.old, P.size, P.S.map hv, P.D.reverse⟩ := ⟨own_rdu hU.1, own_rds r5 (fun d hd => HZ.out d (List.mem_reverse.1 hd)), r1.old64, r1.sz64, by have := r1.mS; simpa using this, by have := r1.mD; simpa using this, by have := HG.out; simp only [List.length_reverse]; omega⟩
          have rq : RdP wr (some ⟨hs, 0, none⟩) hs 0 ks (some ⟨hd, 0, none⟩) hd 0 kd' ⟨P.kd, P.k, P.old, P.size, P.S.map hv, P.D.reverse⟩ := ⟨own_rdu hU.2, own_rds r6 (fun d hd => HZ.out d (List.mem_reverse.1 hd)), r1.old64, r1.sz64, by have := r1.mS; simpa using this, by have := r1.mD; simpa using this, by have := HGG.out; simp only [List.length_reverse]; omega⟩
          have HE1 := encode_both wr _ _ _ _ _ _ _ _ _ rx
          have HE2 : Hid (∀ F, Below wr.heap.size wr F → (Calls Try.prog 17 #[.agg #[.int .i64 P.kd, .int .i64 P.k, .int .u64 (P.old : Int), .int .u64 (P.size : Int), .slice (some ⟨hs, 0, none⟩) P.S.length ks, .slice (some ⟨hd, 0, none⟩) P.D.length kd']] F fun e w' => e = .returned (.tuple #[.string (encS ⟨P.kd, P.k, P.old, P.size, P.S.map hv, P.D.reverse⟩), .int .i64 (encE ⟨P.kd, P.k, P.old, P.size, P.S.map hv, P.D.reverse⟩)]) ∧ Below F.heap.size F w') ∧ Six F w8.heap.size (.int .i64 P.kd) (.int .i64 P.k) (.int .u64 (P.old : Int)) (.int .u64 (P.size : Int)) (.slice (some ⟨hs, 0, none⟩) P.S.length ks) (.slice (some ⟨hd, 0, none⟩) P.D.length kd') ∧ Below w.heap.size w F) := fun F hF => by
            have := rencode_both F _ _ _ _ _ _ _ _ _ (rq.next hF)
            simp only [pvP, pv6, List.length_map, List.length_reverse] at this
            exact ⟨this, r4.next hF, bnext (HX.out wr r7).2.2 hF⟩
          simp only [pvP, pv6, List.length_map, List.length_reverse] at HE1
          generalize encS ⟨P.kd, P.k, P.old, P.size, P.S.map hv, P.D.reverse⟩ = sE at *
          generalize encE ⟨P.kd, P.k, P.old, P.size, P.S.map hv, P.D.reverse⟩ = eE at *
          obtain ⟨e0, e1, e2, e3, e4, e5⟩ := r3.cells
          have gE : (eE == eE) = true := beq_self_eq_true eE
          clear rx rq r1 r2 r3 r4 r5 r6 r7 hU HU HI2 HT2 hlt
          go_upto_region 22 with (go_at_call 11; with_reducible refine HE1.mono ?_; rintro x u1 ⟨rfl, hv1⟩)
          clear HE1 e0 e1 e2 e3 e4 e5 p4
          obtain ⟨HE3, k4, _⟩ := HE2.out _ hv1
          obtain ⟨e0, e1, e2, e3, e4, e5⟩ := k4.cells
          clear k4
          go_wp2_with (go_at_call 17; with_reducible refine HE3.mono ?_; rintro x u2 ⟨rfl, hv2⟩)
          go_ret
          exact ⟨rfl, (HE2.out _ (bnext hv1 hv2)).2.2⟩
end Go.Proofs.Ytelglfmppmdmoaa
