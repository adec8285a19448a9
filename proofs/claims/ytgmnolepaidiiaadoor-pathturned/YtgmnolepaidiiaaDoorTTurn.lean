/-
  The walk of PathTurned. Own work.
-/
import Derived.Test.YtgmnolepaidiiaaDoorTComp
import Derived.Test.YtgmnolepaidiiaaDoorTByt
import Derived.Laws.BitsAllLaws
namespace Go.Proofs.YtgmnolepaidiiaaDoor
open Go.RowKit
attribute [local go_sem ↓] Go.wp_at_zero Go.wp_at_succ
/-- Where mountains end. -/
def En : Nat → List (Nat × Nat) → Nat
  | lo, [] => lo
  | _, b :: r => En ((b.2 + 1) * 2 ^ b.1) r
theorem dn_en (n : Nat) : ∀ h lo, lo ≤ n → n - lo < 2 ^ h → 2 ^ h ∣ lo → En lo (Cv.dnL h lo n) = n
  | 0, lo, h1, h2, _ => by rw [Nat.pow_zero] at h2; show lo = n; omega
  | h + 1, lo, h1, h2, hd => by
    have hp := Nat.two_pow_pos h
    have hd' : 2 ^ h ∣ lo := Nat.dvd_trans (Nat.pow_dvd_pow 2 (by omega)) hd
    rw [Nat.pow_succ] at h2
    rw [Cv.dnL, show Pl.pw h = 2 ^ h from rfl]
    split
    · rw [En]
      rw [Nat.add_mul, Nat.div_mul_cancel hd', Nat.one_mul]
      exact dn_en n h (lo + 2 ^ h) (by omega) (by omega) (Nat.dvd_add hd' (Nat.dvd_refl _))
    · exact dn_en n h lo h1 (by omega) hd'
theorem wy_lone {n i H : Nat} {A B : List (Nat × Nat)} (h : Wy n i A H B) (hn : n ≤ 2 ^ 40) (h0 : H + (A.length + B.length) = 0) : n = 1 := by
  obtain rfl : H = 0 := by omega
  have hA : A = [] := List.length_eq_zero_iff.1 (by omega)
  have hB : B = [] := List.length_eq_zero_iff.1 (by omega)
  subst hA hB
  have h1 := dn_en n 41 0 (Nat.zero_le _) (by omega) (Nat.dvd_zero _)
  have h2 := dn_ch n 41 0 (Nat.dvd_zero _)
  rw [h.all] at h1 h2
  have e1 : (i / 2 ^ 0 + 1) * 2 ^ 0 = n := h1
  have e2 : i / 2 ^ 0 * 2 ^ 0 = 0 := h2.1
  omega
theorem own_setS {w : World} {B g m cap i : Nat} {l : List ByteArray} (h : OwnS w B (.slice (some ⟨g, 0, none⟩) m cap) l) (x : ByteArray) : OwnS (w.setCell ⟨g, i, none⟩ (.string x)) B (.slice (some ⟨g, 0, none⟩) m cap) (l.set i x) := by
  obtain ⟨h1, h2⟩ := h
  refine ⟨by simp, .inr ?_⟩
  rcases h2 with ⟨h2, h3⟩ | ⟨g', cap', cur, hv, hg, hh, h3, h4, h5, h6⟩
  · cases h2
  · obtain ⟨e1, e2, e3⟩ := Value.slice.inj hv
    cases e1
    have s1 : (w.setCell ⟨g, i, none⟩ (.string x)).heap[g]? = _ := heap_setCell_same w g i cur _ _ hh
    refine ⟨g, cap, _, by rw [e2]; simp, hg, s1, by simpa [e3] using h3, by omega, by simpa [e3] using h5, ?_⟩
    rw [List.length_set, Array.toList_setIfInBounds, List.take_set, h6, List.map_set]
/-- An index out of any number. -/
theorem wrap_ix (a : Int) (d : Nat) (h0 : 0 < d) (hd : d ≤ 1000) : ∃ m j, Int.tmod a (d : Int) = m ∧ Int.tmod (m + (d : Int)) (d : Int) = ((j : Nat) : Int) ∧ j < d ∧ -1000 < m ∧ m < 1000 := by
  have h1 := Int.tmod_lt_of_pos a (show (0 : Int) < (d : Int) by omega)
  have h2 := Int.lt_tmod_of_pos a (show (0 : Int) < (d : Int) by omega)
  have h3 : 0 ≤ Int.tmod a (d : Int) + (d : Int) := by omega
  have h4 := Int.emod_nonneg (Int.tmod a (d : Int) + (d : Int)) (show (d : Int) ≠ 0 by omega)
  have h5 := Int.emod_lt_of_pos (Int.tmod a (d : Int) + (d : Int)) (show (0 : Int) < (d : Int) by omega)
  refine ⟨_, (Int.tmod (Int.tmod a (d : Int) + (d : Int)) (d : Int)).toNat, rfl, ?_, ?_, by omega, by omega⟩
  · rw [Int.tmod_eq_emod_of_nonneg h3]; omega
  · rw [Int.tmod_eq_emod_of_nonneg h3]; omega
theorem xor_ne (a b : Nat) (hb : b ≠ 0) : a ^^^ b ≠ a := by
  intro h
  apply hb
  have := congrArg (fun x => a ^^^ x) h
  simp only [← Nat.xor_assoc, Nat.xor_self, Nat.zero_xor] at this
  exact this
set_option maxRecDepth 100000 in
set_option maxHeartbeats 4000000 in
theorem turned_walk (w : World) (ht : Tb w) (hr : Tr w) (k : Int) (ao : Option Addr) (b off len cap : Nat) (L : List ByteArray) (rd : RdS w ao b off len L) (hm : len ≤ 8796093022208) (n i0 : Nat) (at' : Int) (by' : Nat) (hby : by' < 256) :
    Calls Tryd.prog 6 #[.int .i64 k, .slice ao len cap, .int .u64 (n : Int), .int .u64 (i0 : Int), .int .i64 at', .int .u8 (by' : Int)] w fun e w' => e = .returned (.bool true) ∧ Below w.heap.size w w' := by
  obtain ⟨K, hK⟩ : ∃ K, stg k = K := ⟨_, rfl⟩
  have hK1 : 1 ≤ K ∧ K ≤ 32 := by rw [← hK]; exact stg_in k
  obtain ⟨T, hT⟩ : ∃ T, lst L = T := ⟨_, rfl⟩
  have hTl : T.length ≤ 80 := by rw [← hT]; exact lst_len L
  have hTs : ∀ s ∈ T, s.size ≤ 2000 := by rw [← hT]; exact lst_size L
  have HFx := fixed_any w ht hr
  have HSt : Hid (∀ W, Calls Tryd.prog 12 #[.int .i64 k] W fun e w' => e = .returned (.int .i64 K) ∧ W = w') := fun W => strength_any W k K hK
  have HLi : Hid (∀ W, Below w.heap.size w W → Calls Tryd.prog 13 #[.slice ao len cap] W fun e w' => ∃ al bl cl, e = .returned (.slice al T.length cl) ∧ RdS w' al bl 0 T.length T ∧ Below W.heap.size W w') := fun W hb => list_rd W ao b off len cap L (rd.next hb (Nat.le_refl _)) hm T hT
  have HWd : Hid (∀ W al bl cl, Below w.heap.size w W → RdS W al bl 0 T.length T → Calls Tryd.prog 14 #[.int .i64 K, .slice al T.length cl] W fun e w' => e = .returned (.pointer (some ⟨W.heap.size + 1, 0, none⟩)) ∧ Frs w' W.heap.size K T ∧ Below W.heap.size W w') := fun W al bl cl hb hr => wood_any W (ht.next hb) K hK1.1 hK1.2 al bl 0 T.length cl T hr hTl hTs
  have HT : Hid (∀ W, Below w.heap.size w W → Tb W ∧ Tr W) := fun W hb => ⟨ht.next hb, hr.next hb⟩
  have HX : Hid (T.length ≤ 80 ∧ (∀ s ∈ T, s.size ≤ 2000) ∧ 1 ≤ K ∧ K ≤ 32) := ⟨hTl, hTs, hK1⟩
  have h80 : (T.length : Int) ≤ 80 := by omega
  clear ht hr rd hm hK hT hTs
  go_enter Tryd.func6, Tryd.ntmps6
  go_upto_region 8 with (first
    | (go_at_call 7; with_reducible refine HFx.mono ?_; rintro e w1 ⟨rfl, hb1⟩)
    | (go_at_call 12; with_reducible refine (HSt.out _).mono ?_; rintro e ws ⟨rfl, rfl⟩)
    | (go_at_call 13; with_reducible refine (HLi.out _ hb1).mono ?_; rintro e w2 ⟨al, bl, cl, rfl, r2, hb2⟩)
    | (go_at_call 14; with_reducible refine (HWd.out _ _ _ _ (bnext hb1 hb2) r2).mono ?_; rintro e w3 ⟨rfl, hF3, hb3⟩))
  have hb03 := bnext (bnext hb1 hb2) hb3
  have HS : Hid (∀ W, Below w3.heap.size w3 W → Frs W w2.heap.size K T ∧ RdS W al bl 0 T.length T ∧ Tb W ∧ Tr W ∧ Below w.heap.size w W) := fun W hW => ⟨hF3.next hW (Nat.le_refl _), r2.next (bnext hb3 hW) (Nat.le_refl _), (HT.out W (bnext hb03 hW)).1, (HT.out W (bnext hb03 hW)).2, bnext hb03 hW⟩
  generalize w2.heap.size = m at *
  clear hF3 r2 hb1 hb2 hb3 HFx HSt HLi HWd HT
  by_cases h0 : T.length = 0
  · have hz : (T.length : Int) = 0 := by omega
    go_wp2
    go_ret
    exact ⟨rfl, hb03⟩
  · have hz : ¬ (T.length : Int) = 0 := by omega
    obtain ⟨r0, hr0⟩ : ∃ r0, n % T.length = r0 := ⟨_, rfl⟩
    have hr1 : r0 < T.length := by rw [← hr0]; exact Nat.mod_lt n (by omega)
    have hmod : (n : Int) % (T.length : Int) = (r0 : Int) := by omega
    obtain ⟨N, hN⟩ : ∃ N, r0 + 1 = N := ⟨_, rfl⟩
    have hN1 : N ≤ T.length := by omega
    have e36 : IntKind.u64.wrap ((r0 : Int) + 1) = (N : Int) := by rw [IntKind.wrap_u64]; omega
    have hN63 : (N : Int) ≤ 80 := by omega
    have hN0 : 1 ≤ N := by omega
    have hNz : ¬ (N : Int) = 0 := by omega
    obtain ⟨i, hi⟩ : ∃ i, i0 % N = i := ⟨_, rfl⟩
    have hlt : i < N := by rw [← hi]; exact Nat.mod_lt i0 (by omega)
    have himod : (i0 : Int) % (N : Int) = (i : Int) := by omega
    obtain ⟨f1, f2, f3, f4, f5⟩ := HS.out w3 (Below.refl _ _)
    obtain ⟨A, H, B, hwy⟩ := wy_ex N i (by omega) hlt
    obtain ⟨D, hD⟩ : ∃ D, dgP (clk K) T i H A B = D := ⟨_, rfl⟩
    have HPr := prove_rd w3 m K T f1 N i H A B hwy hN1 hlt D hD
    have hsh := hwy.short (by omega)
    have hDl : D.length = H + (A.length + B.length) := by rw [← hD, dgP_len]
    obtain ⟨li, hli⟩ : ∃ li, T.getD i ByteArray.empty = li := ⟨_, rfl⟩
    have hiTn : i < T.length := by omega
    have hiT : (i : Int) < (T.length : Int) := by omega
    have zli : li.size ≤ 2000 := by rw [← hli]; exact HX.out.2.1 _ (getD_mem hiTn)
    obtain rfl := f2.ptr (by omega)
    have hsD : ∀ s ∈ D, s.size = clk K := by rw [← hD]; exact dgP_size (clk_le K) T i H A B
    have HLc : Hid (∀ W, Below w3.heap.size w3 W → W.cell? ⟨bl, i, none⟩ = some (.string li)) := fun W hW => by
      have := ((HS.out W hW).2.1).at hiTn
      rw [hli, Nat.zero_add] at this
      exact this
    have HDl : Hid (D.length = H + (A.length + B.length) ∧ D.length ≤ 14 ∧ (D.length = 0 → N = 1) ∧ (∀ s ∈ D, s.size = clk K) ∧ Wy N i A H B) := ⟨hDl, by omega, fun h => wy_lone hwy (by omega) (by omega), hsD, hwy⟩
    have hD14 : (D.length : Int) ≤ 14 := by omega
    have hz0 : (0 : Int) ≤ (i : Int) := Int.natCast_nonneg _
    clear hD hsD hli hwy hsh f1 f2 f3 f4 f5 hDl hN hr1 hr0 hi hlt
    go_upto_region 13 with (go_at_call 16; with_reducible refine HPr.mono ?_; rintro e w6 ⟨bs, cs, ad, bd, cd, rfl, hA, hR, hcd, hcd63, hnd, hfl, _, _, hb6⟩)
    obtain ⟨w7, hw7⟩ : ∃ w7, w6.alloc (.cells #[.int .i64 1, .int .i64 K, .int .u64 0, .int .u64 (N : Int), .slice (some ⟨bs, 0, none⟩) 1 cs, .slice ad D.length cd] 26) = w7 := ⟨_, rfl⟩
    have hb67 : Below w6.heap.size w6 w7 := by rw [← hw7]; exact bal (Below.refl _ _) _
    have h6 : Six w7 w6.heap.size (.int .i64 1) (.int .i64 K) (.int .u64 0) (.int .u64 (N : Int)) (.slice (some ⟨bs, 0, none⟩) 1 cs) (.slice ad D.length cd) := by rw [← hw7]; exact six_new w6 _ _ _ _ _ _
    have hb7 := bnext hb6 hb67
    have HQ : Hid (∀ W, Below w7.heap.size w7 W → Six W w6.heap.size (.int .i64 1) (.int .i64 K) (.int .u64 0) (.int .u64 (N : Int)) (.slice (some ⟨bs, 0, none⟩) 1 cs) (.slice ad D.length cd) ∧ RA W K N bs 0 i H A B ∧ RdS W ad bd 0 D.length D ∧ Tb W ∧ Tr W ∧ W.cell? ⟨bl, i, none⟩ = some (.string li) ∧ Below w.heap.size w W) := fun W hW => by
      obtain ⟨_, _, y3, y4, y5⟩ := HS.out W (bnext hb7 hW)
      exact ⟨h6.next hW, hA.next (bnext hb67 hW), hR.next (bnext hb67 hW) (Nat.le_refl _), y3, y4, HLc.out W (bnext hb7 hW), y5⟩
    have HV : Hid (D.length ≤ cd ∧ cd ≤ 9223372036854775807 ∧ (ad = none → cd = 0) ∧ fil K (H + A.length + B.length) D) := ⟨hcd, hcd63, hnd, hfl⟩
    have HAs : Hid (Calls Tryd.prog 17 #[.agg #[.int .i64 1, .int .i64 K, .int .u64 0, .int .u64 (N : Int), .slice (some ⟨bs, 0, none⟩) 1 cs, .slice ad D.length cd], .int .i64 K, .int .u64 (N : Int), .int .u64 (i : Int)] w7 fun e w' => e = .returned (.bool true) ∧ Below w7.heap.size w7 w') :=
      asked_yes w7 K N bs 0 cs i H A B (hA.next hb67) ad bd 0 cd D (hR.next hb67 (Nat.le_refl _)) (by omega) hfl
    rw [hw7]
    generalize w6.heap.size = q15 at *
    clear hw7 hb67 hb7 hA hR hcd hcd63 hnd hfl HPr hb6 HS HLc hb03
    obtain ⟨e0, e1, e2, e3, e4, e5⟩ := h6.cells
    clear h6
    go_upto_region 15 with (go_at_call 17; with_reducible refine HAs.out.mono ?_; rintro e w8 ⟨rfl, hb8⟩)
    clear e0 e1 e2 e3 e4 e5 HAs
    obtain ⟨e0, e1, e2, e3, e4, e5⟩ := (HQ.out w8 hb8).1.cells
    by_cases hd0 : D.length = 0
    · have hdz : (D.length : Int) = 0 := by omega
      have hN1' := HDl.out.2.2.1 hd0
      subst hN1'
      have HF := hide (HQ.out w8 hb8).2.2.2.2.2.2
      go_wp2
      go_ret
      exact ⟨rfl, HF.out⟩
    · have hdz : ¬ (D.length : Int) = 0 := by omega
      obtain ⟨m1, j, hm1, hj1, hjd, hm2, hm3⟩ := wrap_ix at' D.length (by omega) (by have := HDl.out.2.1; omega)
      have g1 : IntKind.i64.wrap m1 = m1 := by rw [IntKind.wrap_i64]; omega
      have g2 : IntKind.i64.wrap (m1 + (D.length : Int)) = m1 + (D.length : Int) := by rw [IntKind.wrap_i64]; omega
      have g3 : IntKind.i64.wrap (j : Int) = (j : Int) := by rw [IntKind.wrap_i64]; have := HDl.out.2.1; omega
      go_upto_region 17 with (fail)
      go_quiet (fail)
      obtain ⟨w9, hw9⟩ : ∃ w9, w8.drewN nq = w9 := ⟨_, rfl⟩
      have hb9 : Below w7.heap.size w7 w9 := by rw [← hw9]; exact below_drewN hb8 nq
      rw [hw9]
      clear hw9 e0 e1 e2 e3 e4 e5 hm1 hj1 hm2 hm3 g1 g2 g3
      obtain ⟨x1, x2, x3, x4, x5, x6, x7⟩ := HQ.out w9 hb9
      obtain ⟨e0, e1, e2, e3, e4, e5⟩ := x1.cells
      have hS1 : RdU w9 (some ⟨bs, 0, none⟩) bs 0 1 [i] := ⟨rfl, fun _ => rfl, fun t v hv => by
        match t, hv with
        | 0, hv => cases hv; exact x2.ci⟩
      have HLn := lent_any w9 1 K 0 N (some ⟨bs, 0, none⟩) bs 0 cs [i] hS1 (fun e => by cases e) (by simp) ad bd 0 cd D x3 HV.out.2.2.1 (by have := HDl.out.2.1; omega)
      rw [show ([i] : List Nat).length = 1 from rfl, show ((0 : Nat) : Int) = 0 from rfl] at HLn
      clear x1 x2 x3 x4 x5 x6 x7 hS1
      go_upto_region 19 with (go_at_call 8; with_reducible refine HLn.mono ?_; rintro e w10 ⟨gs, cs2, gd, cd2, rfl, o1, o2, hcs2, hcd2, hcd263, hb10⟩)
      obtain ⟨w11, hw11⟩ : ∃ w11, w10.alloc (.cells #[.int .i64 1, .int .i64 K, .int .u64 0, .int .u64 (N : Int), .slice (some ⟨gs, 0, none⟩) 1 cs2, .slice (some ⟨gd, 0, none⟩) D.length cd2] 26) = w11 := ⟨_, rfl⟩
      have hb1011 : Below w10.heap.size w10 w11 := by rw [← hw11]; exact bal (Below.refl _ _) _
      have h18 : Six w11 w10.heap.size (.int .i64 1) (.int .i64 K) (.int .u64 0) (.int .u64 (N : Int)) (.slice (some ⟨gs, 0, none⟩) 1 cs2) (.slice (some ⟨gd, 0, none⟩) D.length cd2) := by rw [← hw11]; exact six_new w10 _ _ _ _ _ _
      have hb11 := bnext hb9 (bnext hb10 hb1011)
      have o1' := Cv.ownB_next o1 hb1011
      have o2' := own_next o2 hb1011 (Nat.le_refl _)
      have hgd10 := o2.lt gd rfl
      have hgs10 := o1.lt gs rfl
      have hgsd : gs ≠ gd := by
        rintro rfl
        obtain ⟨_, h⟩ := o1
        obtain ⟨_, h'⟩ := o2
        rcases h with ⟨h, _⟩ | ⟨_, _, _, h, _, hh, _⟩
        · cases h
        rcases h' with ⟨h', _⟩ | ⟨_, _, _, h', _, hh', _⟩
        · cases h'
        cases (Value.slice.inj h).1
        cases (Value.slice.inj h').1
        rw [hh] at hh'
        injection hh' with hh'
        injection hh' with _ e2 _
        exact absurd e2 (by decide)
      rw [hw11]
      have HO : Hid (Six w11 w10.heap.size (.int .i64 1) (.int .i64 K) (.int .u64 0) (.int .u64 (N : Int)) (.slice (some ⟨gs, 0, none⟩) 1 cs2) (.slice (some ⟨gd, 0, none⟩) D.length cd2) ∧ Cv.Own w11 w9.heap.size (.slice (some ⟨gs, 0, none⟩) (1 + 1) cs2) ([i] ++ [7000000]) ∧ OwnS w11 w9.heap.size (.slice (some ⟨gd, 0, none⟩) (D.length + 1) cd2) (D ++ [markB]) ∧ w9.heap.size ≤ gs ∧ w9.heap.size ≤ gd ∧ gs < w10.heap.size ∧ gd < w10.heap.size ∧ gs ≠ gd ∧ w10.heap.size < w11.heap.size ∧ D.length + 1 ≤ cd2 ∧ cd2 ≤ 9223372036854775807 ∧ w7.heap.size ≤ w9.heap.size) := ⟨h18, o1', o2', hgs10.1, hgd10.1, hgs10.2, hgd10.2, hgsd, by rw [← hw11]; simp, hcd2, hcd263, hb9.size⟩
      generalize w10.heap.size = q18 at *
      clear hw11 hb1011 h18 hb10 o1 o2 o1' o2' hgd10 hgs10 hgsd HLn e0 e1 e2 e3 e4 e5 hcs2 hcd2 hcd263 hb8
      obtain ⟨x1, x2, x3, x4, x5, x6, x7⟩ := HQ.out w11 hb11
      obtain ⟨e0, e1, e2, e3, e4, e5⟩ := x1.cells
      obtain rfl := x3.ptr (by omega)
      have cz := x3.at hjd
      obtain ⟨z, hzz⟩ : ∃ z, D.getD j ByteArray.empty = z := ⟨_, rfl⟩
      rw [hzz, Nat.zero_add] at cz
      have zz : z.size = clk K := by rw [← hzz]; exact HDl.out.2.2.2.1 _ (getD_mem hjd)
      have hjz : (j : Int) < (D.length : Int) := by omega
      have hjz0 : (0 : Int) ≤ (j : Int) := Int.natCast_nonneg _
      have kb := fun W => run_bytes_of_string (P := Tryd.prog) W 9 54 5 z Tryd.underlying9 Tryd.underlying54 Tryd.underlying5
      have HZZ := hide (And.intro zz (And.intro hzz hjd))
      clear x1 x2 x3 x4 x5 x6 x7 zz hzz
      go_upto_if 92 with (fail)
      have hby2 : Byt (w11.alloc (.cells (bytesRow z (grownCap w11 z.size 0 5)) 5 ((bytesRow z (grownCap w11 z.size 0 5)).size, (bytesRow z (grownCap w11 z.size 0 5)).size + 1))).drew w11.heap.size z.data.toList := by
        have := byt_new w11 z (grownCap w11 z.size 0 5) 5
        exact ⟨this.rng, this.thr⟩
      have hb12 : Below w11.heap.size w11 (w11.alloc (.cells (bytesRow z (grownCap w11 z.size 0 5)) 5 ((bytesRow z (grownCap w11 z.size 0 5)).size, (bytesRow z (grownCap w11 z.size 0 5)).size + 1))).drew := (bal (Below.refl _ _) _).drew
      generalize (w11.alloc (.cells (bytesRow z (grownCap w11 z.size 0 5)) 5 ((bytesRow z (grownCap w11 z.size 0 5)).size, (bytesRow z (grownCap w11 z.size 0 5)).size + 1))).drew = w12 at *
      generalize grownCap w11 z.size 0 5 = capB
      have HBy := hide (And.intro hby2 hb12)
      clear hby2 hb12 kb e0 e1 e2 e3 e4 e5 cz
      go_cut [5] from 91 to 92 (fun y wx => ∃ bb : Nat, y = .int .u8 (bb : Int) ∧ bb ≠ 0 ∧ bb < 256 ∧ w12 = wx)
      case first =>
        by_cases hb0 : by' = 0
        · subst hb0
          go_wp2
          go_meet
          case rel =>
            go_light
            exact ⟨1, rfl, by decide, by decide, rfl⟩
        · have hbz : ¬ (by' : Int) = 0 := by omega
          go_wp2
          go_meet
          case rel =>
            go_light
            exact ⟨by', rfl, hb0, hby, rfl⟩
      case rest =>
        obtain ⟨bb, rfl, hbb0, hbb, rfl⟩ := hcut
        have hck := clk_le K
        have hck1 := clk_ge K
        have hzs := HZZ.out.1
        obtain ⟨mm, cc, hmm1, hcc1, hccd, hmm2, hmm3⟩ := wrap_ix at' z.size (by omega) (by omega)
        have g1 : IntKind.i64.wrap mm = mm := by rw [IntKind.wrap_i64]; omega
        have g2 : IntKind.i64.wrap (mm + (z.size : Int)) = mm + (z.size : Int) := by rw [IntKind.wrap_i64]; omega
        have g3 : IntKind.i64.wrap (cc : Int) = (cc : Int) := by rw [IntKind.wrap_i64]; omega
        have hcz : (cc : Int) < (z.size : Int) := by omega
        have hcz0 : (0 : Int) ≤ (cc : Int) := Int.natCast_nonneg _
        have hzz0 : ¬ (z.size : Int) = 0 := by omega
        have hzl : z.data.toList.length = z.size := by simp
        have cb := HBy.out.1.at (j := cc) (by rw [hzl]; exact hccd)
        have fbz := HBy.out.1.free (j := cc) (by rw [hzl]; exact hccd)
        obtain ⟨av, hav⟩ : ∃ av, (z.data.toList.getD cc 0).toNat = av := ⟨_, rfl⟩
        have hav256 : av < 256 := by rw [← hav]; exact UInt8.toNat_lt _
        rw [hav] at cb
        have hxr := u8_xor_nat av bb hav256 hbb
        have hx256 : av ^^^ bb < 256 := Nat.xor_lt_two_pow (n := 8) hav256 hbb
        obtain ⟨xv, hxv⟩ : ∃ xv, av ^^^ bb = xv := ⟨_, rfl⟩
        rw [hxv] at hxr hx256
        have hxne : xv ≠ av := by rw [← hxv]; exact xor_ne av bb hbb0
        have hby3 := HBy.out.1.set cc (UInt8.ofNat xv) (xv : Int) (by rw [UInt8.toNat_ofNat', Nat.mod_eq_of_lt (by simpa using hx256)])
        have hl2 : (z.data.toList.set cc (UInt8.ofNat xv)).length = z.size := by rw [List.length_set, hzl]
        obtain ⟨l2, hl2e⟩ : ∃ l2, z.data.toList.set cc (UInt8.ofNat xv) = l2 := ⟨_, rfl⟩
        rw [hl2e] at hby3 hl2
        have hne2 : (⟨l2.toArray⟩ : ByteArray) ≠ z := by
          intro e
          have e1 : l2 = z.data.toList := by have := congrArg (fun q : ByteArray => q.data.toList) e; simpa using this
          rw [← hl2e] at e1
          have e2 := congrArg (fun q : List UInt8 => (q.getD cc 0).toNat) e1
          simp only [List.getD_eq_getElem?_getD, List.getElem?_set_self (show cc < z.data.toList.length by rw [hzl]; exact hccd), Option.getD_some] at e2
          rw [UInt8.toNat_ofNat', Nat.mod_eq_of_lt (by simpa using hx256), ← List.getD_eq_getElem?_getD, hav] at e2
          exact hxne e2
        have hz2s : (⟨l2.toArray⟩ : ByteArray).size = z.size := by rw [← hl2]; simp [ByteArray.size]
        have HBB2 := hide (And.intro hby3 (And.intro hl2 (And.intro hne2 hz2s)))
        clear hzs hmm2 hmm3 hav hxv hxne hby3 hl2 hl2e hne2 hz2s hby hbb hbb0 hav256
        have hb12' : Below w7.heap.size w7 w12 := bnext hb11 HBy.out.2
        obtain ⟨h18, o1, o2, hg1, hg2, hg3, hg4, hg5, hg6, hg7, hg8, hg9⟩ := HO.out
        have h18' := h18.next HBy.out.2
        obtain ⟨e0, e1, e2, e3, e4, e5⟩ := h18'.cells
        have hw11s := HBy.out.2.size
        have hgB : w11.heap.size < w12.heap.size := by
          have := World.block_lt_of_cell? w12 _ cb
          exact this
        have o2' := own_next o2 HBy.out.2 (Nat.le_refl _)
        have o1' := Cv.ownB_next o1 HBy.out.2
        have cd0 := (own_cell o2' (j := j) (by rw [List.length_append]; omega)).1
        have fd0 := (own_cell o2' (j := j) (by rw [List.length_append]; omega)).2
        have cdj : (w12.setCell ⟨w11.heap.size, cc, none⟩ (.int .u8 (xv : Int))).cell? ⟨gd, j, none⟩ = some (.string ((D ++ [markB]).getD j ByteArray.empty)) := (World.cell?_setCell_other _ _ _ _ (by intro e; have := congrArg Addr.block e; simp at this; omega)).trans cd0
        have fdj : (w12.setCell ⟨w11.heap.size, cc, none⟩ (.int .u8 (xv : Int))).frozen? ⟨gd, j, none⟩ = false := by rw [World.frozen?_setCell]; exact fd0
        have e5' : (w12.setCell ⟨w11.heap.size, cc, none⟩ (.int .u8 (xv : Int))).cell? ⟨q18, 5, none⟩ = some (.slice (some ⟨gd, 0, none⟩) D.length cd2) := (World.cell?_setCell_other _ _ _ _ (by intro e; have := congrArg Addr.block e; simp at this; omega)).trans e5
        have kc := conv_any (w12.setCell ⟨w11.heap.size, cc, none⟩ (.int .u8 (xv : Int))) w11.heap.size capB l2 z.size HBB2.out.2.1 HBB2.out.1
        obtain ⟨z2, hz2⟩ : ∃ z2, (⟨l2.toArray⟩ : ByteArray) = z2 := ⟨_, rfl⟩
        rw [hz2] at kc
        obtain ⟨D2, hD2⟩ : ∃ D2, D.set j z2 = D2 := ⟨_, rfl⟩
        obtain ⟨w14, hw14⟩ : ∃ w14, (w12.setCell ⟨w11.heap.size, cc, none⟩ (.int .u8 (xv : Int))).setCell ⟨gd, j, none⟩ (.string z2) = w14 := ⟨_, rfl⟩
        have hch : ChT (fun b => b = w11.heap.size ∨ b = gd) w12 w14 := by
          rw [← hw14]
          exact ((ChT.refl _ w12).set w11.heap.size cc _ (.inl rfl)).set gd j _ (.inr rfl)
        have hb14 : Below w7.heap.size w7 w14 := hb12'.trans (hch.below (by have := hb11.size; rintro b (rfl | rfl) <;> omega))
        have h18w : Six w14 q18 (.int .i64 1) (.int .i64 K) (.int .u64 0) (.int .u64 (N : Int)) (.slice (some ⟨gs, 0, none⟩) 1 cs2) (.slice (some ⟨gd, 0, none⟩) D.length cd2) := h18'.same (hch.block q18 (by rintro (e | e) <;> omega))
        have o2w : OwnS w14 w9.heap.size (.slice (some ⟨gd, 0, none⟩) (D.length + 1) cd2) ((D ++ [markB]).set j z2) := by
          rw [← hw14]
          refine own_setS (keep_row o2' fun g hg _ => ?_) z2
          cases hg
          exact Below.heap_setCell _ _ _ _ (by show gd ≠ w11.heap.size; omega)
        have hset : (D ++ [markB]).set j z2 = D2 ++ [markB] := by rw [← hD2, List.set_append_left _ _ HZZ.out.2.2]
        rw [hset] at o2w
        have hD2l : D2.length = D.length := by rw [← hD2, List.length_set]
        have hz2s : z2.size = z.size := by rw [← hz2]; exact HBB2.out.2.2.2
        have hsD2 : ∀ s ∈ D2, s.size = clk K := fun s hs => by
          rw [← hD2] at hs
          rcases List.mem_or_eq_of_mem_set hs with h | h
          · exact HDl.out.2.2.2.1 s h
          · rw [h, hz2s]; exact HZZ.out.1
        have hDne : D ≠ D2 := by
          intro e
          apply HBB2.out.2.2.1
          rw [hz2, ← HZZ.out.2.1]
          have := congrArg (fun q : List ByteArray => q.getD j ByteArray.empty) (hD2.trans e.symm)
          simp only [List.getD_eq_getElem?_getD, List.getElem?_set_self HZZ.out.2.2, Option.getD_some] at this
          rw [List.getD_eq_getElem?_getD]; exact this
        have rd2 : RdS w14 (some ⟨gd, 0, none⟩) gd 0 D.length D2 := by
          refine ⟨hD2l, fun _ => rfl, fun t v hv => ?_, fun s hs => by rw [hsD2 s hs]; omega⟩
          have := o2w.cells (g := gd) rfl t v (by rw [List.map_append, List.getElem?_append_left (by rw [List.length_map]; have := (List.getElem?_eq_some_iff.1 hv).1; simpa using this)]; exact hv)
          rwa [Addr.add_mid] at this
        have o1w := keep_row o1' fun g hg _ => by
          obtain rfl : gs = g := Option.some.inj hg
          exact hch.block gs (by rintro (e | e) <;> omega)
        have ci2 : w14.cell? ⟨gs, 0, none⟩ = some (.int .u64 (i : Int)) := by
          have := o1w.cells (g := gs) rfl 0 (.int .u64 (i : Int)) rfl
          rwa [Addr.add_mid] at this
        obtain ⟨x1, x2, x3, x4, x5, x6, x7⟩ := HQ.out w14 hb14
        have hA2 : RA w14 K N gs 0 i H A B := ⟨x2.k1, x2.n, x2.il, x2.wy, ci2⟩
        have hfl2 : fil K (H + A.length + B.length) D2 := ⟨by rw [hD2l]; exact HV.out.2.2.2.1, fun d hd => by rw [hsD2 d hd]; exact clk_id x2.k1⟩
        obtain ⟨ra, hra⟩ : ∃ ra, rtP (clk K) N i A.length H D li = ra := ⟨_, rfl⟩
        obtain ⟨rb, hrb⟩ : ∃ rb, rtP (clk K) N i A.length H D2 li = rb := ⟨_, rfl⟩
        have HRp : Hid (∀ W, Below w14.heap.size w14 W → Calls Tryd.prog 9 #[.agg #[.int .i64 1, .int .i64 K, .int .u64 0, .int .u64 (N : Int), .slice (some ⟨bs, 0, none⟩) 1 cs, .slice (some ⟨bd, 0, none⟩) D.length cd], .string li] W fun e w' => e = .returned (.tuple #[.agg #[.int .u64 (N : Int), .string ra], .int .i64 0]) ∧ Below W.heap.size W w') := fun W hW => by
          obtain ⟨_, y2, y3, y4, _⟩ := HQ.out W (bnext hb14 hW)
          exact proot_ok W K N bs 0 cs i H A B y2 (some ⟨bd, 0, none⟩) bd 0 cd D y3 (by omega) li HV.out.2.2.2 (by omega) y4 HV.out.1 HV.out.2.1 (fun e => by cases e) ra hra
        have HRq : Hid (∀ W, Below w14.heap.size w14 W → Calls Tryd.prog 9 #[.agg #[.int .i64 1, .int .i64 K, .int .u64 0, .int .u64 (N : Int), .slice (some ⟨gs, 0, none⟩) 1 cs2, .slice (some ⟨gd, 0, none⟩) D.length cd2], .string li] W fun e w' => e = .returned (.tuple #[.agg #[.int .u64 (N : Int), .string rb], .int .i64 0]) ∧ Below W.heap.size W w') := fun W hW => by
          obtain ⟨_, _, _, y4, _⟩ := HQ.out W (bnext hb14 hW)
          have := proot_ok W K N gs 0 cs2 i H A B (hA2.next hW) (some ⟨gd, 0, none⟩) gd 0 cd2 D2 (by rw [hD2l]; exact rd2.next hW (Nat.le_refl _)) (by omega) li hfl2 (by omega) y4 (by omega) hg8 (fun e => by cases e) rb hrb
          rw [hD2l] at this
          exact this
        obtain ⟨X1, hX1⟩ : ∃ X1, trl (clk K) i A.length H D li = X1 := ⟨_, rfl⟩
        obtain ⟨X2, hX2⟩ : ∃ X2, trl (clk K) i A.length H D2 li = X2 := ⟨_, rfl⟩
        have hDlen := HDl.out.1
        have hl1 : X1.length = D.length + 2 := by rw [← hX1]; exact trl_len (by omega)
        have hl2' : X2.length = D.length + 2 := by rw [← hX2, trl_len (by omega), hD2l]
        have zx1 : ∀ s ∈ X1, s.size ≤ 1000000 := by rw [← hX1]; exact trl_size (clk_le K) HDl.out.2.2.2.1 zli
        have zx2 : ∀ s ∈ X2, s.size ≤ 1000000 := by rw [← hX2]; exact trl_size (clk_le K) hsD2 zli
        have hcl : Clh (clk K) X1 X2 := by rw [← hX1, ← hX2]; exact trl_part (clk_le K) hD2l.symm HDl.out.2.2.2.1 hsD2 (by omega) (.inr hDne)
        have HZ : Hid ((∀ s ∈ X1, s.size ≤ 9223372036854775807) ∧ ∀ s ∈ X2, s.size ≤ 9223372036854775807) := ⟨fun s hs => by have := zx1 s hs; omega, fun s hs => by have := zx2 s hs; omega⟩
        have HTl : Hid (∀ W, Below w14.heap.size w14 W → Calls Tryd.prog 19 #[.agg #[.int .i64 1, .int .i64 K, .int .u64 0, .int .u64 (N : Int), .slice (some ⟨bs, 0, none⟩) 1 cs, .slice (some ⟨bd, 0, none⟩) D.length cd], .string li] W fun e w' => ∃ v, e = .returned v ∧ OwnS w' W.heap.size v X1 ∧ Below W.heap.size W w') := fun W hW => by
          obtain ⟨_, y2, y3, _, y5, _⟩ := HQ.out W (bnext hb14 hW)
          rw [← hX1]
          exact ltrail_any W y5 K N bs 0 cs i H A B y2 (some ⟨bd, 0, none⟩) bd 0 cd D y3 HV.out.2.2.2 li zli
        have HTy : Hid (∀ W, Below w14.heap.size w14 W → Calls Tryd.prog 19 #[.agg #[.int .i64 1, .int .i64 K, .int .u64 0, .int .u64 (N : Int), .slice (some ⟨gs, 0, none⟩) 1 cs2, .slice (some ⟨gd, 0, none⟩) D.length cd2], .string li] W fun e w' => ∃ v, e = .returned v ∧ OwnS w' W.heap.size v X2 ∧ Below W.heap.size W w') := fun W hW => by
          obtain ⟨_, _, _, _, y5, _⟩ := HQ.out W (bnext hb14 hW)
          have := ltrail_any W y5 K N gs 0 cs2 i H A B (hA2.next hW) (some ⟨gd, 0, none⟩) gd 0 cd2 D2 (by rw [hD2l]; exact rd2.next hW (Nat.le_refl _)) hfl2 li zli
          rw [hD2l, hX2] at this
          exact this
        have HCl : Hid (∀ W ao1 b1 c1 ao2 b2 c2, Below w14.heap.size w14 W → RdS W ao1 b1 0 X1.length X1 → RdS W ao2 b2 0 X2.length X2 → Calls Tryd.prog 18 #[.slice ao1 X1.length c1, .slice ao2 X2.length c2, .int .i64 K] W fun e w' => e = .returned (.bool true) ∧ Below W.heap.size W w') := fun W ao1 b1 c1 ao2 b2 c2 hW h1 h2 => by
          obtain ⟨_, _, _, _, y5, _⟩ := HQ.out W (bnext hb14 hW)
          have e12 : X2.length = X1.length := by omega
          rw [e12] at h2 ⊢
          exact clash_yes W y5 K HX.out.2.2.1 HX.out.2.2.2 ao1 b1 0 c1 ao2 b2 0 c2 X1 X2 h1 h2 (by omega) zx1 zx2 hcl
        have HP14 : Hid (∀ W, Below w14.heap.size w14 W → Six W q15 (.int .i64 1) (.int .i64 K) (.int .u64 0) (.int .u64 (N : Int)) (.slice (some ⟨bs, 0, none⟩) 1 cs) (.slice (some ⟨bd, 0, none⟩) D.length cd) ∧ W.cell? ⟨bl, i, none⟩ = some (.string li)) := fun W hW => ⟨(HQ.out W (bnext hb14 hW)).1, (HQ.out W (bnext hb14 hW)).2.2.2.2.2.1⟩
        have HQ14 : Hid (∀ W, Below w14.heap.size w14 W → Six W q18 (.int .i64 1) (.int .i64 K) (.int .u64 0) (.int .u64 (N : Int)) (.slice (some ⟨gs, 0, none⟩) 1 cs2) (.slice (some ⟨gd, 0, none⟩) D.length cd2) ∧ W.cell? ⟨bl, i, none⟩ = some (.string li)) := fun W hW => ⟨h18w.next hW, (HQ.out W (bnext hb14 hW)).2.2.2.2.2.1⟩
        have HB14 := hide x7
        have hjD1 : (j : Int) < (D.length : Int) := hjz
        clear hb12' h18 o1 o2 hg1 hg2 hg3 hg4 hg5 hg6 hg7 hg8 hg9 h18' e0 e1 e2 e3 e4 hw11s hgB o2' o1' hch hb14 h18w o2w hset hD2l hz2s hsD2 hDne rd2 o1w ci2 x1 x2 x3 x4 x5 x6 x7 hA2 hfl2 hra hrb hX1 hX2 hDlen hl1 hl2' zx1 zx2 hcl HO HQ HV HBB2 HBy hb11 hb9 HDl hD2 hz2 cd0 fd0
        go_upto_region 25 with (fail)
        try rw [hw14]
        clear hw14 cb fbz cdj fdj kc e5 e5' hxr
        have hd8 := (Below.refl w14.heap.size w14).drew
        have hd8a := (bal (Below.refl w14.heap.size w14) (.cells #[.int .u64 0, .string ⟨#[]⟩] 30)).drew
        have HRx : Hid (∀ W, Below (w14.alloc (.cells #[.int .u64 0, .string ⟨#[]⟩] 30)).drew.heap.size (w14.alloc (.cells #[.int .u64 0, .string ⟨#[]⟩] 30)).drew W → Rw W w14.heap.size 0 ⟨#[]⟩) := fun W hW => (show Rw (w14.alloc (.cells #[.int .u64 0, .string ⟨#[]⟩] 30)).drew w14.heap.size 0 ⟨#[]⟩ from rw_new w14 0 ⟨#[]⟩).below hW (by simp)
        go_cut [16, 21] from 118 to 126 (fun e q wx => e = .int .i64 0 ∧ ∃ q21, q = .pointer (some ⟨q21, 0, none⟩) ∧ Rw wx q21 N ra ∧ w14.heap.size ≤ q21 ∧ Below w14.heap.size w14 wx)
        case first =>
          obtain ⟨hq6, cli2⟩ := HP14.out _ (bal (Below.refl w14.heap.size w14) (.cells #[.int .u64 0, .string ⟨#[]⟩] 30))
          obtain ⟨g0, g1, g2, g3, g4, g5⟩ := hq6.cells
          obtain ⟨hq60, cli⟩ := HP14.out _ (Below.refl w14.heap.size w14)
          obtain ⟨e0, e1, e2, e3, e4, e5⟩ := hq60.cells
          clear hq6 hq60
          go_region_with (go_at_call 9; first
            | (with_reducible refine (HRp.out _ hd8).mono ?_; rintro e w9 ⟨rfl, hb9⟩)
            | (with_reducible refine (HRp.out _ hd8a).mono ?_; rintro e w9 ⟨rfl, hb9⟩; have hRz := HRx.out _ hb9; have hRq := hRz.rt; have z0 := hRq.c0; have z1 := hRq.c1; have y0 := hRq.f0; have y1 := hRq.f1))
          all_goals
            go_wp2
            go_meet
            case rel =>
              go_light
              first
                | exact ⟨rfl, w14.heap.size, rfl, hRz.put N ra, Nat.le_refl _, (bnext hd8a hb9).trans ((set2_ch w9 w14.heap.size _ _).below (by rintro b rfl; exact Nat.le_refl _))⟩
                | exact ⟨rfl, w9.heap.size, rfl, rw_new w9 N ra, (bnext hd8 hb9).size, bal (bnext hd8 hb9) _⟩
        case rest =>
          obtain ⟨rfl, q21, rfl, hW21, hq21, hb21⟩ := hcut
          have HR21 : Hid (∀ W, Below wc.heap.size wc W → Rw W q21 N ra) := fun W hW => hW21.below hW hW21.lt
          have HRq2 : Hid (∀ W, Below wc.heap.size wc W → Calls Tryd.prog 9 #[.agg #[.int .i64 1, .int .i64 K, .int .u64 0, .int .u64 (N : Int), .slice (some ⟨gs, 0, none⟩) 1 cs2, .slice (some ⟨gd, 0, none⟩) D.length cd2], .string li] W fun e w' => e = .returned (.tuple #[.agg #[.int .u64 (N : Int), .string rb], .int .i64 0]) ∧ Below W.heap.size W w') := fun W hW => HRq.out W (bnext hb21 hW)
          have HQ15 : Hid (∀ W, Below wc.heap.size wc W → Six W q18 (.int .i64 1) (.int .i64 K) (.int .u64 0) (.int .u64 (N : Int)) (.slice (some ⟨gs, 0, none⟩) 1 cs2) (.slice (some ⟨gd, 0, none⟩) D.length cd2) ∧ W.cell? ⟨bl, i, none⟩ = some (.string li)) := fun W hW => HQ14.out W (bnext hb21 hW)
          have HB21 := hide hb21
          clear hd8 hd8a HRx hW21 hq21 hb21 HRp HRq
          generalize wc = wk at *
          clear wc
          have hd8 := (Below.refl wk.heap.size wk).drew
          have hd8a := (bal (Below.refl wk.heap.size wk) (.cells #[.int .u64 0, .string ⟨#[]⟩] 30)).drew
          have HRx : Hid (∀ W, Below (wk.alloc (.cells #[.int .u64 0, .string ⟨#[]⟩] 30)).drew.heap.size (wk.alloc (.cells #[.int .u64 0, .string ⟨#[]⟩] 30)).drew W → Rw W wk.heap.size 0 ⟨#[]⟩) := fun W hW => (show Rw (wk.alloc (.cells #[.int .u64 0, .string ⟨#[]⟩] 30)).drew wk.heap.size 0 ⟨#[]⟩ from rw_new wk 0 ⟨#[]⟩).below hW (by simp)
          go_upto_region 26 with (fail)
          go_cut [22, 23] from 127 to 135 (fun q e wx => e = .int .i64 0 ∧ ∃ q22, q = .pointer (some ⟨q22, 0, none⟩) ∧ Rw wx q22 N rb ∧ wk.heap.size ≤ q22 ∧ Below wk.heap.size wk wx)
          case first =>
            obtain ⟨hq6, cli2⟩ := HQ15.out _ (bal (Below.refl wk.heap.size wk) (.cells #[.int .u64 0, .string ⟨#[]⟩] 30))
            obtain ⟨g0, g1, g2, g3, g4, g5⟩ := hq6.cells
            obtain ⟨hq60, cli⟩ := HQ15.out _ (Below.refl wk.heap.size wk)
            obtain ⟨e0, e1, e2, e3, e4, e5⟩ := hq60.cells
            clear hq6 hq60
            go_region_with (go_at_call 9; first
              | (with_reducible refine (HRq2.out _ hd8).mono ?_; rintro e w9 ⟨rfl, hb9⟩)
              | (with_reducible refine (HRq2.out _ hd8a).mono ?_; rintro e w9 ⟨rfl, hb9⟩; have hRz := HRx.out _ hb9; have hRq := hRz.rt; have z0 := hRq.c0; have z1 := hRq.c1; have y0 := hRq.f0; have y1 := hRq.f1))
            all_goals
              go_wp2
              go_meet
              case rel =>
                go_light
                first
                  | exact ⟨rfl, wk.heap.size, rfl, hRz.put N rb, Nat.le_refl _, (bnext hd8a hb9).trans ((set2_ch w9 wk.heap.size _ _).below (by rintro b rfl; exact Nat.le_refl _))⟩
                  | exact ⟨rfl, w9.heap.size, rfl, rw_new w9 N rb, (bnext hd8 hb9).size, bal (bnext hd8 hb9) _⟩
          case rest =>
            obtain ⟨rfl, q22, rfl, hW22, hq22, hb22⟩ := hcut
            have HK : Hid (∀ W, Below wc.heap.size wc W → Six W q15 (.int .i64 1) (.int .i64 K) (.int .u64 0) (.int .u64 (N : Int)) (.slice (some ⟨bs, 0, none⟩) 1 cs) (.slice (some ⟨bd, 0, none⟩) D.length cd) ∧ Six W q18 (.int .i64 1) (.int .i64 K) (.int .u64 0) (.int .u64 (N : Int)) (.slice (some ⟨gs, 0, none⟩) 1 cs2) (.slice (some ⟨gd, 0, none⟩) D.length cd2) ∧ Rt W q21 N ra ∧ Rt W q22 N rb ∧ W.cell? ⟨bl, i, none⟩ = some (.string li)) := fun W hW => by
              have h1 := bnext (bnext HB21.out hb22) hW
              exact ⟨(HP14.out W h1).1, (HQ14.out W h1).1, (HR21.out W (bnext hb22 hW)).rt, (hW22.below hW hW22.lt).rt, (HP14.out W h1).2⟩
            have HTl2 : Hid (∀ W, Below wc.heap.size wc W → Calls Tryd.prog 19 #[.agg #[.int .i64 1, .int .i64 K, .int .u64 0, .int .u64 (N : Int), .slice (some ⟨bs, 0, none⟩) 1 cs, .slice (some ⟨bd, 0, none⟩) D.length cd], .string li] W fun e w' => ∃ v, e = .returned v ∧ OwnS w' W.heap.size v X1 ∧ Below W.heap.size W w') := fun W hW => HTl.out W (bnext (bnext HB21.out hb22) hW)
            have HTy2 : Hid (∀ W, Below wc.heap.size wc W → Calls Tryd.prog 19 #[.agg #[.int .i64 1, .int .i64 K, .int .u64 0, .int .u64 (N : Int), .slice (some ⟨gs, 0, none⟩) 1 cs2, .slice (some ⟨gd, 0, none⟩) D.length cd2], .string li] W fun e w' => ∃ v, e = .returned v ∧ OwnS w' W.heap.size v X2 ∧ Below W.heap.size W w') := fun W hW => HTy.out W (bnext (bnext HB21.out hb22) hW)
            have HCl2 : Hid (∀ W ao1 b1 c1 ao2 b2 c2, Below wc.heap.size wc W → RdS W ao1 b1 0 X1.length X1 → RdS W ao2 b2 0 X2.length X2 → Calls Tryd.prog 18 #[.slice ao1 X1.length c1, .slice ao2 X2.length c2, .int .i64 K] W fun e w' => e = .returned (.bool true) ∧ Below W.heap.size W w') := fun W ao1 b1 c1 ao2 b2 c2 hW => HCl.out W ao1 b1 c1 ao2 b2 c2 (bnext (bnext HB21.out hb22) hW)
            have HBF := hide (bnext HB14.out (bnext HB21.out hb22))
            obtain ⟨_, _, t21, t22, _⟩ := HK.out wc (Below.refl _ _)
            have k0 := t21.c0
            have k1 := t21.c1
            have j0 := t22.c0
            have j1 := t22.c1
            clear hd8 hd8a HRx hW22 hq22 hb22 HTl HTy HCl HP14 HQ14 HQ15 HRq2 HR21 HB21 HB14 t21 t22
            go_upto_region 27 with (fail)
            by_cases hre : ra = rb
            · subst hre
              clear k0 k1 j0 j1
              refine wp_region_planG (by kernel_rfl) [136, 137, 138, 139, 140, 141, 142, 143, 144, 145, 146, 147, 148, 149, 150, 151, 152, 153, 154, 155, 156, 157, 158, 159, 160, 161, 162, 12] [.int .i64 0, .bool true, .bool true, .int .i64 0, .bool true, .bool true, .bool true, .agg #[.int .u64 (N : Int), .string ra], .agg #[.int .u64 (N : Int), .string ra], .bool false, .bool false, .agg #[.int .i64 1, .int .i64 K, .int .u64 0, .int .u64 (N : Int), .slice (some ⟨bs, 0, none⟩) 1 cs, .slice (some ⟨bd, 0, none⟩) D.length cd], .slice (some ⟨bl, 0, none⟩) T.length cl, .int .u64 (i : Int), .pointer (some ⟨bl, i, none⟩), .string li, undef, .agg #[.int .i64 1, .int .i64 K, .int .u64 0, .int .u64 (N : Int), .slice (some ⟨gs, 0, none⟩) 1 cs2, .slice (some ⟨gd, 0, none⟩) D.length cd2], .slice (some ⟨bl, 0, none⟩) T.length cl, .int .u64 (i : Int), .pointer (some ⟨bl, i, none⟩), .string li, undef, .int .i64 K, .bool true, .bool true, .bool true, .bool true] [(16, X1), (22, X2)] (by kernel_rfl) rfl ?step ?fin
              case fin =>
                intro f Wc hB hf
                have HE := hide (bnext HBF.out hB)
                rw [show mixG [.int .i64 0, .bool true, .bool true, .int .i64 0, .bool true, .bool true, .bool true, .agg #[.int .u64 (N : Int), .string ra], .agg #[.int .u64 (N : Int), .string ra], .bool false, .bool false, .agg #[.int .i64 1, .int .i64 K, .int .u64 0, .int .u64 (N : Int), .slice (some ⟨bs, 0, none⟩) 1 cs, .slice (some ⟨bd, 0, none⟩) D.length cd], .slice (some ⟨bl, 0, none⟩) T.length cl, .int .u64 (i : Int), .pointer (some ⟨bl, i, none⟩), .string li, undef, .agg #[.int .i64 1, .int .i64 K, .int .u64 0, .int .u64 (N : Int), .slice (some ⟨gs, 0, none⟩) 1 cs2, .slice (some ⟨gd, 0, none⟩) D.length cd2], .slice (some ⟨bl, 0, none⟩) T.length cl, .int .u64 (i : Int), .pointer (some ⟨bl, i, none⟩), .string li, undef, .int .i64 K, .bool true, .bool true, .bool true, .bool true] [(16, X1), (22, X2)] f = [.int .i64 0, .bool true, .bool true, .int .i64 0, .bool true, .bool true, .bool true, .agg #[.int .u64 (N : Int), .string ra], .agg #[.int .u64 (N : Int), .string ra], .bool false, .bool false, .agg #[.int .i64 1, .int .i64 K, .int .u64 0, .int .u64 (N : Int), .slice (some ⟨bs, 0, none⟩) 1 cs, .slice (some ⟨bd, 0, none⟩) D.length cd], .slice (some ⟨bl, 0, none⟩) T.length cl, .int .u64 (i : Int), .pointer (some ⟨bl, i, none⟩), .string li, f 16, .agg #[.int .i64 1, .int .i64 K, .int .u64 0, .int .u64 (N : Int), .slice (some ⟨gs, 0, none⟩) 1 cs2, .slice (some ⟨gd, 0, none⟩) D.length cd2], .slice (some ⟨bl, 0, none⟩) T.length cl, .int .u64 (i : Int), .pointer (some ⟨bl, i, none⟩), .string li, f 22, .int .i64 K, .bool true, .bool true, .bool true, .bool true] from rfl]
                generalize f 16 = x16
                generalize f 22 = x22
                clear hf
                clear HK hB f HTl2 HTy2 HCl2 HZ
                simp only [puts]
                go_simp
                go_wp2
                go_ret
                exact ⟨rfl, HE.out⟩
              case step =>
                refine ⟨?_, ?_, ?_, ?_, ?_, ?_, ?_, ?_, ?_, ?_, ?_, ?_, ?_, ?_, ?_, ?_, ?_, ?_, ?_, ?_, ?_, ?_, ?_, ?_, ?_, ?_, ?_, ?_, trivial⟩
                · intro Ac Wc Kc hB hsm dep hK
                  have t16 : Ac.tmps.getD 16 undef = .int .i64 0 := hsm 16 rfl
                  show Oper.wp _ _ Ac Wc Kc _
                  go_simp
                  exact hK _ _ rfl (Below.refl _ _)
                · intro Ac Wc Kc hB hsm dep hK
                  have t136 : Ac.tmps.getD 136 undef = .int .i64 0 := dep 0 rfl
                  show Oper.wp _ _ Ac Wc Kc _
                  go_simp
                  exact hK _ _ rfl (Below.refl _ _)
                · intro Ac Wc Kc hB hsm dep hK
                  have t137 : Ac.tmps.getD 137 undef = .bool true := dep 1 rfl
                  show Oper.wp _ _ Ac Wc Kc _
                  go_simp
                  exact hK _ _ rfl (Below.refl _ _)
                · intro Ac Wc Kc hB hsm dep hK
                  have t23 : Ac.tmps.getD 23 undef = .int .i64 0 := hsm 23 rfl
                  refine ⟨true, (show Ac.tmps.getD 138 undef = .bool true from dep 2 rfl), ?_⟩
                  rw [if_pos rfl]
                  go_simp
                  exact hK _ _ rfl (Below.refl _ _)
                · intro Ac Wc Kc hB hsm dep hK
                  have t139 : Ac.tmps.getD 139 undef = .int .i64 0 := dep 3 rfl
                  refine ⟨true, (show Ac.tmps.getD 138 undef = .bool true from dep 2 rfl), ?_⟩
                  rw [if_pos rfl]
                  go_simp
                  exact hK _ _ rfl (Below.refl _ _)
                · intro Ac Wc Kc hB hsm dep hK
                  have t138 : Ac.tmps.getD 138 undef = .bool true := dep 2 rfl
                  have t140 : Ac.tmps.getD 140 undef = .bool true := dep 4 rfl
                  show Oper.wp _ _ Ac Wc Kc _
                  go_simp
                  exact hK _ _ rfl (Below.refl _ _)
                · intro Ac Wc Kc hB hsm dep hK
                  have t141 : Ac.tmps.getD 141 undef = .bool true := dep 5 rfl
                  show Oper.wp _ _ Ac Wc Kc _
                  go_simp
                  exact hK _ _ rfl (Below.refl _ _)
                · intro Ac Wc Kc hB hsm dep hK
                  have t21 : Ac.tmps.getD 21 undef = .pointer (some ⟨q21, 0, none⟩) := hsm 21 rfl
                  refine ⟨true, (show Ac.tmps.getD 142 undef = .bool true from dep 6 rfl), ?_⟩
                  rw [if_pos rfl]
                  have c0 := (HK.out Wc hB).2.2.1.c0
                  have c1 := (HK.out Wc hB).2.2.1.c1
                  go_simp
                  exact hK _ _ rfl (Below.refl _ _)
                · intro Ac Wc Kc hB hsm dep hK
                  have t22 : Ac.tmps.getD 22 undef = .pointer (some ⟨q22, 0, none⟩) := hsm 22 rfl
                  refine ⟨true, (show Ac.tmps.getD 142 undef = .bool true from dep 6 rfl), ?_⟩
                  rw [if_pos rfl]
                  have c0 := (HK.out Wc hB).2.2.2.1.c0
                  have c1 := (HK.out Wc hB).2.2.2.1.c1
                  go_simp
                  exact hK _ _ rfl (Below.refl _ _)
                · intro Ac Wc Kc hB hsm dep hK
                  have t143 : Ac.tmps.getD 143 undef = .agg #[.int .u64 (N : Int), .string ra] := dep 7 rfl
                  have t144 : Ac.tmps.getD 144 undef = .agg #[.int .u64 (N : Int), .string ra] := dep 8 rfl
                  refine ⟨true, (show Ac.tmps.getD 142 undef = .bool true from dep 6 rfl), ?_⟩
                  rw [if_pos rfl]
                  go_simp
                  exact hK _ _ rfl (Below.refl _ _)
                · intro Ac Wc Kc hB hsm dep hK
                  have t145 : Ac.tmps.getD 145 undef = .bool false := dep 9 rfl
                  refine ⟨true, (show Ac.tmps.getD 142 undef = .bool true from dep 6 rfl), ?_⟩
                  rw [if_pos rfl]
                  go_simp
                  exact hK _ _ rfl (Below.refl _ _)
                · intro Ac Wc Kc hB hsm dep hK
                  have t15 : Ac.tmps.getD 15 undef = .pointer (some ⟨q15, 0, none⟩) := hsm 15 rfl
                  refine ⟨false, (show Ac.tmps.getD 146 undef = .bool false from dep 10 rfl), ?_⟩
                  rw [if_pos rfl]
                  obtain ⟨g0, g1, g2, g3, g4, g5⟩ := (HK.out Wc hB).1.cells
                  go_simp
                  exact hK _ _ rfl (Below.refl _ _)
                · intro Ac Wc Kc hB hsm dep hK
                  have t13 : Ac.tmps.getD 13 undef = .slice (some ⟨bl, 0, none⟩) T.length cl := hsm 13 rfl
                  refine ⟨false, (show Ac.tmps.getD 146 undef = .bool false from dep 10 rfl), ?_⟩
                  rw [if_pos rfl]
                  go_simp
                  exact hK _ _ rfl (Below.refl _ _)
                · intro Ac Wc Kc hB hsm dep hK
                  have t3 : Ac.tmps.getD 3 undef = .int .u64 (i : Int) := hsm 3 rfl
                  refine ⟨false, (show Ac.tmps.getD 146 undef = .bool false from dep 10 rfl), ?_⟩
                  rw [if_pos rfl]
                  go_simp
                  exact hK _ _ rfl (Below.refl _ _)
                · intro Ac Wc Kc hB hsm dep hK
                  have t148 : Ac.tmps.getD 148 undef = .slice (some ⟨bl, 0, none⟩) T.length cl := dep 12 rfl
                  have t149 : Ac.tmps.getD 149 undef = .int .u64 (i : Int) := dep 13 rfl
                  refine ⟨false, (show Ac.tmps.getD 146 undef = .bool false from dep 10 rfl), ?_⟩
                  rw [if_pos rfl]
                  go_simp
                  exact hK _ _ rfl (Below.refl _ _)
                · intro Ac Wc Kc hB hsm dep hK
                  have t150 : Ac.tmps.getD 150 undef = .pointer (some ⟨bl, i, none⟩) := dep 14 rfl
                  refine ⟨false, (show Ac.tmps.getD 146 undef = .bool false from dep 10 rfl), ?_⟩
                  rw [if_pos rfl]
                  have cl := (HK.out Wc hB).2.2.2.2
                  go_simp
                  exact hK _ _ rfl (Below.refl _ _)
                · intro Ac Wc Kc hB hsm dep hK
                  have t147 : Ac.tmps.getD 147 undef = .agg #[.int .i64 1, .int .i64 K, .int .u64 0, .int .u64 (N : Int), .slice (some ⟨bs, 0, none⟩) 1 cs, .slice (some ⟨bd, 0, none⟩) D.length cd] := dep 11 rfl
                  have t151 : Ac.tmps.getD 151 undef = .string li := dep 15 rfl
                  refine ⟨false, (show Ac.tmps.getD 146 undef = .bool false from dep 10 rfl), ?_⟩
                  rw [if_pos rfl]
                  go_simp
                  refine (HTl2.out Wc hB).mono ?_
                  rintro e w' ⟨v, rfl, ho, hb⟩
                  exact hK _ _ (rdl_own ho HZ.out.1) hb
                · intro Ac Wc Kc hB hsm dep hK
                  have t18 : Ac.tmps.getD 18 undef = .pointer (some ⟨q18, 0, none⟩) := hsm 18 rfl
                  refine ⟨false, (show Ac.tmps.getD 146 undef = .bool false from dep 10 rfl), ?_⟩
                  rw [if_pos rfl]
                  obtain ⟨g0, g1, g2, g3, g4, g5⟩ := (HK.out Wc hB).2.1.cells
                  go_simp
                  exact hK _ _ rfl (Below.refl _ _)
                · intro Ac Wc Kc hB hsm dep hK
                  have t13 : Ac.tmps.getD 13 undef = .slice (some ⟨bl, 0, none⟩) T.length cl := hsm 13 rfl
                  refine ⟨false, (show Ac.tmps.getD 146 undef = .bool false from dep 10 rfl), ?_⟩
                  rw [if_pos rfl]
                  go_simp
                  exact hK _ _ rfl (Below.refl _ _)
                · intro Ac Wc Kc hB hsm dep hK
                  have t3 : Ac.tmps.getD 3 undef = .int .u64 (i : Int) := hsm 3 rfl
                  refine ⟨false, (show Ac.tmps.getD 146 undef = .bool false from dep 10 rfl), ?_⟩
                  rw [if_pos rfl]
                  go_simp
                  exact hK _ _ rfl (Below.refl _ _)
                · intro Ac Wc Kc hB hsm dep hK
                  have t154 : Ac.tmps.getD 154 undef = .slice (some ⟨bl, 0, none⟩) T.length cl := dep 18 rfl
                  have t155 : Ac.tmps.getD 155 undef = .int .u64 (i : Int) := dep 19 rfl
                  refine ⟨false, (show Ac.tmps.getD 146 undef = .bool false from dep 10 rfl), ?_⟩
                  rw [if_pos rfl]
                  go_simp
                  exact hK _ _ rfl (Below.refl _ _)
                · intro Ac Wc Kc hB hsm dep hK
                  have t156 : Ac.tmps.getD 156 undef = .pointer (some ⟨bl, i, none⟩) := dep 20 rfl
                  refine ⟨false, (show Ac.tmps.getD 146 undef = .bool false from dep 10 rfl), ?_⟩
                  rw [if_pos rfl]
                  have cl := (HK.out Wc hB).2.2.2.2
                  go_simp
                  exact hK _ _ rfl (Below.refl _ _)
                · intro Ac Wc Kc hB hsm dep hK
                  have t153 : Ac.tmps.getD 153 undef = .agg #[.int .i64 1, .int .i64 K, .int .u64 0, .int .u64 (N : Int), .slice (some ⟨gs, 0, none⟩) 1 cs2, .slice (some ⟨gd, 0, none⟩) D.length cd2] := dep 17 rfl
                  have t157 : Ac.tmps.getD 157 undef = .string li := dep 21 rfl
                  refine ⟨false, (show Ac.tmps.getD 146 undef = .bool false from dep 10 rfl), ?_⟩
                  rw [if_pos rfl]
                  go_simp
                  refine (HTy2.out Wc hB).mono ?_
                  rintro e w' ⟨v, rfl, ho, hb⟩
                  exact hK _ _ (rdl_own ho HZ.out.2) hb
                · intro Ac Wc Kc hB hsm dep hK
                  have t0 : Ac.tmps.getD 0 undef = .int .i64 K := hsm 0 rfl
                  refine ⟨false, (show Ac.tmps.getD 146 undef = .bool false from dep 10 rfl), ?_⟩
                  rw [if_pos rfl]
                  go_simp
                  exact hK _ _ rfl (Below.refl _ _)
                · intro Ac Wc Kc hB hsm dep hK
                  obtain ⟨ao152, b152, c152, t152, r152⟩ := (show RdL Wc (Ac.tmps.getD 152 undef) X1 from dep 16 rfl)
                  obtain ⟨ao158, b158, c158, t158, r158⟩ := (show RdL Wc (Ac.tmps.getD 158 undef) X2 from dep 22 rfl)
                  have t159 : Ac.tmps.getD 159 undef = .int .i64 K := dep 23 rfl
                  refine ⟨false, (show Ac.tmps.getD 146 undef = .bool false from dep 10 rfl), ?_⟩
                  rw [if_pos rfl]
                  go_simp
                  refine (HCl2.out Wc _ _ _ _ _ _ hB r152 r158).mono ?_
                  rintro e w' ⟨rfl, hb⟩
                  exact hK _ _ rfl hb
                · intro Ac Wc Kc hB hsm dep hK
                  have t146 : Ac.tmps.getD 146 undef = .bool false := dep 10 rfl
                  have t160 : Ac.tmps.getD 160 undef = .bool true := dep 24 rfl
                  refine ⟨true, (show Ac.tmps.getD 142 undef = .bool true from dep 6 rfl), ?_⟩
                  rw [if_pos rfl]
                  go_simp
                  exact hK _ _ rfl (Below.refl _ _)
                · intro Ac Wc Kc hB hsm dep hK
                  have t142 : Ac.tmps.getD 142 undef = .bool true := dep 6 rfl
                  have t161 : Ac.tmps.getD 161 undef = .bool true := dep 25 rfl
                  show Oper.wp _ _ Ac Wc Kc _
                  go_simp
                  exact hK _ _ rfl (Below.refl _ _)
                · intro Ac Wc Kc hB hsm dep hK
                  have t162 : Ac.tmps.getD 162 undef = .bool true := dep 26 rfl
                  show Oper.wp _ _ Ac Wc Kc _
                  go_simp
                  exact hK _ _ rfl (Below.refl _ _)
            · have hbq := beq_ne hre
              clear hre HTl2 HTy2 HCl2 HZ HK
              go_quiet (fail)
              go_wp2
              go_ret
              exact ⟨rfl, below_drewN HBF.out _⟩
end Go.Proofs.YtgmnolepaidiiaaDoor
