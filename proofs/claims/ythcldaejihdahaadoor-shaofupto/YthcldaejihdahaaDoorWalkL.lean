/-
  The walk of ShaLengths. Own work.
-/
import Derived.Test.YthcldaejihdahaaDoorRefF
import Derived.Test.YthcldaejihdahaaDoorWalkH
namespace Go.Proofs.YthcldaejihdahaaDoor
open Go.RowKit
attribute [local go_sem ↓] Go.wp_at_zero Go.wp_at_succ
theorem ref_later (W0 : World) (s : ByteArray) (W : World) (hs : s.size < 1152921504606846976) (hr : W0.rangeAt 2 0 (cW RS)) (hiv : W0.rangeAt 0 0 (cW IV)) (h2 : 2 < W0.heap.size) (hb : Below W0.heap.size W0 W) :
    Calls Tryd.prog 11 #[.slice (some ⟨W.heap.size, 0, none⟩) 1 1] (W.alloc (.cells #[.string s] 9)) fun e w' => e = .returned (.string (shaS RS (tB s))) ∧ Below W0.heap.size W0 w' := by
  have e : flat [s] = tB s := by simp [flat]
  refine (refOf_any _ (some ⟨W.heap.size, 0, none⟩) W.heap.size 0 1 1 [s] rfl (fun _ => rfl) (range_new W [.string s] 9) (by decide) RS RS_len (World.rangeAt_alloc (range_below hb h2 hr) _) (World.rangeAt_alloc (range_below hb (by omega) hiv) _) (by rw [e, tB_len]; exact hs)).mono fun e' w' ⟨he, hb'⟩ => ⟨?_, ?_⟩
  · rw [he, e]
  · exact (hb.alloc hb.size _).trans (hb'.mono (by have := hb.size; simp; omega))
theorem conv_one (w : World) (x : Int) : (convert 30 9 (.slice (some ⟨w.heap.size, 0, none⟩) 1 1)).run Tryd.prog (w.alloc (.cells #[.int .u8 x] 5)) = .ok (.string (strB [x])) (w.alloc (.cells #[.int .u8 x] 5)) :=
  conv_str _ _ [x] 1 rfl (range_new w [.int .u8 x] 5)
theorem from_nat (f : Int) : ∃ F : Nat, F < 200 ∧ (f.tmod 200 + 200).tmod 200 = F ∧ (f.tmod 200 + 200) % 200 = F ∧ -200 < f.tmod 200 ∧ f.tmod 200 < 200 := by
  have h1 : -200 < f.tmod 200 ∧ f.tmod 200 < 200 := by
    rcases Int.le_total 0 f with h | h
    · have := Int.tmod_nonneg 200 h
      have := Int.tmod_lt_of_pos f (show (0 : Int) < 200 by decide)
      omega
    · have e : f.tmod 200 = -((-f).tmod 200) := by rw [Int.neg_tmod]; omega
      have := Int.tmod_nonneg 200 (show (0 : Int) ≤ -f by omega)
      have := Int.tmod_lt_of_pos (-f) (show (0 : Int) < 200 by decide)
      omega
  refine ⟨((f.tmod 200 + 200) % 200).toNat, by omega, ?_, by omega, h1⟩
  rw [Int.tmod_eq_emod_of_nonneg (by omega)]; omega
set_option maxHeartbeats 2000000 in
set_option maxRecDepth 100000 in
theorem lengths_walk (w : World) (x f : Int) (hx : 0 ≤ x ∧ x < 256) (hr : w.rangeAt 1 0 (cW RS)) (hr2 : w.rangeAt 2 0 (cW RS)) (hiv : w.rangeAt 0 0 (cW IV)) :
    Calls Tryd.prog 4 #[.int .u8 x, .int .i64 f] w fun e w' => e = .returned (.bool true) ∧ Below w.heap.size w w' := by
  have h2w : 2 < w.heap.size := range_lt hr2 (by intro h; have := congrArg List.length h; simp [cW_len, RS_len] at this)
  obtain ⟨F, hF, hF1, hF2, hF3, hF4⟩ := from_nat f
  go_enter Tryd.func4, Tryd.ntmps4
  go_upto_region 3 with (go_at_call 6; refine (fixed_any w hr).mono ?_; rintro e w1 ⟨rfl, hb1⟩)
  go_wp2_with (go_at_call 7; refine (new_obj _).mono ?_; rintro e w' ⟨rfl, rfl⟩)
  have hA : Hst (w1.alloc newObj) w1.heap.size RS IV [] := new_hst w1 RS
  have hb2 : Below w.heap.size w (w1.alloc newObj) := hb1.alloc hb1.size _
  have hpa : w.heap.size ≤ w1.heap.size := hb1.size
  generalize w1.alloc newObj = w2 at *
  generalize w1.heap.size = pa at *
  clear hb1 hF1 hF2 hF3 hF4
  obtain ⟨E, hE⟩ : ∃ E : Nat, F + 70 = E := ⟨_, rfl⟩
  have eE : (F : Int) + 70 = (E : Int) := by omega
  have HX1 : Hid (tB (strB [x]) = [x]) := tB_strB (by intro y hy; rw [List.mem_singleton.1 hy]; exact hx)
  have HX2 : Hid ((strB [x]).size = 1) := by show _ = _; rw [← tB_len, HX1.out]; rfl
  have HE : Hid (F + 70 = E ∧ F < 200) := ⟨hE, hF⟩
  clear hE hF
  go_loopg [6, 7] E (fun g y i wr => ∃ (k : Nat) (all : ByteArray), k ≤ E ∧ g = E - k ∧ y = .string all ∧ i = .int .i64 k ∧ Hid (all.size = k) ∧ Hst wr pa RS IV (tB all) ∧ Below w.heap.size w wr)
  case atStart =>
    go_light
    exact ⟨0, _, Nat.zero_le _, rfl, rfl, rfl, rfl, hA, hb2⟩
  case round =>
    clear hA hb2
    obtain ⟨k, all, hk, rfl, rfl, rfl, HS, hA, hb⟩ := hrel
    have hHE := HE.out
    by_cases hlt : k < E
    · have hz : (k : Int) < (E : Int) := by omega
      have hsz : all.size = k := HS.out
      have hcv : ∀ W : World, (convert 30 9 (.slice (some ⟨W.heap.size, 0, none⟩) 1 1)).run Tryd.prog (W.alloc (.cells #[.int .u8 x] 5)) = .ok (.string (strB [x])) (W.alloc (.cells #[.int .u8 x] 5)) := fun W => conv_one W x
      have hA1 : Hst (wr.alloc (.cells #[.int .u8 x] 5)) pa RS IV (tB all) := hA.later ((Below.refl wr.heap.size wr).alloc (Nat.le_refl _) _) hA.lt
      have hr1 : (wr.alloc (.cells #[.int .u8 x] 5)).rangeAt 1 0 (cW RS) := World.rangeAt_alloc (range_below hb (by omega) hr) _
      have hw := write_any (wr.alloc (.cells #[.int .u8 x] 5)) pa RS IV (tB all) (strB [x]) RS_len hr1 hA1 (by rw [tB_len, HX2.out]; omega)
      rw [← tB_append] at hw
      have Hb : Hid (Below w.heap.size w (wr.alloc (.cells #[.int .u8 x] 5))) := hb.alloc hb.size _
      have HZ : Hid (w.heap.size ≤ (wr.alloc (.cells #[.int .u8 x] 5)).heap.size) := Hb.out.size
      have hns : ¬ (9223372036854775807 < all.size + (strB [x]).size) := by rw [HX2.out]; omega
      have k0 : (0 : Int) ≤ (k : Int) := Int.natCast_nonneg _
      have k1 : (k : Int) < 1000 := by omega
      clear hA hA1 hr1 hb hsz
      go_upto_region 12 with (go_at_call 8; refine hw.mono ?_; rintro e w3 ⟨rfl, hA3, hg3⟩)
      have hb3 : Below w.heap.size w w3 := Hb.out.grown hg3 HZ.out (fun j hj => by cases hj; exact hpa)
      have HA4 : Hid (Hst (w3.alloc (.cells #[.int .u8 x] 5)) pa RS IV (tB (all ++ strB [x]))) := hA3.later ((Below.refl w3.heap.size w3).alloc (Nat.le_refl _) _) hA3.lt
      have HB4 : Hid (Below w.heap.size w (w3.alloc (.cells #[.int .u8 x] 5))) := hb3.alloc hb3.size _
      have HS1 : Hid ((all ++ strB [x]).size = k + 1) := by show _ = _; rw [ByteArray.size_append, HX2.out, HS.out]
      clear hw hA3 hb3 hg3 Hb HZ
      go_upto_region 13 with (fail)
      generalize w3.alloc (.cells #[.int .u8 x] 5) = wc at *
      generalize all ++ strB [x] = all' at *
      clear hcv hns
      have hA' := HA4.out
      have hrc : wc.rangeAt 1 0 (cW RS) := range_below HB4.out (by omega) hr
      have hrc2 : wc.rangeAt 2 0 (cW RS) := range_below HB4.out (by omega) hr2
      have hivc : wc.rangeAt 0 0 (cW IV) := range_below HB4.out (by omega) hiv
      have h2c : 2 < wc.heap.size := Nat.lt_of_lt_of_le h2w HB4.out.size
      have h1c : 1 < wc.heap.size := by omega
      have hb0 : Below wc.heap.size wc wc := Below.refl _ _
      have ho1 : all'.size < 4611686018427387904 := by rw [HS1.out]; omega
      have ho2 : all'.size < 1152921504606846976 := by rw [HS1.out]; omega
      have HZ' : Hid (w.heap.size ≤ wc.heap.size) := HB4.out.size
      by_cases hge : F ≤ k
      · have hge' : (F : Int) ≤ (k : Int) := by omega
        go_wp2_with (first | (go_at_call 9; with_reducible refine (sum_later wc _ ?_ _ ?_ hrc h1c ?_).mono ?_; rotate_left; exact hA'; assumption; rintro e w5 ⟨rfl, hbn⟩) | (go_at_call 10; with_reducible refine (of_later wc _ _ ho1 hrc h1c ?_).mono ?_; assumption; rintro e w5 ⟨rfl, hbn⟩) | (go_at_call 11; with_reducible refine (ref_later wc _ _ ho2 hrc2 hivc h2c ?_).mono ?_; assumption; rintro e w5 ⟨rfl, hbn⟩))
        go_roundg (E - (k + 1))
        case rel =>
          go_light
          exact ⟨k + 1, all', by omega, rfl, rfl, by go_num, HS1.out, hA'.later hbn hA'.lt, HB4.out.trans (hbn.mono HZ'.out)⟩
        case measure => go_light; omega
      · have hge' : ¬ (F : Int) ≤ (k : Int) := by omega
        go_wp2
        go_roundg (E - (k + 1))
        case rel =>
          go_light
          exact ⟨k + 1, all', by omega, rfl, rfl, by go_num, HS1.out, hA', HB4.out⟩
        case measure => go_light; omega
    · have hz : ¬ (k : Int) < (E : Int) := by omega
      have Hb : Hid (Below w.heap.size w wr) := hb
      clear hA hb
      go_wp2
      go_ret
      exact ⟨rfl, Hb.out⟩
end Go.Proofs.YthcldaejihdahaaDoor
