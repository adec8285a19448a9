/-
  GWalkB, GLent, GStill, GWriteA, RWalkJ, GReads, GRow in one text. Own work.
-/
import Derived.Test.YtelglfmppmdmoaaGWalkA
import Derived.Test.YtelglfmppmdmoaaRWalkH
import Derived.Test.YtelglfmppmdmoaaRWalkI
import Derived.ProofKit
/-
  Walks of the laws of codec: fixed. Own work.
-/
namespace Go.Proofs.Ytelglfmppmdmoaa
open Go.RowKit
attribute [local go_sem ↓] Go.wp_at_zero Go.wp_at_succ
def fxB : ByteArray := ⟨#[120]⟩
def fyB : ByteArray := ⟨#[121]⟩
/-- The known kin. -/
def kinV : PV := ⟨3, 1, 2, 3, [], [fxB, fyB]⟩
/-- The known batch. -/
def batV : PV := ⟨2, 1, 0, 3, [0, 2], [fxB]⟩
theorem kinV_well : Well kinV := by decide
theorem batV_well : Well batV := by decide
theorem kinV_enc : enc kinV = [3, 1, 3, 2, 120, 121] := by
  simp [enc, mid, kinV, num_low, flat, fxB, fyB]
theorem batV_enc : enc batV = [2, 1, 3, 2, 0, 1, 120] := by
  simp [enc, mid, batV, num_low, flat, laidL, fxB]
theorem fix_none : dec [1, 1, 129, 0, 0] = none := by decide
theorem fix_cnt : cnt 1 1 0 3 [0] = some 2 := by decide
set_option maxRecDepth 100000 in
set_option maxHeartbeats 1000000 in
theorem fixed_any (w : World) : Calls Try.prog 9 #[] w fun e w' => e = .returned (.bool true) ∧ Below w.heap.size w w' := by
  obtain ⟨W, hW⟩ : ∃ W, (w.alloc (.cells #[.string fxB, .string fyB] 9)) = W := ⟨_, rfl⟩
  have hb : Below w.heap.size w W := by rw [← hW]; exact bal (Below.refl _ _) _
  have hr : RdP W none 0 0 0 (some ⟨w.heap.size, 0, none⟩) w.heap.size 0 2 kinV := by
    refine ⟨(rdp_no W).rs, ⟨rfl, fun _ => rfl, ?_, ?_⟩, by decide, by decide, by decide, by decide, by decide⟩
    · rw [← hW]; exact range_new w [.string fxB, .string fyB] 9
    · intro s hs
      simp [kinV] at hs
      rcases hs with rfl | rfl <;> decide
  have HE : Calls Try.prog 11 #[.agg #[.int .i64 3, .int .i64 1, .int .u64 2, .int .u64 3, .slice none 0 0, .slice (some ⟨w.heap.size, 0, none⟩) 2 2]] W fun e w' => e = .returned (.tuple #[.string ⟨#[3, 1, 3, 2, 120, 121]⟩, .int .i64 0]) ∧ Below W.heap.size W w' := by
    have := encode_yes W _ _ _ _ _ _ _ _ kinV hr kinV_well
    rw [kinV_enc] at this
    exact this
  have HD : ∀ F, Calls Try.prog 10 #[.string ⟨#[2, 1, 3, 2, 0, 1, 120]⟩] F fun e w' => ∃ sa sb sc da db dc, e = .returned (.tuple #[.agg #[.int .i64 2, .int .i64 1, .int .u64 0, .int .u64 3, .slice sa 2 sc, .slice da 1 dc], .int .i64 0]) ∧ RdP w' sa sb 0 sc da db 0 dc batV ∧ Below F.heap.size F w' := fun F => decode_some F ⟨#[2, 1, 3, 2, 0, 1, 120]⟩ (by decide) batV (by have := dec_enc batV_well; rw [batV_enc] at this; exact this)
  have HN : ∀ F, Calls Try.prog 10 #[.string ⟨#[1, 1, 129, 0, 0]⟩] F _ := fun F => decode_none F ⟨#[1, 1, 129, 0, 0]⟩ (by decide) fix_none
  have HC : ∀ F : World, Calls Try.prog 12 #[.agg #[.int .i64 1, .int .i64 1, .int .u64 0, .int .u64 3, .slice (some ⟨F.heap.size, 0, none⟩) 1 1, .slice none 0 0]] (F.alloc (.cells #[.int .u64 0] 22)) fun e w' => e = .returned (.tuple #[.int .u64 2, .int .i64 0]) ∧ Below (F.alloc (.cells #[.int .u64 0] 22)).heap.size (F.alloc (.cells #[.int .u64 0] 22)) w' := fun F => by
    have := count_any (F.alloc (.cells #[.int .u64 0] 22)) 1 1 0 3 (some ⟨F.heap.size, 0, none⟩) F.heap.size 0 1 [0] (.slice none 0 0) (by decide) (by decide) ⟨rfl, fun _ => rfl, range_new F [.int .u64 0] 22⟩ (by decide)
    rw [fix_cnt] at this
    exact this
  have HB := hide hb
  clear hb hr
  go_enter Try.func9, Try.ntmps9
  go_upto_region 2 with (go_at_call 11; (try rw [show (⟨#[120]⟩ : ByteArray) = fxB from rfl, show (⟨#[121]⟩ : ByteArray) = fyB from rfl]); (try rw [hW]); with_reducible refine HE.mono ?_; rintro x w1 ⟨rfl, hb1⟩)
  go_upto_region 3 with (go_at_call 10; (refine (HD _).mono ?_); rintro x w2 ⟨sa, sb, sc, da, db, dc, rfl, q1, q2⟩)
  obtain ⟨W3, hW3, h7, hb3, hz3⟩ := box6 w2 (.int .i64 2) (.int .i64 1) (.int .u64 0) (.int .u64 3) (.slice sa 2 sc) (.slice da 1 dc)
  try rw [hW3]
  clear hW3
  obtain ⟨m0, _, _, m3, m4, m5⟩ := h7.cells
  have HF : Hid (∀ G, Below W3.heap.size W3 G → (Six G w2.heap.size (.int .i64 2) (.int .i64 1) (.int .u64 0) (.int .u64 3) (.slice sa 2 sc) (.slice da 1 dc) ∧ RdP G sa sb 0 sc da db 0 dc batV) ∧ Below w.heap.size w G) := fun G hG => ⟨⟨h7.next hG, (q1.next hb3).next hG⟩, bnext (bnext (bnext (bnext HB.out hb1) q2) hb3) hG⟩
  clear h7 hb1 q1 q2 hb3 HE HD hW HB m0 m3 m4 m5
  have HC3 := HC W3
  clear HC hz3
  go_upto_region 4 with (go_at_call 12; with_reducible refine HC3.mono ?_; rintro x w4 ⟨rfl, hb4⟩)
  go_upto_region 5 with (go_at_call 10; with_reducible refine (HN _).mono ?_; rintro x w5 ⟨rfl, hb5⟩)
  obtain ⟨W6, hW6, _, hb6, _⟩ := box6 w5 (.int .i64 0) (.int .i64 0) (.int .u64 0) (.int .u64 0) (.slice none 0 0) (.slice none 0 0)
  try rw [hW6]
  clear hW6
  obtain ⟨⟨x6, y6⟩, z6⟩ := HF.out W6 (bnext (bnext (bnext (bal (Below.refl _ _) _) hb4) hb5) hb6)
  obtain ⟨m0, _, _, m3, m4, m5⟩ := x6.cells
  obtain rfl := y6.rs.ptr (by decide)
  obtain rfl := y6.rd.ptr (by decide)
  have c1 : W6.cell? ⟨sb, 1, none⟩ = some (.int .u64 2) := by simpa [batV] using y6.rs.at (j := 1) (by decide)
  have c2 : W6.cell? ⟨db, 0, none⟩ = some (.string ⟨#[120]⟩) := by simpa [batV, fxB] using y6.rd.at (k := 0) (by decide)
  have HB := hide z6
  clear z6 x6 y6 hb4 hb5 hb6 HC3 HN HF
  go_wp2
  go_ret
  exact ⟨rfl, HB.out⟩
end Go.Proofs.Ytelglfmppmdmoaa
/-
  Walks of codec's laws: lent. Own work.
-/
namespace Go.Proofs.Ytelglfmppmdmoaa
open Go.RowKit
open Cv (cU RdC)
attribute [local go_sem ↓] Go.wp_at_zero Go.wp_at_succ
abbrev oneB : ByteArray := ⟨#[109, 97, 114, 107, 32, 111, 110, 101]⟩
abbrev twoB : ByteArray := ⟨#[109, 97, 114, 107, 32, 116, 119, 111]⟩
theorem rds_two (w : World) (s t : ByteArray) (hs : s.size ≤ 9223372036854775807) (ht : t.size ≤ 9223372036854775807) : RdS (w.alloc (.cells #[.string s, .string t] 9)) (some ⟨w.heap.size, 0, none⟩) w.heap.size 0 2 [s, t] :=
  ⟨rfl, fun _ => rfl, range_new w [.string s, .string t] 9, fun x hx => by simp at hx; rcases hx with rfl | rfl <;> assumption⟩
theorem rdc_two (w : World) (x y : Nat) : RdC (w.alloc (.cells #[.int .u64 (x : Int), .int .u64 (y : Int)] 22)) (.slice (some ⟨w.heap.size, 0, none⟩) 2 2) 2 (cU [x, y]) :=
  rdu_rdc (l := [x, y]) ⟨rfl, fun _ => rfl, range_new w [.int .u64 (x : Int), .int .u64 (y : Int)] 22⟩ (fun h => by cases h)
set_option maxRecDepth 100000 in
set_option maxHeartbeats 1000000 in
theorem lent_any (w : World) (kd k : Int) (old size : Nat) (sa : Option Addr) (sb so sc : Nat) (S : List Nat) (rs : RdU w sa sb so S.length S) (hns : sa = none → sc = 0) (hS : S.length ≤ 17592186043904) (da : Option Addr) (db dO dc : Nat) (D : List ByteArray) (rd : RdS w da db dO D.length D) (hnd : da = none → dc = 0) (hD : D.length ≤ 8796093021952) :
    Calls Try.prog 15 #[pv6 kd k old size (.slice sa S.length sc) (.slice da D.length dc)] w fun e w' => ∃ gs cs gd cd, e = .returned (.agg #[.int .i64 kd, .int .i64 k, .int .u64 (old : Int), .int .u64 (size : Int), .slice (some ⟨gs, 0, none⟩) S.length cs, .slice (some ⟨gd, 0, none⟩) D.length cd]) ∧ Cv.Own w' w.heap.size (.slice (some ⟨gs, 0, none⟩) (S.length + 2) cs) (S ++ [7000000, 7000001]) ∧ OwnS w' w.heap.size (.slice (some ⟨gd, 0, none⟩) (D.length + 2) cd) (D ++ [oneB, twoB]) ∧ S.length + 2 ≤ cs ∧ D.length + 2 ≤ cd ∧ Below w.heap.size w w' := by
  obtain ⟨W0, hW0⟩ : ∃ W0, (w.alloc (.cells #[.int .i64 kd, .int .i64 k, .int .u64 (old : Int), .int .u64 (size : Int), .slice sa S.length sc, .slice da D.length dc] 26)).alloc (.cells #[.int .i64 0, .int .i64 0, .int .u64 0, .int .u64 0, .slice none 0 0, .slice none 0 0] 26) = W0 := ⟨_, rfl⟩
  have hb : Below w.heap.size w W0 := by rw [← hW0]; exact bal (bal (Below.refl _ _) _) _
  have h6 : Six W0 w.heap.size (.int .i64 kd) (.int .i64 k) (.int .u64 (old : Int)) (.int .u64 (size : Int)) (.slice sa S.length sc) (.slice da D.length dc) := by rw [← hW0]; exact (six_new w _ _ _ _ _ _).next (bal (Below.refl _ _) _)
  have h7 : Six W0 (w.heap.size + 1) (.int .i64 0) (.int .i64 0) (.int .u64 0) (.int .u64 0) (.slice none 0 0) (.slice none 0 0) := by
    rw [← hW0]
    have := six_new (w.alloc (.cells #[.int .i64 kd, .int .i64 k, .int .u64 (old : Int), .int .u64 (size : Int), .slice sa S.length sc, .slice da D.length dc] 26)) (.int .i64 0) (.int .i64 0) (.int .u64 0) (.int .u64 0) (.slice none 0 0) (.slice none 0 0)
    rwa [World.size_alloc] at this
  have hsz : W0.heap.size = w.heap.size + 2 := by rw [← hW0]; simp
  have HS : Hid (∀ W, Below W0.heap.size W0 W → Six W w.heap.size (.int .i64 kd) (.int .i64 k) (.int .u64 (old : Int)) (.int .u64 (size : Int)) (.slice sa S.length sc) (.slice da D.length dc) ∧ Six W (w.heap.size + 1) (.int .i64 0) (.int .i64 0) (.int .u64 0) (.int .u64 0) (.slice none 0 0) (.slice none 0 0) ∧ RdC W (.slice sa S.length sc) S.length (cU S) ∧ RdS W da db dO D.length D ∧ Below w.heap.size w W) := fun W hW =>
    ⟨h6.next hW, h7.next hW, rdu_rdc (rs.next (bnext hb hW)) hns, rd.next (bnext hb hW) (Nat.le_refl _), bnext hb hW⟩
  obtain ⟨u0, hu1, hu2, hu3, hu4⟩ := info_parts Cv.Try.infoU
  have HU : Hid (Try.prog.info? 22 = some u0 ∧ u0.zero = some (.int .u64 0) ∧ u0.size = 1 ∧ u0.bytes = 8) := ⟨hu1, hu2, hu3, hu4⟩
  have HX : Hid (S.length ≤ 17592186043904 ∧ D.length ≤ 8796093021952 ∧ (da = none → dc = 0) ∧ W0.heap.size = w.heap.size + 2) := ⟨hS, hD, hnd, hsz⟩
  have hS63 : (S.length : Int) ≤ 17592186043904 := by omega
  have hD63 : (D.length : Int) ≤ 8796093021952 := by omega
  obtain ⟨e0, e1, e2, e3, e4, e5⟩ := h6.cells
  have HB0 := Below.refl W0.heap.size W0
  clear rs hns hS rd hnd hD h6 h7 hsz hu1 hu2 hu3 hu4 hb
  unfold pv6
  go_enter Try.func15, Try.ntmps15
  go_upto_region 1 with (fail)
  try rw [hW0]
  clear hW0
  go_wp2_with (at_builtin; refine Cv.wpList_append_ap _ rfl _ _ _ rfl W0.heap.size 22 u0 (.int .u64 0) 1 8 Try.underlying23 HU.out.1 HU.out.2.1 HU.out.2.2.1 HU.out.2.2.2 rfl (by decide) _ 0 [] rfl (World.ownsRow_nil _ _ _ _) _ S.length (cU S) rfl (HS.out _ HB0).2.2.1 (by simp [cU]) (Cv.cU_one S) ?c1 ?c2 (Nat.le_refl _) ?_)
  case c1 => have := HX.out.1; unfold maxLen; omega
  case c2 => have := HX.out.1; omega
  intro v1 w1 a1
  have hb1 : Below W0.heap.size W0 w1 := (Cv.ownB_step0 (Below.refl _ _) (Nat.le_refl _) (World.ownsRow_nil W0 W0.heap.size 22 1) a1.grown).1
  have HO1 : Hid (w1.ownsRow W0.heap.size 22 1 v1 S.length (cU S)) := a1.own
  clear a1 e0 e1 e2 e3 e4 e5
  have HB1 := hide hb1
  clear hb1
  go_wp2_with (at_builtin; refine Cv.wpList_append_ap _ rfl _ _ _ rfl W0.heap.size 22 u0 (.int .u64 0) 1 8 Try.underlying23 HU.out.1 HU.out.2.1 HU.out.2.2.1 HU.out.2.2.2 rfl (by decide) _ S.length (cU S) rfl (HO1.out.alloc _) _ 2 (cU [7000000, 7000001]) rfl (rdc_two w1 7000000 7000001) rfl (Cv.cU_one [7000000, 7000001]) ?c1 ?c2 ?c3 ?_)
  case c1 => have := HX.out.1; unfold maxLen; omega
  case c2 => have := HX.out.1; omega
  case c3 => have := HB1.out.size; simp; omega
  intro v2 w2 a2
  have hb2 : Below W0.heap.size W0 w2 := (Cv.ownB_step HB1.out HB1.out.size HO1.out a2.grown).1
  have o2 : Cv.Own w2 W0.heap.size v2 (S ++ [7000000, 7000001]) := by
    have := a2.own
    rw [Cv.Own, List.length_append]
    simpa [cU] using this
  obtain ⟨gs, cs, rfl, hgs, hcs, _, hgl⟩ := ownU_form o2 (by simp)
  rw [show (S ++ [7000000, 7000001] : List Nat).length = S.length + 2 by simp] at o2 hcs ⊢
  have HO2 : Hid (Cv.Own w2 W0.heap.size (.slice (some ⟨gs, 0, none⟩) (S.length + 2) cs) (S ++ [7000000, 7000001]) ∧ S.length + 2 ≤ cs ∧ W0.heap.size ≤ gs ∧ gs < w2.heap.size ∧ Below W0.heap.size W0 w2) := ⟨o2, hcs, hgs, hgl, hb2⟩
  have hz1 : (S.length : Int) ≤ (cs : Int) := by omega
  clear o2 hgs hcs hgl HO1 HB1 a2 hb2
  obtain ⟨e0, e1, e2, e3, e4, e5⟩ := (HS.out w2 HO2.out.2.2.2.2).1.cells
  go_wp2_with (at_builtin; refine wpList_append_S _ rfl _ _ rfl w2.heap.size _ [] rfl (owns_nil _ _) da db dO dc D rfl (HS.out _ HO2.out.2.2.2.2).2.2.2.1 HX.out.2.2.1 ?c1 (Nat.le_refl _) ?_)
  case c1 => have := HX.out.2.1; simp; omega
  intro v3 w3 o3 hb3
  have HO3 := hide o3
  have HB3 := hide hb3
  clear o3 hb3 e0 e1 e2 e3 e4 e5
  go_wp2_with (at_builtin; refine wpList_append_S _ rfl _ _ rfl w2.heap.size _ D rfl (own_al HO3.out _) (some ⟨w3.heap.size, 0, none⟩) w3.heap.size 0 2 [oneB, twoB] rfl (rds_two w3 oneB twoB (by decide) (by decide)) (fun h => by cases h) ?c1 ?c2 ?_)
  case c1 => have := HX.out.2.1; simp; omega
  case c2 => have := HB3.out.size; simp; omega
  intro v4 w4 o4 hb4
  have hb4' : Below w2.heap.size w2 w4 := (bal HB3.out _).trans hb4
  obtain ⟨gd, cd, rfl, hgd, hcd, hcm⟩ := own_form o4 (by simp)
  rw [show (D ++ [oneB, twoB] : List ByteArray).length = D.length + 2 by simp] at o4 hcd ⊢
  have hgdl : gd < w4.heap.size := (World.ownsRow.lt o4 gd rfl).2
  have hbw4 := bnext HO2.out.2.2.2.2 hb4'
  have HF : Hid (Cv.Own w4 W0.heap.size (.slice (some ⟨gs, 0, none⟩) (S.length + 2) cs) (S ++ [7000000, 7000001]) ∧ OwnS w4 w2.heap.size (.slice (some ⟨gd, 0, none⟩) (D.length + 2) cd) (D ++ [oneB, twoB]) ∧ W0.heap.size ≤ gs ∧ gs < w4.heap.size ∧ S.length + 2 ≤ cs ∧ D.length + 2 ≤ cd ∧ Below W0.heap.size W0 w4 ∧ w2.heap.size ≤ gd ∧ gd < w4.heap.size ∧ W0.heap.size ≤ w2.heap.size) := by
    obtain ⟨y1, y2, y3, y4, y5⟩ := HO2.out
    exact ⟨Cv.ownB_next y1 hb4', o4, y3, Nat.lt_of_lt_of_le y4 hb4'.size, y2, hcd, hbw4, hgd, hgdl, y5.size⟩
  have hz2 : (D.length : Int) ≤ (cd : Int) := by omega
  clear HO2 HO3 HB3 o4 hb4 hb4' hgd hcm hcd hgdl hbw4
  obtain ⟨h6, h7, _, _, hbw⟩ := HS.out w4 HF.out.2.2.2.2.2.2.1
  obtain ⟨e0, e1, e2, e3, e4, e5⟩ := h6.cells
  have f6 := h6.fz
  have h9 := h6.set4 (.slice (some ⟨gs, 0, none⟩) S.length cs)
  have hc9 := (ChT.refl (fun b => b = w.heap.size) w4).set w.heap.size 4 (.slice (some ⟨gs, 0, none⟩) S.length cs) rfl
  have h10 := h9.set5 (.slice (some ⟨gd, 0, none⟩) D.length cd)
  have hc10 := hc9.set w.heap.size 5 (.slice (some ⟨gd, 0, none⟩) D.length cd) rfl
  obtain ⟨d0, d1, d2, d3, d4, d5⟩ := h9.cells
  have f9 := h9.fz
  go_upto_region 9 with (fail)
  have h710 := h7.same (hc10.block (w.heap.size + 1) (by show ¬ _ = _; omega))
  obtain ⟨w10, hw10⟩ : ∃ w10, (w4.setCell ⟨w.heap.size, 4, none⟩ (.slice (some ⟨gs, 0, none⟩) S.length cs)).setCell ⟨w.heap.size, 5, none⟩ (.slice (some ⟨gd, 0, none⟩) D.length cd) = w10 := ⟨_, rfl⟩
  rw [hw10] at h10 hc10 h710 ⊢
  obtain ⟨k0, k1, k2, k3, k4, k5⟩ := h10.cells
  obtain ⟨m0, m1, m2, m3, m4, m5⟩ := h710.cells
  have f10 := h710.fz
  have h11 := h710.put (.int .i64 kd) (.int .i64 k) (.int .u64 (old : Int)) (.int .u64 (size : Int)) (.slice (some ⟨gs, 0, none⟩) S.length cs) (.slice (some ⟨gd, 0, none⟩) D.length cd)
  have hc11 := put6_ch w10 (w.heap.size + 1) (.int .i64 kd) (.int .i64 k) (.int .u64 (old : Int)) (.int .u64 (size : Int)) (.slice (some ⟨gs, 0, none⟩) S.length cs) (.slice (some ⟨gd, 0, none⟩) D.length cd)
  unfold put6 at h11 hc11
  clear e0 e1 e2 e3 e4 e5 d0 d1 d2 d3 d4 d5 f6 f9 h9 hc9
  go_wp2
  obtain ⟨s0, s1, s2, s3, s4, s5⟩ := h11.cells
  refine bodyPost_ret (v := .agg #[.int .i64 kd, .int .i64 k, .int .u64 (old : Int), .int .u64 (size : Int), .slice (some ⟨gs, 0, none⟩) S.length cs, .slice (some ⟨gd, 0, none⟩) D.length cd]) (by simp [results, Try.results15, go_sem, s0, s1, s2, s3, s4, s5]) rfl ?_
  obtain ⟨z1, z2, z3, z4, z5, z6, z7, z8, z9, z10⟩ := HF.out
  have hsz := HX.out.2.2.2
  have keep : ∀ g, w.heap.size + 2 ≤ g → g < w4.heap.size → (((((( w10.setCell ⟨w.heap.size + 1, 0, none⟩ (.int .i64 kd)).setCell ⟨w.heap.size + 1, 1, none⟩ (.int .i64 k)).setCell ⟨w.heap.size + 1, 2, none⟩ (.int .u64 (old : Int))).setCell ⟨w.heap.size + 1, 3, none⟩ (.int .u64 (size : Int))).setCell ⟨w.heap.size + 1, 4, none⟩ (.slice (some ⟨gs, 0, none⟩) S.length cs)).setCell ⟨w.heap.size + 1, 5, none⟩ (.slice (some ⟨gd, 0, none⟩) D.length cd)).heap[g]? = w4.heap[g]? := fun g h1 h2 => (hc11.block g (by show ¬ _ = _; omega)).trans (hc10.block g (by show ¬ _ = _; omega))
  refine ⟨gs, cs, gd, cd, rfl, ?_, ?_, z5, z6, ?_⟩
  · refine (keep_row z1 fun g hg _ => ?_).mono (by omega)
    cases hg
    exact keep gs (by omega) z4
  · refine (keep_row z2 fun g hg _ => ?_).mono (by omega)
    cases hg
    exact keep gd (by omega) z9
  · have hlw := hbw.size
    exact (hbw.trans (hc10.below (by rintro b rfl; omega))).trans (hc11.below (by rintro b rfl; omega))
end Go.Proofs.Ytelglfmppmdmoaa
/-
  Walks of codec's laws: still. Own work.
-/
namespace Go.Proofs.Ytelglfmppmdmoaa
open Go.RowKit
attribute [local go_sem ↓] Go.wp_at_zero Go.wp_at_succ
theorem mark_S {w : World} {B gs cs : Nat} {S : List Nat} (o : Cv.Own w B (.slice (some ⟨gs, 0, none⟩) (S.length + 2) cs) (S ++ [7000000, 7000001])) : w.cell? ⟨gs, S.length, none⟩ = some (.int .u64 7000000) ∧ w.cell? ⟨gs, S.length + 1, none⟩ = some (.int .u64 7000001) := by
  have r : RdU w (some ⟨gs, 0, none⟩) gs 0 (S ++ [7000000, 7000001]).length (S ++ [7000000, 7000001]) := own_rdu (l' := []) (by rw [List.append_nil]; exact o)
  have h1 := r.at (j := S.length) (by simp)
  have h2 := r.at (j := S.length + 1) (by simp)
  rw [Nat.zero_add] at h1 h2
  rw [List.getD_eq_getElem?_getD, List.getElem?_append_right (Nat.le_refl _), Nat.sub_self] at h1
  rw [List.getD_eq_getElem?_getD, List.getElem?_append_right (Nat.le_succ _), Nat.succ_sub (Nat.le_refl _), Nat.sub_self] at h2
  exact ⟨h1, h2⟩
theorem mark_D {w : World} {B gd cd : Nat} {D : List ByteArray} (o : OwnS w B (.slice (some ⟨gd, 0, none⟩) (D.length + 2) cd) (D ++ [oneB, twoB])) (hs : ∀ d ∈ D, d.size ≤ 9223372036854775807) : w.cell? ⟨gd, D.length, none⟩ = some (.string oneB) ∧ w.cell? ⟨gd, D.length + 1, none⟩ = some (.string twoB) := by
  have r : RdS w (some ⟨gd, 0, none⟩) gd 0 (D ++ [oneB, twoB]).length (D ++ [oneB, twoB]) := own_rds (l' := []) (by rw [List.append_nil]; exact o) (fun d hd => by
    rcases List.mem_append.1 hd with hd | hd
    · exact hs d hd
    · simp at hd; rcases hd with rfl | rfl <;> decide)
  have h1 := r.at (k := D.length) (by simp)
  have h2 := r.at (k := D.length + 1) (by simp)
  rw [Nat.zero_add] at h1 h2
  rw [List.getD_eq_getElem?_getD, List.getElem?_append_right (Nat.le_refl _), Nat.sub_self] at h1
  rw [List.getD_eq_getElem?_getD, List.getElem?_append_right (Nat.le_succ _), Nat.succ_sub (Nat.le_refl _), Nat.sub_self] at h2
  exact ⟨h1, h2⟩
set_option maxRecDepth 100000 in
set_option maxHeartbeats 4000000 in
theorem still_yes (w : World) (sa : Option Addr) (sb so sc : Nat) (da : Option Addr) (db dO dc : Nat) (P : PV) (hp : RdP w sa sb so sc da db dO dc P) (B gs cs gd cd : Nat) (o1 : Cv.Own w B (.slice (some ⟨gs, 0, none⟩) (P.S.length + 2) cs) (P.S ++ [7000000, 7000001])) (o2 : OwnS w B (.slice (some ⟨gd, 0, none⟩) (P.D.length + 2) cd) (P.D ++ [oneB, twoB])) (hc1 : P.S.length + 2 ≤ cs) (hc2 : P.D.length + 2 ≤ cd) :
    Calls Try.prog 18 #[pvP P (some ⟨gs, 0, none⟩) cs (some ⟨gd, 0, none⟩) cd, pvP P sa sc da dc] w fun e w' => e = .returned (.bool true) ∧ Below w.heap.size w w' := by
  have hq : RdP w (some ⟨gs, 0, none⟩) gs 0 cs (some ⟨gd, 0, none⟩) gd 0 cd P := ⟨own_rdu o1, own_rds o2 hp.rd.sz, hp.old64, hp.sz64, hp.mS, hp.mD, by omega⟩
  obtain ⟨kd, k, old, size, S, D⟩ := P
  simp only at o1 o2 hc1 hc2
  obtain ⟨W0, hW0⟩ : ∃ W0, (w.alloc (.cells #[.int .i64 kd, .int .i64 k, .int .u64 (old : Int), .int .u64 (size : Int), .slice (some ⟨gs, 0, none⟩) S.length cs, .slice (some ⟨gd, 0, none⟩) D.length cd] 26)).alloc (.cells #[.int .i64 kd, .int .i64 k, .int .u64 (old : Int), .int .u64 (size : Int), .slice sa S.length sc, .slice da D.length dc] 26) = W0 := ⟨_, rfl⟩
  have hb : Below w.heap.size w W0 := by rw [← hW0]; exact bal (bal (Below.refl _ _) _) _
  have h6 : Six W0 w.heap.size (.int .i64 kd) (.int .i64 k) (.int .u64 (old : Int)) (.int .u64 (size : Int)) (.slice (some ⟨gs, 0, none⟩) S.length cs) (.slice (some ⟨gd, 0, none⟩) D.length cd) := by rw [← hW0]; exact (six_new w _ _ _ _ _ _).next (bal (Below.refl _ _) _)
  have h7 : Six W0 (w.heap.size + 1) (.int .i64 kd) (.int .i64 k) (.int .u64 (old : Int)) (.int .u64 (size : Int)) (.slice sa S.length sc) (.slice da D.length dc) := by
    rw [← hW0]
    have := six_new (w.alloc (.cells #[.int .i64 kd, .int .i64 k, .int .u64 (old : Int), .int .u64 (size : Int), .slice (some ⟨gs, 0, none⟩) S.length cs, .slice (some ⟨gd, 0, none⟩) D.length cd] 26)) (.int .i64 kd) (.int .i64 k) (.int .u64 (old : Int)) (.int .u64 (size : Int)) (.slice sa S.length sc) (.slice da D.length dc)
    rwa [World.size_alloc] at this
  have HSm := same_yes W0 _ _ _ _ _ _ _ _ _ _ _ _ _ _ _ _ _ (hq.next hb) (hp.next hb)
  simp only [pvP, pv6] at HSm ⊢
  have HM : Hid (∀ F, Below W0.heap.size W0 F → (F.cell? ⟨gs, S.length, none⟩ = some (.int .u64 7000000) ∧ F.cell? ⟨gs, S.length + 1, none⟩ = some (.int .u64 7000001)) ∧ (F.cell? ⟨gd, D.length, none⟩ = some (.string oneB) ∧ F.cell? ⟨gd, D.length + 1, none⟩ = some (.string twoB)) ∧ Below w.heap.size w F) := fun F hF => ⟨mark_S (Cv.ownB_next o1 (bnext hb hF)), mark_D (own_next o2 (bnext hb hF) (Nat.le_refl _)) hp.rd.sz, bnext hb hF⟩
  have hS1 : (S.length : Int) ≤ 17592186044416 := by have := hp.mS; simp only at this; omega
  have hD1 : (D.length : Int) ≤ 8796093022208 := by have := hp.mD; simp only at this; omega
  have hS2 : (S.length : Int) + 2 ≤ (cs : Int) := by omega
  have hD2 : (D.length : Int) + 2 ≤ (cd : Int) := by omega
  have hS0 : (0 : Int) ≤ (S.length : Int) := Int.natCast_nonneg _
  have hD0 : (0 : Int) ≤ (D.length : Int) := Int.natCast_nonneg _
  have hS3 : (S.length : Int) < (S.length : Int) + 2 := by omega
  have hD3 : (D.length : Int) < (D.length : Int) + 2 := by omega
  have hS4 : (S.length : Int) + 1 < (S.length : Int) + 2 := by omega
  have hD4 : (D.length : Int) + 1 < (D.length : Int) + 2 := by omega
  obtain ⟨a0, a1, a2, a3, a4, a5⟩ := h6.cells
  obtain ⟨b0, b1, b2, b3, b4, b5⟩ := h7.cells
  clear h6 h7 hb hp hq o1 o2 hc1 hc2
  go_enter Try.func18, Try.ntmps18
  go_upto_region 1 with (fail)
  try rw [hW0]
  clear hW0
  generalize S.length = ms at *
  generalize D.length = md at *
  go_wp2_with (go_at_call 13; with_reducible refine HSm.mono ?_; rintro x w1 ⟨rfl, hb1⟩; (obtain ⟨⟨c1, c2⟩, ⟨c3, c4⟩, c5⟩ := HM.out _ hb1))
  go_ret
  exact ⟨rfl, c5⟩
end Go.Proofs.Ytelglfmppmdmoaa
/-
  CodecWrites: what its walk needs. Own work.
-/
namespace Go.Proofs.Ytelglfmppmdmoaa
open Go.RowKit
attribute [local go_sem ↓] Go.wp_at_zero Go.wp_at_succ
/-- What Encode answers. -/
def encS (P : PV) : ByteArray := if Well P then ⟨(enc P).toArray⟩ else ⟨#[]⟩
def encE (P : PV) : Int := if Well P then 0 else 150
theorem encode_both (w : World) (sa : Option Addr) (sb so sc : Nat) (da : Option Addr) (db dO dc : Nat) (P : PV) (hp : RdP w sa sb so sc da db dO dc P) :
    Calls Try.prog 11 #[pvP P sa sc da dc] w fun e w' => e = .returned (.tuple #[.string (encS P), .int .i64 (encE P)]) ∧ Below w.heap.size w w' := by
  by_cases h : Well P
  · rw [encS, encE, if_pos h, if_pos h]; exact encode_yes w sa sb so sc da db dO dc P hp h
  · rw [encS, encE, if_neg h, if_neg h]; exact encode_no w sa sb so sc da db dO dc P hp h
theorem rencode_both (w : World) (sa : Option Addr) (sb so sc : Nat) (da : Option Addr) (db dO dc : Nat) (P : PV) (hp : RdP w sa sb so sc da db dO dc P) :
    Calls Try.prog 17 #[pvP P sa sc da dc] w fun e w' => e = .returned (.tuple #[.string (encS P), .int .i64 (encE P)]) ∧ Below w.heap.size w w' := by
  by_cases h : Well P
  · rw [encS, encE, if_pos h, if_pos h]; exact rencode_yes w sa sb so sc da db dO dc P hp h
  · rw [encS, encE, if_neg h, if_neg h]; exact rencode_no w sa sb so sc da db dO dc P hp h
theorem cV_two (o : Option Nat) : ∃ n e : Int, cV o = .tuple #[.int .u64 n, .int .i64 e] := by
  cases o with
  | none => exact ⟨0, 150, rfl⟩
  | some c => exact ⟨c, 0, rfl⟩
/-- A list of which the first j stand as in another. -/
def mk {α : Type} (R L M : List α) (j : Nat) : List α := R.take j ++ (L.drop j ++ M)
theorem mk_zero {α : Type} (R L M : List α) : mk R L M 0 = L ++ M := by simp [mk]
theorem mk_all {α : Type} {R L M : List α} {n : Nat} (h1 : R.length = n) (h2 : L.length = n) : mk R L M n = R ++ M := by
  rw [mk, List.take_of_length_le (by omega), List.drop_of_length_le (by omega), List.nil_append]
theorem mk_set {α : Type} {R L M : List α} {n j : Nat} (h1 : R.length = n) (h2 : L.length = n) (hj : j < n) (d : α) : (mk R L M j).set j (R.getD j d) = mk R L M (j + 1) := by
  have e1 : (R.take j).length = j := by rw [List.length_take]; omega
  have e2 : L.drop j = L[j]'(by omega) :: L.drop (j + 1) := List.drop_eq_getElem_cons (by omega)
  have e3 : R.take (j + 1) = R.take j ++ [R.getD j d] := by
    rw [List.take_add_one, List.getElem?_eq_getElem (by omega), List.getD_eq_getElem?_getD, List.getElem?_eq_getElem (by omega)]; rfl
  rw [mk, mk, List.set_append_right _ _ (by omega), e1, Nat.sub_self, e2, List.cons_append, List.set_cons_zero, e3, List.append_assoc]
  rfl
theorem mk_len {α : Type} {R L M : List α} {n j : Nat} (h1 : R.length = n) (h2 : L.length = n) (hj : j ≤ n) : (mk R L M j).length = n + M.length := by
  rw [mk, List.length_append, List.length_append, List.length_take, List.length_drop]; omega
theorem mk_at {α : Type} {R L M : List α} {n j : Nat} (h1 : R.length = n) (h2 : L.length = n) (hj : j < n) (d : α) : (mk R L M (j + 1)).getD j d = R.getD j d := by
  rw [← mk_set h1 h2 hj d]
  have hl : j < (mk R L M j).length := by rw [mk_len h1 h2 (by omega)]; omega
  rw [List.getD_eq_getElem?_getD, List.getElem?_set_self hl]; rfl
theorem rev_at {D : List ByteArray} {j : Nat} (hj : j < D.length) : D.reverse.getD j ByteArray.empty = D.getD (D.length - 1 - j) ByteArray.empty := by
  rw [List.getD_eq_getElem?_getD, List.getD_eq_getElem?_getD, List.getElem?_reverse hj]
/-- A number halved. -/
def hv (y : Nat) : Nat := y / 2 % 18446744073709551616
theorem half_at {S : List Nat} {j : Nat} (hj : j < S.length) : (S.map hv).getD j 0 = hv (S.getD j 0) := by
  rw [List.getD_eq_getElem?_getD, List.getD_eq_getElem?_getD, List.getElem?_map, List.getElem?_eq_getElem hj]; rfl
theorem ownS_set {w : World} {B g n cap j : Nat} {l : List ByteArray} (h : OwnS w B (.slice (some ⟨g, 0, none⟩) n cap) l) (x : ByteArray) : OwnS (w.setCell ⟨g, j, none⟩ (.string x)) B (.slice (some ⟨g, 0, none⟩) n cap) (l.set j x) := by
  obtain ⟨h1, h2⟩ := h
  refine ⟨by simp, .inr ?_⟩
  rcases h2 with ⟨h2, h3⟩ | ⟨g', cap', cur, hv, hg, hh, h3, h4, h5, h6⟩
  · cases h2
  · obtain ⟨e1, e2, e3⟩ := Value.slice.inj hv
    cases e1
    have s1 : (w.setCell ⟨g, j, none⟩ (.string x)).heap[g]? = _ := heap_setCell_same w g j cur _ _ hh
    refine ⟨g, cap, _, by rw [e2]; simp, hg, s1, by simpa [e3] using h3, by omega, by simpa [e3] using h5, ?_⟩
    rw [List.map_set, ← h6, List.length_set, Array.toList_setIfInBounds, List.take_set]
open Cv (cU) in
theorem ownU_cell {w : World} {B g n cap : Nat} {l : List Nat} (h : Cv.Own w B (.slice (some ⟨g, 0, none⟩) n cap) l) {j : Nat} (hj : j < l.length) : w.cell? ⟨g, j, none⟩ = some (.int .u64 ((l.getD j 0 : Nat) : Int)) ∧ w.frozen? ⟨g, j, none⟩ = false := by
  obtain ⟨h1, h2⟩ := h
  rcases h2 with ⟨h2, _⟩ | ⟨g', cap', cur, hv, hg, hh, hc, hm, hz, ht⟩
  · cases h2
  · obtain ⟨e1, e2, e3⟩ := Value.slice.inj hv
    cases e1
    refine ⟨?_, frozen_of_row w g j cur 22 hh⟩
    rw [cell_of_row w g j cur 22 (0, 0) hh]
    have : (cur.toList.take (l.length * 1))[j]? = some (.int .u64 ((l.getD j 0 : Nat) : Int)) := by
      rw [ht]; simp [cU, List.getElem?_eq_getElem hj, List.getD_eq_getElem?_getD]
    rw [List.getElem?_take_of_lt (by omega)] at this
    simpa using this
open Cv (cU) in
theorem ownU_set {w : World} {B g n cap j : Nat} {l : List Nat} (h : Cv.Own w B (.slice (some ⟨g, 0, none⟩) n cap) l) (c : Nat) : Cv.Own (w.setCell ⟨g, j, none⟩ (.int .u64 (c : Int))) B (.slice (some ⟨g, 0, none⟩) n cap) (l.set j c) := by
  obtain ⟨h1, h2⟩ := h
  refine ⟨by simp, .inr ?_⟩
  rcases h2 with ⟨h2, h3⟩ | ⟨g', cap', cur, hv, hg, hh, h3, h4, h5, h6⟩
  · cases h2
  · obtain ⟨e1, e2, e3⟩ := Value.slice.inj hv
    cases e1
    refine ⟨g, cap, cur.setIfInBounds j (.int .u64 (c : Int)), by rw [e2]; simp, hg, heap_setCell_same w g j cur _ _ hh, by simpa [e3] using h3, by omega, by simpa [e3] using h5, ?_⟩
    have h7 : cU (l.set j c) = (cU l).set j (.int .u64 (c : Int)) := by simp [cU]
    rw [h7, ← h6, List.length_set, Array.toList_setIfInBounds, List.take_set]
end Go.Proofs.Ytelglfmppmdmoaa
/-
  Walks of the reference of codec: Decode, where read is known. Own work.
-/
namespace Go.Proofs.Ytelglfmppmdmoaa
open Go.RowKit
attribute [local go_sem ↓] Go.wp_at_zero Go.wp_at_succ
theorem toList_loop (bs : ByteArray) : ∀ (n i : Nat) (r : List UInt8), bs.size - i = n → ByteArray.toList.loop bs i r = r.reverse ++ bs.data.toList.drop i := by
  intro n
  induction n with
  | zero =>
    intro i r h
    rw [ByteArray.toList.loop, if_neg (by omega)]
    rw [List.drop_eq_nil_of_le (by simp; exact (by omega : bs.size ≤ i)), List.append_nil]
  | succ n ih =>
    intro i r h
    have hi : i < bs.size := by omega
    rw [ByteArray.toList.loop, if_pos hi, ih (i + 1) _ (by omega)]
    have hl : i < bs.data.toList.length := by simp; exact hi
    rw [List.drop_eq_getElem_cons hl, List.reverse_cons, List.append_assoc]
    have : bs.get! i = bs.data.toList[i] := by
      show bs.data[i]! = _
      have hi2 : i < bs.data.size := hi
      rw [getElem!_pos bs.data i hi2]
      simp
    rw [this]; rfl
theorem toList_eq (bs : ByteArray) : bs.toList = bs.data.toList := by
  rw [ByteArray.toList, toList_loop bs bs.size 0 [] rfl]; rfl
theorem beq_ne {x y : ByteArray} (h : x ≠ y) : (x.toList == y.toList) = false := by
  rw [toList_eq, toList_eq]
  simp only [beq_eq_false_iff_ne, ne_eq]
  intro e
  exact h (ByteArray.ext (Array.toList_inj.1 e))
theorem rdq_one {w : World} {s : ByteArray} {e : Ending} {w' : World} (h : RdQ w s e w') : ∃ (kd k old size : Int) (sa : Option Addr) (sl sc : Nat) (da : Option Addr) (dl dc : Nat) (b : Bool), e = .returned (.tuple #[.agg #[.int .i64 kd, .int .i64 k, .int .u64 old, .int .u64 size, .slice sa sl sc, .slice da dl dc], .bool b]) ∧ Below w.heap.size w w' ∧
    ((b = false ∧ dec s.data.toList = none) ∨ (b = true ∧ ∃ Q sb db, kd = Q.kd ∧ k = Q.k ∧ old = (Q.old : Int) ∧ size = (Q.size : Int) ∧ sl = Q.S.length ∧ dl = Q.D.length ∧ RdP w' sa sb 0 sc da db 0 dc Q ∧ (Cv.Own w' w.heap.size (.slice sa Q.S.length sc) Q.S ∧ OwnS w' w.heap.size (.slice da Q.D.length dc) Q.D) ∧ (∀ P, dec s.data.toList = some P → Q = P))) := by
  rcases h with ⟨kd, k, old, size, sa, sl, sc, da, dl, dc, rfl, h1, h2⟩ | ⟨Q, sa, sb, sc, da, db, dc, rfl, h1, ho, h2, h3⟩
  · exact ⟨kd, k, old, size, sa, sl, sc, da, dl, dc, false, rfl, h2, .inl ⟨rfl, h1⟩⟩
  · exact ⟨Q.kd, Q.k, Q.old, Q.size, sa, _, sc, da, _, dc, true, rfl, h3, .inr ⟨rfl, Q, sb, db, rfl, rfl, rfl, rfl, rfl, rfl, h1, ho, h2⟩⟩
/-- What Decode answers. -/
def DeQ (w : World) (s : ByteArray) (e : Ending) (w' : World) : Prop :=
  (dec s.data.toList = none ∧ e = .returned (.tuple #[.agg #[.int .i64 0, .int .i64 0, .int .u64 0, .int .u64 0, .slice none 0 0, .slice none 0 0], .int .i64 140]) ∧ Below w.heap.size w w') ∨
  (∃ P sa sb sc da db dc, dec s.data.toList = some P ∧ e = .returned (.tuple #[pvP P sa sc da dc, .int .i64 0]) ∧ RdP w' sa sb 0 sc da db 0 dc P ∧ Below w.heap.size w w')
set_option maxRecDepth 100000 in
set_option maxHeartbeats 4000000 in
theorem rdecode_of (s : ByteArray) (hr : ∀ w, Calls Try.prog 41 #[.string s] w (RdQ w s)) (w : World) : Calls Try.prog 19 #[.string s] w (DeQ w s) := by
  have HR : Hid (∀ F, Calls Try.prog 41 #[.string s] F fun e w' => ∃ (kd k old size : Int) (sa : Option Addr) (sl sc : Nat) (da : Option Addr) (dl dc : Nat) (b : Bool), e = .returned (.tuple #[.agg #[.int .i64 kd, .int .i64 k, .int .u64 old, .int .u64 size, .slice sa sl sc, .slice da dl dc], .bool b]) ∧ Below F.heap.size F w' ∧ Hid ((b = false ∧ dec s.data.toList = none) ∨ (b = true ∧ ∃ Q sb db, kd = Q.kd ∧ k = Q.k ∧ old = (Q.old : Int) ∧ size = (Q.size : Int) ∧ sl = Q.S.length ∧ dl = Q.D.length ∧ RdP w' sa sb 0 sc da db 0 dc Q ∧ (Cv.Own w' F.heap.size (.slice sa Q.S.length sc) Q.S ∧ OwnS w' F.heap.size (.slice da Q.D.length dc) Q.D) ∧ (∀ P, dec s.data.toList = some P → Q = P)))) := fun F => (hr F).mono fun _ _ h => rdq_one h
  obtain ⟨W0, hW0, h6, hb0, _⟩ := box6 w (.int .i64 0) (.int .i64 0) (.int .u64 0) (.int .u64 0) (.slice none 0 0) (.slice none 0 0)
  have HX : Hid (∀ F, Below W0.heap.size W0 F → Six F w.heap.size (.int .i64 0) (.int .i64 0) (.int .u64 0) (.int .u64 0) (.slice none 0 0) (.slice none 0 0) ∧ Below w.heap.size w F) := fun F hF => ⟨h6.next hF, bnext hb0 hF⟩
  have HW : Hid (w.heap.size < W0.heap.size) := h6.lt
  clear hr h6 hb0
  go_enter Try.func19, Try.ntmps19
  go_upto_region 1 with (fail)
  try rw [hW0]
  clear hW0
  go_upto_region 2 with (go_at_call 41; with_reducible refine (HR.out _).mono ?_; rintro x w1 ⟨kd, k, old, size, sa, sl, sc, da, dl, dc, b, rfl, hb1, HQ⟩)
  obtain ⟨F, hF, h7, hb2, _⟩ := box6 w1 (.int .i64 kd) (.int .i64 k) (.int .u64 old) (.int .u64 size) (.slice sa sl sc) (.slice da dl dc)
  try rw [hF]
  clear hF HR
  have hbF := bnext hb1 hb2
  obtain ⟨x6, xb⟩ := HX.out _ hbF
  obtain ⟨c0, c1, c2, c3, c4, c5⟩ := x6.cells
  have fz := x6.fz
  rcases HQ.out with ⟨rfl, hn⟩ | ⟨rfl, Q, sb, db, rfl, rfl, rfl, rfl, rfl, rfl, rq, ⟨ow1, ow2⟩, hq⟩
  · have hp := x6.put (.int .i64 0) (.int .i64 0) (.int .u64 0) (.int .u64 0) (.slice none 0 0) (.slice none 0 0)
    have hc := put6_ch F w.heap.size (.int .i64 0) (.int .i64 0) (.int .u64 0) (.int .u64 0) (.slice none 0 0) (.slice none 0 0)
    unfold put6 at hp hc
    have HN := hide hn
    have HB : Hid (Below w.heap.size w F) := xb
    clear HQ hn x6 xb hb1 hb2 hbF h7
    go_wp2
    obtain ⟨s0, s1, s2, s3, s4, s5⟩ := hp.cells
    refine bodyPost_ret (v := .tuple #[.agg #[.int .i64 0, .int .i64 0, .int .u64 0, .int .u64 0, .slice none 0 0, .slice none 0 0], .int .i64 140]) (by simp [results, Try.results19, go_sem, s0, s1, s2, s3, s4, s5]) rfl ?_
    exact .inl ⟨HN.out, rfl, HB.out.trans (hc.below (by rintro b rfl; omega))⟩
  · have HE := rencode_both F sa sb 0 sc da db 0 dc Q (rq.next hb2)
    simp only [pvP, pv6] at HE
    obtain ⟨m0, m1, m2, m3, m4, m5⟩ := h7.cells
    have HY : Hid (∀ G, Below F.heap.size F G → RdP G sa sb 0 sc da db 0 dc Q ∧ Six G w1.heap.size (.int .i64 Q.kd) (.int .i64 Q.k) (.int .u64 (Q.old : Int)) (.int .u64 (Q.size : Int)) (.slice sa Q.S.length sc) (.slice da Q.D.length dc) ∧ Below W0.heap.size W0 G ∧ Cv.Own G W0.heap.size (.slice sa Q.S.length sc) Q.S ∧ OwnS G W0.heap.size (.slice da Q.D.length dc) Q.D) := fun G hG => ⟨(rq.next hb2).next hG, h7.next hG, bnext hbF hG, Cv.ownB_next (Cv.ownB_next ow1 hb2) hG, own_next (own_next ow2 hb2 (Nat.le_refl _)) hG (Nat.le_refl _)⟩
    have HD := hide hq
    clear HQ hq rq ow1 ow2 h7 x6 xb hb1 hb2 hbF c0 c1 c2 c3 c4 c5 fz
    go_upto_region 5 with (go_at_call 17; with_reducible refine HE.mono ?_; rintro x w3 ⟨rfl, hb3⟩)
    obtain ⟨y1, y2, y3, y4, y5⟩ := HY.out _ hb3
    obtain ⟨x6, xb⟩ := HX.out _ y3
    obtain ⟨c0, c1, c2, c3, c4, c5⟩ := x6.cells
    have fz := x6.fz
    have HB : Hid (Below w.heap.size w w3) := xb
    clear m0 m1 m2 m3 m4 m5 HE xb
    by_cases hgd : Well Q ∧ encS Q = s
    · obtain ⟨hw, hes⟩ := hgd
      have hE0 : encE Q = 0 := by rw [encE, if_pos hw]
      have hds : dec s.data.toList = some Q := by
        have h1 := dec_enc hw
        rw [encS, if_pos hw] at hes
        rw [← hes, ba_list]; exact h1
      obtain ⟨m0, m1, m2, m3, m4, m5⟩ := y2.cells
      have hp := x6.put (.int .i64 Q.kd) (.int .i64 Q.k) (.int .u64 (Q.old : Int)) (.int .u64 (Q.size : Int)) (.slice sa Q.S.length sc) (.slice da Q.D.length dc)
      have hc := put6_ch w3 w.heap.size (.int .i64 Q.kd) (.int .i64 Q.k) (.int .u64 (Q.old : Int)) (.int .u64 (Q.size : Int)) (.slice sa Q.S.length sc) (.slice da Q.D.length dc)
      have hr2 : ∃ sb' db', RdP (put6 w3 w.heap.size (.int .i64 Q.kd) (.int .i64 Q.k) (.int .u64 (Q.old : Int)) (.int .u64 (Q.size : Int)) (.slice sa Q.S.length sc) (.slice da Q.D.length dc)) sa sb' 0 sc da db' 0 dc Q := by
        have z1 : Cv.Own (put6 w3 w.heap.size (.int .i64 Q.kd) (.int .i64 Q.k) (.int .u64 (Q.old : Int)) (.int .u64 (Q.size : Int)) (.slice sa Q.S.length sc) (.slice da Q.D.length dc)) W0.heap.size (.slice sa Q.S.length sc) Q.S := keep_row y4 fun g _ hB => hc.block g (by have := HW.out; show ¬ _ = _; omega)
        have z2 : OwnS (put6 w3 w.heap.size (.int .i64 Q.kd) (.int .i64 Q.k) (.int .u64 (Q.old : Int)) (.int .u64 (Q.size : Int)) (.slice sa Q.S.length sc) (.slice da Q.D.length dc)) W0.heap.size (.slice da Q.D.length dc) Q.D := keep_row y5 fun g _ hB => hc.block g (by have := HW.out; show ¬ _ = _; omega)
        obtain ⟨ao, b', c', hv1, u1, _⟩ := own_read z1
        obtain ⟨bo, d', f', hv2, u2, u3, _⟩ := owns_rds z2 y1.rd.sz
        injection hv1 with g1 g2 g3
        injection hv2 with g4 g5 g6
        subst g1 g4
        exact ⟨b', d', u1, u2, y1.old64, y1.sz64, y1.mS, y1.mD, y1.cD⟩
      obtain ⟨sb', db', hr2⟩ := hr2
      unfold put6 at hp hc hr2
      have HN := hide hds
      have HR2 := hide hr2
      rw [hes, hE0]
      clear hw hes hE0 hds x6 y1 y2 y3 y4 y5 hb3 hr2 HY HD
      go_wp2
      obtain ⟨s0, s1, s2, s3, s4, s5⟩ := hp.cells
      refine bodyPost_ret (v := .tuple #[.agg #[.int .i64 Q.kd, .int .i64 Q.k, .int .u64 (Q.old : Int), .int .u64 (Q.size : Int), .slice sa Q.S.length sc, .slice da Q.D.length dc], .int .i64 0]) (by simp [results, Try.results19, go_sem, s0, s1, s2, s3, s4, s5]) rfl ?_
      exact .inr ⟨Q, sa, sb', sc, da, db', dc, HN.out, rfl, HR2.out, HB.out.trans (hc.below (by rintro b rfl; omega))⟩
    · have hn : dec s.data.toList = none := by
        rcases hdd : dec s.data.toList with _ | P
        · rfl
        · obtain rfl := HD.out P hdd
          obtain ⟨g1, g2, _⟩ := enc_dec hdd
          exact absurd ⟨g1, by rw [encS, if_pos g1, g2, ba_back]⟩ hgd
      have hp := x6.put (.int .i64 0) (.int .i64 0) (.int .u64 0) (.int .u64 0) (.slice none 0 0) (.slice none 0 0)
      have hc := put6_ch w3 w.heap.size (.int .i64 0) (.int .i64 0) (.int .u64 0) (.int .u64 0) (.slice none 0 0) (.slice none 0 0)
      unfold put6 at hp hc
      have HN := hide hn
      have hcase : encE Q = 150 ∨ (encE Q = 0 ∧ encS Q ≠ s) := by
        by_cases hw : Well Q
        · exact .inr ⟨by rw [encE, if_pos hw], fun h => hgd ⟨hw, h⟩⟩
        · exact .inl (by rw [encE, if_neg hw])
      clear hn x6 y1 y2 y3 y4 y5 hb3 HY HD hgd
      rcases hcase with hE | ⟨hE, hne⟩
      · rw [hE]
        clear hE
        generalize encS Q = sq
        go_wp2
        obtain ⟨s0, s1, s2, s3, s4, s5⟩ := hp.cells
        refine bodyPost_ret (v := .tuple #[.agg #[.int .i64 0, .int .i64 0, .int .u64 0, .int .u64 0, .slice none 0 0, .slice none 0 0], .int .i64 140]) (by simp [results, Try.results19, go_sem, s0, s1, s2, s3, s4, s5]) rfl ?_
        exact .inl ⟨HN.out, rfl, HB.out.trans (hc.below (by rintro b rfl; omega))⟩
      · rw [hE]
        clear hE
        generalize encS Q = sq at hne ⊢
        have hbs : (sq.toList == s.toList) = false := beq_ne hne
        clear hne
        go_wp2
        obtain ⟨s0, s1, s2, s3, s4, s5⟩ := hp.cells
        refine bodyPost_ret (v := .tuple #[.agg #[.int .i64 0, .int .i64 0, .int .u64 0, .int .u64 0, .slice none 0 0, .slice none 0 0], .int .i64 140]) (by simp [results, Try.results19, go_sem, s0, s1, s2, s3, s4, s5]) rfl ?_
        exact .inl ⟨HN.out, rfl, HB.out.trans (hc.below (by rintro b rfl; omega))⟩
end Go.Proofs.Ytelglfmppmdmoaa
/-
  CodecReads, where the reference's read is known. Own work.
-/
namespace Go.Proofs.Ytelglfmppmdmoaa
open Go.RowKit
attribute [local go_sem ↓] Go.wp_at_zero Go.wp_at_succ
theorem rdecode_none (s : ByteArray) (hr : ∀ w, Calls Try.prog 41 #[.string s] w (RdQ w s)) (hd : dec s.data.toList = none) (w : World) : Calls Try.prog 19 #[.string s] w fun e w' => e = .returned (.tuple #[.agg #[.int .i64 0, .int .i64 0, .int .u64 0, .int .u64 0, .slice none 0 0, .slice none 0 0], .int .i64 140]) ∧ Below w.heap.size w w' := by
  refine (rdecode_of s hr w).mono ?_
  rintro e w' (⟨_, h2, h3⟩ | ⟨P, _, _, _, _, _, _, h1, _⟩)
  · exact ⟨h2, h3⟩
  · rw [hd] at h1; cases h1
theorem rdecode_some (s : ByteArray) (hr : ∀ w, Calls Try.prog 41 #[.string s] w (RdQ w s)) (P : PV) (hd : dec s.data.toList = some P) (w : World) : Calls Try.prog 19 #[.string s] w fun e w' => ∃ sa sb sc da db dc, e = .returned (.tuple #[.agg #[.int .i64 P.kd, .int .i64 P.k, .int .u64 (P.old : Int), .int .u64 (P.size : Int), .slice sa P.S.length sc, .slice da P.D.length dc], .int .i64 0]) ∧ RdP w' sa sb 0 sc da db 0 dc P ∧ Below w.heap.size w w' := by
  refine (rdecode_of s hr w).mono ?_
  rintro e w' (⟨h1, _⟩ | ⟨Q, sa, sb, sc, da, db, dc, h1, h2, h3, h4⟩)
  · rw [hd] at h1; cases h1
  · rw [hd] at h1; cases h1
    exact ⟨sa, sb, sc, da, db, dc, h2, h3, h4⟩
set_option maxRecDepth 100000 in
set_option maxHeartbeats 4000000 in
theorem reads_of (w : World) (s : ByteArray) (hs : s.size ≤ 140737488355328) (hr : ∀ w, Calls Try.prog 41 #[.string s] w (RdQ w s)) :
    Calls Try.prog 5 #[.string s] w fun e w' => e = .returned (.bool true) ∧ Below w.heap.size w w' := by
  have HR := hide hr
  have HS : Hid (s.size ≤ 140737488355328) := hs
  clear hr hs
  rcases hd : dec s.data.toList with _ | P
  · have HD := fun F => decode_none F s (by have := HS.out; omega) hd
    have HE := fun F => rdecode_none s HR.out hd F
    clear hd
    go_enter Try.func5, Try.ntmps5
    go_upto_region 3 with (go_at_call 9; with_reducible refine (fixed_any _).mono ?_; rintro x w1 ⟨rfl, hb1⟩)
    go_upto_region 4 with (go_at_call 10; with_reducible refine (HD _).mono ?_; rintro x w2 ⟨rfl, hb2⟩)
    obtain ⟨F, hF, h7, hb3, _⟩ := box6 w2 (.int .i64 0) (.int .i64 0) (.int .u64 0) (.int .u64 0) (.slice none 0 0) (.slice none 0 0)
    try rw [hF]
    clear hF HD
    go_upto_region 5 with (go_at_call 19; with_reducible refine (HE _).mono ?_; rintro x w4 ⟨rfl, hb4⟩)
    obtain ⟨G, hG, h8, hb5, _⟩ := box6 w4 (.int .i64 0) (.int .i64 0) (.int .u64 0) (.int .u64 0) (.slice none 0 0) (.slice none 0 0)
    try rw [hG]
    clear hG HE
    have HN : Calls Try.prog 13 #[.agg #[.int .i64 0, .int .i64 0, .int .u64 0, .int .u64 0, .slice none 0 0, .slice none 0 0], .agg #[.int .i64 0, .int .i64 0, .int .u64 0, .int .u64 0, .slice none 0 0, .slice none 0 0]] G fun e w' => e = .returned (.bool true) ∧ Below G.heap.size G w' :=
      same_yes G none 0 0 0 none 0 0 0 none 0 0 0 none 0 0 0 noV (rdp_no G) (rdp_no G)
    obtain ⟨m0, m1, m2, m3, m4, m5⟩ := (h7.next (bnext hb4 hb5)).cells
    obtain ⟨k0, k1, k2, k3, k4, k5⟩ := h8.cells
    have HB := hide (bnext (bnext (bnext (bnext hb1 hb2) hb3) hb4) hb5)
    clear h7 h8 hb1 hb2 hb3 hb4 hb5
    go_wp2_with (go_at_call 13; with_reducible refine HN.mono ?_; rintro x w6 ⟨rfl, hb6⟩)
    go_ret
    exact ⟨rfl, bnext HB.out hb6⟩
  · have HD := fun F => decode_some F s (by have := HS.out; omega) P hd
    have HE := fun F => rdecode_some s HR.out P hd F
    clear hd
    go_enter Try.func5, Try.ntmps5
    go_upto_region 3 with (go_at_call 9; with_reducible refine (fixed_any _).mono ?_; rintro x w1 ⟨rfl, hb1⟩)
    go_upto_region 4 with (go_at_call 10; (refine (HD _).mono ?_); rintro x w2 ⟨xa, xb, xc, ya, yb, yc, rfl, q1, hb2⟩)
    obtain ⟨F, hF, h7, hb3, _⟩ := box6 w2 (.int .i64 P.kd) (.int .i64 P.k) (.int .u64 (P.old : Int)) (.int .u64 (P.size : Int)) (.slice xa P.S.length xc) (.slice ya P.D.length yc)
    try rw [hF]
    clear hF HD
    go_upto_region 5 with (go_at_call 19; (refine (HE _).mono ?_); rintro x w4 ⟨za, zb, zc, ua, ub, uc, rfl, q2, hb4⟩)
    obtain ⟨G, hG, h8, hb5, _⟩ := box6 w4 (.int .i64 P.kd) (.int .i64 P.k) (.int .u64 (P.old : Int)) (.int .u64 (P.size : Int)) (.slice za P.S.length zc) (.slice ua P.D.length uc)
    try rw [hG]
    clear hG HE
    have HN := same_yes G _ _ _ _ _ _ _ _ _ _ _ _ _ _ _ _ P (((q1.next hb3).next hb4).next hb5) (q2.next hb5)
    simp only [pvP, pv6] at HN
    obtain ⟨m0, m1, m2, m3, m4, m5⟩ := (h7.next (bnext hb4 hb5)).cells
    obtain ⟨k0, k1, k2, k3, k4, k5⟩ := h8.cells
    have HB := hide (bnext (bnext (bnext (bnext hb1 hb2) hb3) hb4) hb5)
    clear h7 h8 hb1 hb2 hb3 hb4 hb5 q1 q2
    go_wp2_with (go_at_call 13; with_reducible refine HN.mono ?_; rintro x w6 ⟨rfl, hb6⟩)
    go_ret
    exact ⟨rfl, bnext HB.out hb6⟩
end Go.Proofs.Ytelglfmppmdmoaa
/-
  What the rows ask. Own work.
-/
namespace Go.Proofs.Ytelglfmppmdmoaa
theorem u64_nat {a : Int} (wf : (Lit.int .u64 a).wf = true) : ∃ n : Nat, a = (n : Int) ∧ n < 18446744073709551616 := by
  have := bounds_u64 wf
  exact ⟨a.toNat, by omega, by omega⟩
end Go.Proofs.Ytelglfmppmdmoaa
