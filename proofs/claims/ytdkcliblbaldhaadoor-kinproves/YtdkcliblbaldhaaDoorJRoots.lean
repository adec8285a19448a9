/-
  KinRoots: every proof by hand. Own work.
-/
import Derived.Test.YtdkcliblbaldhaaDoorJRefC
import Derived.Test.YtdkcliblbaldhaaDoorJAlive
import Derived.Test.YtdkcliblbaldhaaDoorJLent
import Derived.Test.YtdkcliblbaldhaaDoorJByt
import Derived.Test.YtdkcliblbaldhaaDoorJSame
namespace Go.Proofs.YtdkcliblbaldhaaDoor
open Go.RowKit
open Cv (cU)
attribute [local go_sem ↓] Go.wp_at_zero Go.wp_at_succ
/-- Both Roots answer alike. -/
theorem kboth (kd k : Int) (old size ns : Nat) (D : List ByteArray) (hD : D.length ≤ 8796093022208) : ∃ (n1 : Nat) (d1 : ByteArray) (n2 : Nat) (d2 : ByteArray) (er : Nat),
    (∀ W sa sc da db dO dc, Tb W → RdS W da db dO D.length D → D.length ≤ dc → Calls Tryd.prog 13 #[vP kd k old size (.slice sa ns sc) (.slice da D.length dc)] W fun e w' => e = .returned (.tuple #[.agg #[.int .u64 (n1 : Int), .string d1], .agg #[.int .u64 (n2 : Int), .string d2], .int .i64 (er : Int)]) ∧ Below W.heap.size W w') ∧
    (∀ W sa sc da db dO dc, Tr W → RdS W da db dO D.length D → D.length ≤ dc → Calls Tryd.prog 25 #[vP kd k old size (.slice sa ns sc) (.slice da D.length dc)] W fun e w' => e = .returned (.tuple #[.agg #[.int .u64 (n1 : Int), .string d1], .agg #[.int .u64 (n2 : Int), .string d2], .int .i64 (er : Int)]) ∧ Below W.heap.size W w') := by
  by_cases h1 : okK kd k old size ns D
  · obtain rfl : kd = 3 := h1.1.1.1
    obtain rfl : ns = 0 := h1.1.2.2.2
    have hD32 : ∀ d ∈ D, d.size ≤ 32 := fun d hd => by have := h1.2.2 d hd; have := h1.1.1.2; omega
    refine ⟨old, kOld (clk k) old D, size, kNow (clk k) size (dgK (clk k) (kb old size) D), 0, fun W sa sc da db dO dc hT hR hc => ?_, fun W sa sc da db dO dc hT hR hc => ?_⟩
    · exact kroots_ok W hT k old size sa sc da db dO dc D hR hc h1 _ (jn_dgK (clk_le k) (kb_row h1.1.2.2.1 h1.1.2.1) hD32) _ _ rfl rfl
    · exact rroots_ok W hT k old size sa sc da db dO dc D hR hc h1 _ _ rfl rfl
  · exact ⟨0, ⟨#[]⟩, 0, ⟨#[]⟩, 150, fun W sa sc da db dO dc _ hR _ => kroots_no W kd k old size sa ns sc da db dO dc D hR hD h1, fun W sa sc da db dO dc _ hR _ => rroots_no W kd k old size sa ns sc da db dO dc D hR hD h1⟩
theorem own_setS {w : World} {B g m cap i : Nat} {l : List ByteArray} (h : OwnS w B (.slice (some ⟨g, 0, none⟩) m cap) l) (x : ByteArray) : OwnS (w.setCell ⟨g, i, none⟩ (.string x)) B (.slice (some ⟨g, 0, none⟩) m cap) (l.set i x) := by
  obtain ⟨h1, h2⟩ := h
  refine ⟨by simp, .inr ?_⟩
  rcases h2 with ⟨h2, h3⟩ | ⟨g', cap', cur, hv, hg, hh, h3, h4, h5, h6⟩
  · cases h2
  · obtain ⟨e1, e2, e3⟩ := Value.slice.inj hv
    cases e1
    have s1 : (w.setCell ⟨g, i, none⟩ (.string x)).heap[g]? = _ := heap_setCell_same w g i cur _ _ hh
    refine ⟨g, cap, _, by rw [e2]; simp, hg, s1, by simpa [e3] using h3, by omega, by simpa [e3] using h5, ?_⟩
    rw [List.length_set, Array.toList_setIfInBounds, List.take_set, h6, List.map_set]
theorem set_left {α : Type} {l m : List α} {i : Nat} (hi : i < l.length) (x : α) : (l ++ m).set i x = l.set i x ++ m := by rw [List.set_append_left _ _ hi]
theorem six_rh {w : World} {s q n : Nat} {a b c d e f : Value} {x : ByteArray} (h : Six w s a b c d e f) (hr : Rh w q n x) : s ≠ q := fun e => by
  subst e
  have h7 : w.heap[s]? = _ := h
  rw [show w.heap[s]? = _ from hr] at h7
  injection h7 with h7
  injection h7 with _ h7 _
  exact absurd h7 (by decide)
/-- What stands while the digests are written over. -/
structure Ov (w wr : World) (B q3 q4 q6 : Nat) (kd k : Int) (old size : Nat) (vs : Value) (gd cd : Nat) (E : List ByteArray) (n : Nat) : Prop where
  six : Six wr q3 (.int .i64 kd) (.int .i64 k) (.int .u64 (old : Int)) (.int .u64 (size : Int)) vs (.slice (some ⟨gd, 0, none⟩) n cd)
  own : OwnS wr B (.slice (some ⟨gd, 0, none⟩) (n + 2) cd) (E ++ [roomB, moreB])
  len : E.length = n
  sz : ∀ d ∈ E, d.size ≤ 9223372036854775807
  rh : ∃ n1 d1 n2 d2 n3 d3 n4 d4, Rh wr q4 n1 d1 ∧ Rh wr (q4 + 1) n2 d2 ∧ Rh wr q6 n3 d3 ∧ Rh wr (q6 + 1) n4 d4
  be : Below w.heap.size w wr
  hB : w.heap.size ≤ B
section
variable {w wr W : World} {B q3 q4 q6 : Nat} {kd k : Int} {old size : Nat} {vs : Value} {gd cd : Nat} {E : List ByteArray} {n : Nat}
theorem Ov.next (h : Ov w wr B q3 q4 q6 kd k old size vs gd cd E n) (hb : Below wr.heap.size wr W) : Ov w W B q3 q4 q6 kd k old size vs gd cd E n := by
  obtain ⟨n1, d1, n2, d2, n3, d3, n4, d4, a1, a2, a3, a4⟩ := h.rh
  exact ⟨h.six.next hb, own_next h.own hb (Nat.le_refl _), h.len, h.sz, ⟨n1, d1, n2, d2, n3, d3, n4, d4, a1.next hb, a2.next hb, a3.next hb, a4.next hb⟩, bnext h.be hb, h.hB⟩
theorem Ov.set (h : Ov w wr B q3 q4 q6 kd k old size vs gd cd E n) {j : Nat} (hj : j < n) (x : ByteArray) (hx : x.size ≤ 9223372036854775807) : Ov w (wr.setCell ⟨gd, j, none⟩ (.string x)) B q3 q4 q6 kd k old size vs gd cd (E.set j x) n := by
  obtain ⟨n1, d1, n2, d2, n3, d3, n4, d4, a1, a2, a3, a4⟩ := h.rh
  have hch := (ChT.refl (fun b => b = gd) wr).set gd j (.string x) rfl
  have n6 : q3 ≠ gd := fun e => own_ty h.own (q := q3) h.six (by decide) gd rfl e.symm
  have nr : ∀ {q m : Nat} {d : ByteArray}, Rh wr q m d → q ≠ gd := fun {q m d} hr e => own_ty h.own (q := q) hr (by decide) gd rfl e.symm
  refine ⟨h.six.same (hch.block q3 n6), ?_, by rw [List.length_set]; exact h.len, fun d hd => ?_, ⟨n1, d1, n2, d2, n3, d3, n4, d4, a1.same (hch.block q4 (nr a1)), a2.same (hch.block _ (nr a2)), a3.same (hch.block q6 (nr a3)), a4.same (hch.block _ (nr a4))⟩, h.be.trans (hch.below (by rintro b rfl; have := (World.ownsRow.lt h.own b rfl).1; have := h.hB; omega)), h.hB⟩
  · have := own_setS (i := j) h.own x
    rw [set_left (by rw [h.len]; exact hj)] at this
    exact this
  · rcases List.mem_or_eq_of_mem_set hd with hd | rfl
    · exact h.sz d hd
    · exact hx
theorem Ov.rds (h : Ov w wr B q3 q4 q6 kd k old size vs gd cd E n) : RdS wr (some ⟨gd, 0, none⟩) gd 0 n E := by
  have := own_rds h.own h.sz
  rwa [h.len] at this
end
set_option maxRecDepth 100000 in
set_option maxHeartbeats 4000000 in
theorem roots_walk (w : World) (ht : Tb w) (hr : Tr w) (kd k : Int) (old size : Nat) (sa : Option Addr) (sb so sc : Nat) (S : List Nat) (rs : RdU w sa sb so S.length S) (hns : sa = none → sc = 0) (hS : S.length ≤ 17592186043904) (da : Option Addr) (db dO dc : Nat) (D : List ByteArray) (rd : RdS w da db dO D.length D) (hdc : D.length ≤ dc) (hnd : da = none → dc = 0) (hD : D.length ≤ 8796093021952) :
    Calls Tryd.prog 6 #[vP kd k old size (.slice sa S.length sc) (.slice da D.length dc)] w fun e w' => e = .returned (.bool true) ∧ Below w.heap.size w w' := by
  have h6 := six_new w (.int .i64 kd) (.int .i64 k) (.int .u64 (old : Int)) (.int .u64 (size : Int)) (.slice sa S.length sc) (.slice da D.length dc)
  have hb := bal (Below.refl w.heap.size w) (.cells #[.int .i64 kd, .int .i64 k, .int .u64 (old : Int), .int .u64 (size : Int), .slice sa S.length sc, .slice da D.length dc] 32)
  obtain ⟨W0, hW0⟩ : ∃ W0, w.alloc (.cells #[.int .i64 kd, .int .i64 k, .int .u64 (old : Int), .int .u64 (size : Int), .slice sa S.length sc, .slice da D.length dc] 32) = W0 := ⟨_, rfl⟩
  rw [hW0] at h6 hb
  have HA := alive_any W0 (ht.next hb)
  have HX : Hid (∀ W, Below W0.heap.size W0 W → Six W w.heap.size (.int .i64 kd) (.int .i64 k) (.int .u64 (old : Int)) (.int .u64 (size : Int)) (.slice sa S.length sc) (.slice da D.length dc) ∧ RdU W sa sb so S.length S ∧ RdS W da db dO D.length D ∧ Below w.heap.size w W) := fun W hW => ⟨h6.next hW, rs.next (bnext hb hW), rd.next (bnext hb hW) (Nat.le_refl _), bnext hb hW⟩
  have HT : Hid (∀ W, Below w.heap.size w W → Tb W ∧ Tr W) := fun W hb => ⟨ht.next hb, hr.next hb⟩
  have HLe : Hid (∀ W, Below W0.heap.size W0 W → Calls Tryd.prog 24 #[.agg #[.int .i64 kd, .int .i64 k, .int .u64 (old : Int), .int .u64 (size : Int), .slice sa S.length sc, .slice da D.length dc]] W fun e w' => ∃ gs cs gd cd, e = .returned (.agg #[.int .i64 kd, .int .i64 k, .int .u64 (old : Int), .int .u64 (size : Int), .slice (some ⟨gs, 0, none⟩) S.length cs, .slice (some ⟨gd, 0, none⟩) D.length cd]) ∧ Cv.Own w' W.heap.size (.slice (some ⟨gs, 0, none⟩) (S.length + 2) cs) (S ++ [77, 78]) ∧ OwnS w' W.heap.size (.slice (some ⟨gd, 0, none⟩) (D.length + 2) cd) (D ++ [roomB, moreB]) ∧ S.length + 2 ≤ cs ∧ D.length + 2 ≤ cd ∧ Below W.heap.size W w') := fun W hW => lent_any W kd k old size sa sb so sc S (HX.out W hW).2.1 hns hS da db dO dc D (HX.out W hW).2.2.1 hnd hD
  obtain ⟨n1, d1, n2, d2, er, hR1, hR2⟩ := kboth kd k old size S.length D (by omega)
  have HR1 := hide hR1
  have HR2 := hide hR2
  have HKp : Hid (∀ W gs cs gd cd, Kp W gs cs S gd cd D → RdU W sa sb so S.length S → RdS W da db dO D.length D → Calls Tryd.prog 26 #[.agg #[.int .i64 kd, .int .i64 k, .int .u64 (old : Int), .int .u64 (size : Int), .slice (some ⟨gs, 0, none⟩) S.length cs, .slice (some ⟨gd, 0, none⟩) D.length cd], .agg #[.int .i64 kd, .int .i64 k, .int .u64 (old : Int), .int .u64 (size : Int), .slice sa S.length sc, .slice da D.length dc]] W fun e w' => e = .returned (.bool true) ∧ Below W.heap.size W w') := fun W gs cs gd cd h1 h2 h3 => kept_any W kd k old size gs cs S gd cd D h1 sa sb so sc h2 (by omega) da db dO dc h3 (by omega)
  have HQ : Hid (S.length ≤ 17592186043904 ∧ D.length ≤ 8796093021952 ∧ D.length ≤ dc ∧ (∀ d ∈ D, d.size ≤ 9223372036854775807)) := ⟨hS, hD, hdc, rd.sz⟩
  have hDz : (D.length : Int) ≤ 8796093021952 := by omega
  have hbW := hb
  unfold vP at HR1 HR2
  unfold vP
  clear ht hr h6 hb rs rd hns hS hdc hnd hD hR1 hR2
  go_enter Tryd.func6, Tryd.ntmps6
  go_upto_region 3 with (go_at_call 8; with_reducible refine HA.mono ?_; rintro e w1 ⟨rfl, hb1⟩)
  obtain ⟨x6, _, _, _⟩ := HX.out w1 hb1
  obtain ⟨p0, p1, p2, p3, p4, p5⟩ := x6.cells
  clear HA x6 hW0
  go_upto_region 4 with (go_at_call 24; with_reducible refine (HLe.out _ hb1).mono ?_; rintro e w2 ⟨gs, cs, gd, cd, rfl, oS, oD, hcs, hcd, hb2⟩)
  have y3 := six_new w2 (.int .i64 kd) (.int .i64 k) (.int .u64 (old : Int)) (.int .u64 (size : Int)) (.slice (some ⟨gs, 0, none⟩) S.length cs) (.slice (some ⟨gd, 0, none⟩) D.length cd)
  have t3 := bal (Below.refl w2.heap.size w2) (.cells #[.int .i64 kd, .int .i64 k, .int .u64 (old : Int), .int .u64 (size : Int), .slice (some ⟨gs, 0, none⟩) S.length cs, .slice (some ⟨gd, 0, none⟩) D.length cd] 32)
  obtain ⟨w3, hw3⟩ : ∃ w3, w2.alloc (.cells #[.int .i64 kd, .int .i64 k, .int .u64 (old : Int), .int .u64 (size : Int), .slice (some ⟨gs, 0, none⟩) S.length cs, .slice (some ⟨gd, 0, none⟩) D.length cd] 32) = w3 := ⟨_, rfl⟩
  rw [hw3] at y3 t3 ⊢
  have hb3 := bnext (bnext hb1 hb2) t3
  have hKp3 := (kp_own oS oD HQ.out.2.2.2 hcs hcd).next t3
  have HS3 : Hid (∀ W, Below w3.heap.size w3 W → Six W w2.heap.size (.int .i64 kd) (.int .i64 k) (.int .u64 (old : Int)) (.int .u64 (size : Int)) (.slice (some ⟨gs, 0, none⟩) S.length cs) (.slice (some ⟨gd, 0, none⟩) D.length cd) ∧ Kp W gs cs S gd cd D ∧ OwnS W w1.heap.size (.slice (some ⟨gd, 0, none⟩) (D.length + 2) cd) (D ++ [roomB, moreB]) ∧ Six W w.heap.size (.int .i64 kd) (.int .i64 k) (.int .u64 (old : Int)) (.int .u64 (size : Int)) (.slice sa S.length sc) (.slice da D.length dc) ∧ RdU W sa sb so S.length S ∧ RdS W da db dO D.length D ∧ Below w.heap.size w W) := fun W hW => by
    obtain ⟨z1, z2, z3, z4⟩ := HX.out W (bnext hb3 hW)
    exact ⟨y3.next hW, hKp3.next hW, own_next oD (bnext t3 hW) (Nat.le_refl _), z1, z2, z3, z4⟩
  have HQ1 : Hid (w.heap.size ≤ w1.heap.size ∧ D.length + 2 ≤ cd) := ⟨(HX.out w1 hb1).2.2.2.size, hcd⟩
  generalize w2.heap.size = q3 at *
  have hbr := Below.refl w3.heap.size w3
  obtain ⟨e0, e1, e2, e3, e4, e5⟩ := (HS3.out w3 hbr).1.cells
  clear hw3 y3 t3 hb3 hKp3 oS oD hcs hcd hb2 hb1 HX HLe p0 p1 p2 p3 p4 p5
  go_upto_region 5 with (go_at_call 13; with_reducible refine (HR1.out _ _ _ _ gd 0 _ (HT.out _ (HS3.out _ hbr).2.2.2.2.2.2).1 (HS3.out _ hbr).2.1.rds (by have := HQ1.out.2; omega)).mono ?_; rintro e w4 ⟨rfl, hb4⟩)
  have t5 := bal (bal hb4 (.cells #[.int .u64 (n1 : Int), .string d1] 37)) (.cells #[.int .u64 (n2 : Int), .string d2] 37)
  have y1 := (rh_new w4 n1 d1).next (bal (Below.refl _ _) (.cells #[.int .u64 (n2 : Int), .string d2] 37))
  have y2 := rh_new (w4.alloc (.cells #[.int .u64 (n1 : Int), .string d1] 37)) n2 d2
  rw [World.size_alloc] at y2
  obtain ⟨w5, hw5⟩ : ∃ w5, (w4.alloc (.cells #[.int .u64 (n1 : Int), .string d1] 37)).alloc (.cells #[.int .u64 (n2 : Int), .string d2] 37) = w5 := ⟨_, rfl⟩
  rw [hw5] at y1 y2 t5 ⊢
  obtain ⟨p0, p1, p2, p3, p4, p5⟩ := (HS3.out w5 t5).2.2.2.1.cells
  have hq44 := hb4
  have hq45 := y2.lt
  clear hw5 hb4 e0 e1 e2 e3 e4 e5
  go_upto_region 6 with (go_at_call 25; with_reducible refine (HR2.out _ _ _ _ db dO _ (HT.out _ (HS3.out _ t5).2.2.2.2.2.2).2 (HS3.out _ t5).2.2.2.2.2.1 HQ.out.2.2.1).mono ?_; rintro e w6 ⟨rfl, hb6⟩)
  have t7' := bal (bal hb6 (.cells #[.int .u64 (n1 : Int), .string d1] 37)) (.cells #[.int .u64 (n2 : Int), .string d2] 37)
  have y3 := (rh_new w6 n1 d1).next (bal (Below.refl _ _) (.cells #[.int .u64 (n2 : Int), .string d2] 37))
  have y4 := rh_new (w6.alloc (.cells #[.int .u64 (n1 : Int), .string d1] 37)) n2 d2
  rw [World.size_alloc] at y4
  obtain ⟨w7, hw7⟩ : ∃ w7, (w6.alloc (.cells #[.int .u64 (n1 : Int), .string d1] 37)).alloc (.cells #[.int .u64 (n2 : Int), .string d2] 37) = w7 := ⟨_, rfl⟩
  rw [hw7] at y3 y4 t7' ⊢
  have t7 := bnext t5 t7'
  have y1 := y1.next t7'
  have y2 := y2.next t7'
  have HQ4 : Hid (w.heap.size ≤ w4.heap.size ∧ w.heap.size ≤ w6.heap.size ∧ w4.heap.size + 1 < w6.heap.size) := ⟨(HS3.out w4 hq44).2.2.2.2.2.2.size, (HS3.out w6 (bnext t5 hb6)).2.2.2.2.2.2.size, Nat.lt_of_lt_of_le hq45 hb6.size⟩
  generalize w4.heap.size = q4 at *
  generalize w6.heap.size = q6 at *
  obtain ⟨p0, p1, p2, p3, p4, p5⟩ := (HS3.out w7 t7).2.2.2.1.cells
  obtain ⟨e0, e1, e2, e3, e4, e5⟩ := (HS3.out w7 t7).1.cells
  obtain ⟨a1, a2⟩ := y1.cells
  obtain ⟨a3, a4⟩ := y2.cells
  obtain ⟨a5, a6⟩ := y3.cells
  obtain ⟨a7, a8⟩ := y4.cells
  have hS7 := HS3.out w7 t7
  have HO7 : Hid (∀ W, Below w7.heap.size w7 W → Ov w W w1.heap.size q3 q4 q6 kd k old size (.slice (some ⟨gs, 0, none⟩) S.length cs) gd cd D D.length) := fun W hW => by
    obtain ⟨z1, z2, z3, z4, z5, z6, z7⟩ := HS3.out W (bnext t7 hW)
    exact ⟨z1, z3, rfl, HQ.out.2.2.2, ⟨n1, d1, n2, d2, n1, d1, n2, d2, y1.next hW, y2.next hW, y3.next hW, y4.next hW⟩, z7, HQ1.out.1⟩
  clear hw7 hb6 t5 t7' t7 y1 y2 y3 y4 HR1 HR2 hq44 hq45
  go_upto_region 8 with (first
    | (go_at_call 16; with_reducible refine (num_id _ _).mono ?_; rintro e wn ⟨rfl, rfl⟩)
    | (go_at_call 26; with_reducible refine (HKp.out _ _ _ _ _ hS7.2.1 hS7.2.2.2.2.1 hS7.2.2.2.2.2.1).mono ?_; rintro e w8 ⟨rfl, hb8⟩))
  have hO8 := HO7.out w8 hb8
  have HO8 := hide hO8
  clear hO8 hb8 HO7 hS7 HS3 HKp a1 a2 a3 a4 a5 a6 a7 a8 p0 p1 p2 p3 p4 p5 e0 e1 e2 e3 e4 e5 hbr hbW
  generalize w1.heap.size = B at *
  go_wp2
  go_loopg [10] D.length (fun gg i wr => ∃ (j : Nat) (E : List ByteArray), j ≤ D.length ∧ gg = D.length - j ∧ i = .int .i64 (j : Int) ∧ Hid (Ov w wr B q3 q4 q6 kd k old size (.slice (some ⟨gs, 0, none⟩) S.length cs) gd cd E D.length))
  case atStart =>
    go_light
    exact ⟨0, D, Nat.zero_le _, rfl, rfl, HO8⟩
  case round =>
    clear HO8
    obtain ⟨j, E, hj, rfl, rfl, HI⟩ := hrel
    obtain ⟨_, _, _, _, e4, e5⟩ := HI.out.six.cells
    by_cases hlt : j < D.length
    · obtain ⟨wo, hwo⟩ : ∃ wo, wo = wr := ⟨_, rfl⟩
      subst hwo
      have hz : (j : Int) < (D.length : Int) := by omega
      have hz0 : (0 : Int) ≤ (j : Int) := Int.natCast_nonneg _
      have hrd := HI.out.rds
      have cz := hrd.at hlt
      obtain ⟨z, hzz⟩ : ∃ z, E.getD j ByteArray.empty = z := ⟨_, rfl⟩
      rw [hzz, Nat.zero_add] at cz
      have hzs : z.size ≤ 9223372036854775807 := by rw [← hzz]; exact HI.out.sz _ (getD_mem (by rw [HI.out.len]; exact hlt))
      have kb := fun W => run_bytes_of_string (P := Tryd.prog) W 9 51 5 z Tryd.underlying9 Tryd.underlying51 Tryd.underlying5
      have HZ := hide hzs
      clear hrd hzz hzs
      go_upto_region 12 with (fail)
      have hby2 : Byt (wo.alloc (.cells (bytesRow z (grownCap wo z.size 0 5)) 5 ((bytesRow z (grownCap wo z.size 0 5)).size, (bytesRow z (grownCap wo z.size 0 5)).size + 1))).drew wo.heap.size z.data.toList := by
        have := byt_new wo z (grownCap wo z.size 0 5) 5
        exact ⟨this.rng, this.thr⟩
      have hb12 : Below wo.heap.size wo (wo.alloc (.cells (bytesRow z (grownCap wo z.size 0 5)) 5 ((bytesRow z (grownCap wo z.size 0 5)).size, (bytesRow z (grownCap wo z.size 0 5)).size + 1))).drew := (bal (Below.refl _ _) _).drew
      generalize (wo.alloc (.cells (bytesRow z (grownCap wo z.size 0 5)) 5 ((bytesRow z (grownCap wo z.size 0 5)).size, (bytesRow z (grownCap wo z.size 0 5)).size + 1))).drew = w12 at *
      generalize grownCap wo z.size 0 5 = capB
      have HBy := hide (And.intro hby2 hb12)
      obtain ⟨bb, hbb⟩ : ∃ bb : Nat, (j + 1) % 256 = bb := ⟨_, rfl⟩
      have hbl : bb < 256 := by omega
      have ej : IntKind.i64.wrap ((j : Int) + 1) = (j : Int) + 1 := by rw [IntKind.wrap_i64]; omega
      have eu : IntKind.u8.wrap ((j : Int) + 1) = (bb : Int) := by rw [IntKind.wrap_u8]; omega
      have hzl : z.data.toList.length = z.size := by rw [Array.length_toList]; rfl
      have HL := hide hzl
      clear hby2 hb12 kb e4 e5 cz hzl hbb
      go_wp2
      go_loopg [12] z.size (fun gg i wx => ∃ (t : Nat) (l : List UInt8), t ≤ z.size ∧ gg = z.size - t ∧ i = .int .i64 (t : Int) ∧ Hid (l.length = z.size ∧ Byt wx wo.heap.size l ∧ Below wo.heap.size wo wx))
      case atStart =>
        go_light
        exact ⟨0, z.data.toList, Nat.zero_le _, rfl, rfl, HL.out, HBy.out.1, HBy.out.2⟩
      case round =>
        clear HBy HL
        obtain ⟨t, l, ht, rfl, rfl, HJ⟩ := hrel
        by_cases htl : t < z.size
        · have hzt : (t : Int) < (z.size : Int) := by omega
          have ht0 : (0 : Int) ≤ (t : Int) := Int.natCast_nonneg _
          have ca := HJ.out.2.1.at (j := t) (by rw [HJ.out.1]; exact htl)
          have fa := HJ.out.2.1.free (j := t) (by rw [HJ.out.1]; exact htl)
          obtain ⟨av, hav⟩ : ∃ av, (l.getD t 0).toNat = av := ⟨_, rfl⟩
          have hav256 : av < 256 := by rw [← hav]; exact UInt8.toNat_lt _
          rw [hav] at ca
          have hxr := u8_xor_nat av bb hav256 hbl
          have hx256 : av ^^^ bb < 256 := Nat.xor_lt_two_pow (n := 8) hav256 hbl
          obtain ⟨xv, hxv⟩ : ∃ xv, av ^^^ bb = xv := ⟨_, rfl⟩
          rw [hxv] at hxr hx256
          have hby3 := HJ.out.2.1.set t (UInt8.ofNat xv) (xv : Int) (by rw [UInt8.toNat_ofNat', Nat.mod_eq_of_lt (by simpa using hx256)])
          have HY : Hid ((l.set t (UInt8.ofNat xv)).length = z.size ∧ Byt (wr.setCell ⟨wo.heap.size, t, none⟩ (.int .u8 (xv : Int))) wo.heap.size (l.set t (UInt8.ofNat xv)) ∧ Below wo.heap.size wo (wr.setCell ⟨wo.heap.size, t, none⟩ (.int .u8 (xv : Int)))) := ⟨by rw [List.length_set]; exact HJ.out.1, hby3, HJ.out.2.2.trans (((ChT.refl (fun b => b = wo.heap.size) wr).set wo.heap.size t (.int .u8 (xv : Int)) rfl).below (by rintro b rfl; exact Nat.le_refl _))⟩
          have hzb := HZ.out
          have et : IntKind.i64.wrap ((t : Int) + 1) = (t : Int) + 1 := by rw [IntKind.wrap_i64]; omega
          clear hav hxv hby3 HJ hx256 hav256 hzb
          go_wp2
          go_roundg (z.size - (t + 1))
          case rel =>
            go_light
            exact ⟨t + 1, _, by omega, rfl, by go_num, HY.out⟩
          case measure => go_light; omega
        · obtain rfl : t = z.size := by omega
          have hzt : ¬ ((z.size : Int) < (z.size : Int)) := by omega
          have hOv := HI.out.next HJ.out.2.2
          obtain ⟨_, _, _, _, _, e5⟩ := hOv.six.cells
          have hj2 : j < (E ++ [roomB, moreB]).length := by rw [List.length_append, hOv.len]; omega
          have cd0 := (own_cell hOv.own hj2).1
          have fd0 := (own_cell hOv.own hj2).2
          have kc := conv_any wr wo.heap.size capB l z.size HJ.out.1 HJ.out.2.1
          obtain ⟨z2, hz2⟩ : ∃ z2, (⟨l.toArray⟩ : ByteArray) = z2 := ⟨_, rfl⟩
          have hz2s : z2.size ≤ 9223372036854775807 := by rw [← hz2]; show l.toArray.size ≤ _; rw [List.size_toArray, HJ.out.1]; exact HZ.out
          rw [hz2] at kc
          have HY := hide (hOv.set hlt z2 hz2s)
          clear hOv hj2 hz2 hz2s HJ HI ht htl
          go_wp2
          go_roundg (D.length - (j + 1))
          case rel =>
            go_light
            exact ⟨j + 1, _, by omega, rfl, by go_num, HY⟩
          case measure => go_light; omega
    · obtain rfl : j = D.length := by omega
      have hz : ¬ ((D.length : Int) < (D.length : Int)) := by omega
      obtain ⟨m1, f1, m2, f2, er2, hA, hB⟩ := kboth kd k old size S.length E (by rw [HI.out.len]; have := HQ.out.2.1; omega)
      rw [HI.out.len] at hA hB
      have HA := hide hA
      have HB := hide hB
      obtain ⟨e0, e1, e2, e3, e4, e5⟩ := HI.out.six.cells
      clear hA hB hlt
      unfold vP at HA HB
      go_upto_region 18 with (go_at_call 13; with_reducible refine (HA.out _ _ _ _ gd 0 _ (HT.out _ HI.out.be).1 HI.out.rds (by have := HQ1.out.2; omega)).mono ?_; rintro e w9 ⟨rfl, hb9⟩; obtain ⟨m3, f3, m4, f4, m5, f5, m6, f6, x1, x2, x3, x4⟩ := (HI.out.next hb9).rh; obtain ⟨g0, g1⟩ := x1.cells; have fz1 := x1.fz; have hK := putR_ch w9 q4 m1 f1; unfold putR at hK; have hq12 : q4 + 1 ≠ q4 := (by omega); have x2' := x2.same (hK.block (q4 + 1) hq12); obtain ⟨g2, g3⟩ := x2'.cells; have fz2 := x2'.fz)
      have hO9 := HI.out.next hb9
      obtain ⟨w10, hw10⟩ : ∃ w10, putR (putR w9 q4 m1 f1) (q4 + 1) m2 f2 = w10 := ⟨_, rfl⟩
      have hc1 := putR_ch w9 q4 m1 f1
      have hc2 := putR_ch (putR w9 q4 m1 f1) (q4 + 1) m2 f2
      have bb : ∀ b, b ≠ q4 → b ≠ q4 + 1 → w10.heap[b]? = w9.heap[b]? := fun b h1 h2 => by rw [← hw10]; exact (hc2.block b h2).trans (hc1.block b h1)
      have h10a : Rh w10 q4 m1 f1 := by rw [← hw10]; exact (x1.put m1 f1).same (hc2.block q4 (by show ¬ _ = _; omega))
      have h10b : Rh w10 (q4 + 1) m2 f2 := by rw [← hw10]; exact (x2.same (hc1.block (q4 + 1) hq12)).put m2 f2
      have h10s := hO9.six.same (bb q3 (six_rh hO9.six x1) (six_rh hO9.six x2))
      have hlo := HQ4.out
      have ngd : gd ≠ q4 ∧ gd ≠ q4 + 1 := ⟨fun e => own_ty hO9.own (q := q4) x1 (by decide) gd rfl e, fun e => own_ty hO9.own (q := q4 + 1) x2 (by decide) gd rfl e⟩
      have h10r := hO9.rds.same (bb gd ngd.1 ngd.2)
      have hbe : Below w.heap.size w w10 := by rw [← hw10]; exact (hO9.be.trans (hc1.below (by rintro b rfl; omega))).trans (hc2.below (by rintro b rfl; omega))
      have h10c := x3.same (bb q6 (by omega) (by omega))
      have h10d := x4.same (bb (q6 + 1) (by omega) (by omega))
      unfold putR at hw10
      rw [hw10]
      clear hO9 hc1 hc2 bb x1 x2 x3 x4 x2' hK hb9 HI g0 g1 g2 g3 fz1 fz2 e0 e1 e2 e3 e4 e5 hw10 ngd
      obtain ⟨e0, e1, e2, e3, e4, e5⟩ := h10s.cells
      go_upto_region 19 with (go_at_call 25; with_reducible refine (HB.out _ _ _ _ gd 0 _ (HT.out _ hbe).2 h10r (by have := HQ1.out.2; omega)).mono ?_; rintro e w11 ⟨rfl, hb11⟩; have x3 := h10c.next hb11; have x4 := h10d.next hb11; obtain ⟨g0, g1⟩ := x3.cells; have fz1 := x3.fz; have hK := putR_ch w11 q6 m1 f1; unfold putR at hK; have hq62 : q6 + 1 ≠ q6 := (by omega); have x4' := x4.same (hK.block (q6 + 1) hq62); obtain ⟨g2, g3⟩ := x4'.cells; have fz2 := x4'.fz)
      obtain ⟨w12, hw12⟩ : ∃ w12, putR (putR w11 q6 m1 f1) (q6 + 1) m2 f2 = w12 := ⟨_, rfl⟩
      have hc1 := putR_ch w11 q6 m1 f1
      have hc2 := putR_ch (putR w11 q6 m1 f1) (q6 + 1) m2 f2
      have bb : ∀ b, b ≠ q6 → b ≠ q6 + 1 → w12.heap[b]? = w11.heap[b]? := fun b h1 h2 => by rw [← hw12]; exact (hc2.block b h2).trans (hc1.block b h1)
      have z3 : Rh w12 q6 m1 f1 := by rw [← hw12]; exact (x3.put m1 f1).same (hc2.block q6 (by show ¬ _ = _; omega))
      have z4 : Rh w12 (q6 + 1) m2 f2 := by rw [← hw12]; exact (x4.same (hc1.block (q6 + 1) hq62)).put m2 f2
      have z1 := (h10a.next hb11).same (bb q4 (by omega) (by omega))
      have z2 := (h10b.next hb11).same (bb (q4 + 1) (by omega) (by omega))
      have hbe2 : Below w.heap.size w w12 := by rw [← hw12]; exact ((bnext hbe hb11).trans (hc1.below (by rintro b rfl; omega))).trans (hc2.below (by rintro b rfl; omega))
      unfold putR at hw12
      rw [hw12]
      obtain ⟨a1, a2⟩ := z1.cells
      obtain ⟨a3, a4⟩ := z2.cells
      obtain ⟨a5, a6⟩ := z3.cells
      obtain ⟨a7, a8⟩ := z4.cells
      clear z1 z2 z3 z4 hc1 hc2 bb x3 x4 x4' hK hw12 h10a h10b h10c h10d h10r h10s hbe hb11 g0 g1 g2 g3 fz1 fz2 e0 e1 e2 e3 e4 e5 HB
      go_wp2_with (go_at_call 16; with_reducible refine (num_id _ _).mono ?_; rintro e wn ⟨rfl, rfl⟩)
      go_ret
      exact ⟨rfl, hbe2⟩
end Go.Proofs.YtdkcliblbaldhaaDoor
