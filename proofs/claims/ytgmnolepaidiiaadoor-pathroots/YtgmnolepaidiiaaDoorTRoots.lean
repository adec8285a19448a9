/-
  PathRoots: both Roots of a proof by hand, of one lent, of one turned round. Own work.
-/
import Derived.Test.YtgmnolepaidiiaaDoorTRoot
import Derived.Test.YtgmnolepaidiiaaDoorTRefS
import Derived.Test.YtgmnolepaidiiaaDoorTLent
import Derived.Test.YtgmnolepaidiiaaDoorTComp
namespace Go.Proofs.YtgmnolepaidiiaaDoor
open Go.RowKit
open Cv (cU)
attribute [local go_sem ↓] Go.wp_at_zero Go.wp_at_succ
theorem getD_last (l : List ByteArray) (x : ByteArray) : (l ++ [x]).getD l.length ByteArray.empty = x := by rw [List.getD_eq_getElem?_getD, List.getElem?_append_right (Nat.le_refl _), Nat.sub_self]; rfl
theorem own_apart {w : World} {B B' gs gd n n' c c' : Nat} {l : List Nat} {l' : List ByteArray} (o1 : Cv.Own w B (.slice (some ⟨gs, 0, none⟩) n c) l) (o2 : OwnS w B' (.slice (some ⟨gd, 0, none⟩) n' c') l') : gs ≠ gd := by
  rintro rfl
  obtain ⟨_, h⟩ := o1
  obtain ⟨_, h'⟩ := o2
  rcases h with ⟨h, _⟩ | ⟨_, _, _, h, _, hh, _⟩
  · cases h
  rcases h' with ⟨h', _⟩ | ⟨_, _, _, h', _, hh', _⟩
  · cases h'
  cases (Value.slice.inj h).1
  cases (Value.slice.inj h').1
  rw [hh] at hh'
  injection hh' with hh'
  injection hh' with _ e2 _
  exact absurd e2 (by decide)
theorem own_rdu {w : World} {B g n c : Nat} {l l' : List Nat} (o : Cv.Own w B (.slice (some ⟨g, 0, none⟩) n c) (l ++ l')) : RdU w (some ⟨g, 0, none⟩) g 0 l.length l :=
  ⟨rfl, fun _ => rfl, fun t v hv => by
    have := o.cells (g := g) rfl t v (by rw [show cU (l ++ l') = cU l ++ cU l' from List.map_append, List.getElem?_append_left (by have := (List.getElem?_eq_some_iff.1 hv).1; simpa using this)]; exact hv)
    rwa [Addr.add_mid] at this⟩
theorem own_rds {w : World} {B g n c : Nat} {l l' : List ByteArray} (o : OwnS w B (.slice (some ⟨g, 0, none⟩) n c) (l ++ l')) (hs : ∀ s ∈ l, s.size ≤ 9223372036854775807) : RdS w (some ⟨g, 0, none⟩) g 0 l.length l :=
  ⟨rfl, fun _ => rfl, fun t v hv => by
    have := o.cells (g := g) rfl t v (by rw [List.map_append, List.getElem?_append_left (by rw [List.length_map]; have := (List.getElem?_eq_some_iff.1 hv).1; simpa using this)]; exact hv)
    rwa [Addr.add_mid] at this, hs⟩
theorem own_cellU {w : World} {B g n c : Nat} {l : List Nat} (o : Cv.Own w B (.slice (some ⟨g, 0, none⟩) n c) (l ++ [7000000])) : w.cell? ⟨g, l.length, none⟩ = some (.int .u64 7000000) := by
  have := o.cells (g := g) rfl l.length (.int .u64 7000000) (by rw [show cU (l ++ [7000000]) = cU l ++ [.int .u64 7000000] from List.map_append, List.getElem?_append_right (by simp), show l.length - (cU l).length = 0 by simp]; rfl)
  rwa [Addr.add_mid, Nat.zero_add] at this
theorem RdU.same {w W : World} {ao : Option Addr} {b off len : Nat} {l : List Nat} (h : RdU w ao b off len l) (hb : W.heap[b]? = w.heap[b]?) : RdU W ao b off len l :=
  ⟨h.hl, h.ptr, fun j v hv => (World.cell?_of_block hb).trans (h.rng j v hv)⟩
theorem RdS.same {w W : World} {ao : Option Addr} {b off len : Nat} {l : List ByteArray} (h : RdS w ao b off len l) (hb : W.heap[b]? = w.heap[b]?) : RdS W ao b off len l :=
  ⟨h.hl, h.ptr, fun j v hv => (World.cell?_of_block hb).trans (h.rng j v hv), h.sz⟩
set_option maxRecDepth 100000 in
set_option maxHeartbeats 4000000 in
theorem roots_walk (w : World) (ht : Tb w) (hr : Tr w) (kd k : Int) (old size : Nat) (sa : Option Addr) (sb so sc : Nat) (S : List Nat) (rs : RdU w sa sb so S.length S) (hns : sa = none → sc = 0) (hS : S.length ≤ 17592186043904) (da : Option Addr) (db dO dc : Nat) (D : List ByteArray) (rd : RdS w da db dO D.length D) (hnd : da = none → dc = 0) (hD : D.length ≤ 8796093021952) (x : ByteArray) :
    Calls Tryd.prog 3 #[.agg #[.int .i64 kd, .int .i64 k, .int .u64 (old : Int), .int .u64 (size : Int), .slice sa S.length sc, .slice da D.length dc], .string x] w fun e w' => e = .returned (.bool true) ∧ Below w.heap.size w w' := by
  obtain ⟨W0, hW0⟩ : ∃ W0, w.alloc (.cells #[.int .i64 kd, .int .i64 k, .int .u64 (old : Int), .int .u64 (size : Int), .slice sa S.length sc, .slice da D.length dc] 26) = W0 := ⟨_, rfl⟩
  have hb0 : Below w.heap.size w W0 := by rw [← hW0]; exact bal (Below.refl _ _) _
  have h60 : Six W0 w.heap.size (.int .i64 kd) (.int .i64 k) (.int .u64 (old : Int)) (.int .u64 (size : Int)) (.slice sa S.length sc) (.slice da D.length dc) := by rw [← hW0]; exact six_new w _ _ _ _ _ _
  have hs0 : W0.heap.size = w.heap.size + 1 := by rw [← hW0]; simp
  have HFx := fixed_any W0 (ht.next hb0) (hr.next hb0)
  have HP : Hid (∀ W, Below W0.heap.size W0 W → Six W w.heap.size (.int .i64 kd) (.int .i64 k) (.int .u64 (old : Int)) (.int .u64 (size : Int)) (.slice sa S.length sc) (.slice da D.length dc) ∧ Tb W ∧ Tr W ∧ RdU W sa sb so S.length S ∧ RdS W da db dO D.length D ∧ Below w.heap.size w W) := fun W hW =>
    ⟨h60.next hW, ht.next (bnext hb0 hW), hr.next (bnext hb0 hW), rs.next (bnext hb0 hW), rd.next (bnext hb0 hW) (Nat.le_refl _), bnext hb0 hW⟩
  have HLn : Hid (∀ W, Below W0.heap.size W0 W → Calls Tryd.prog 8 #[.agg #[.int .i64 kd, .int .i64 k, .int .u64 (old : Int), .int .u64 (size : Int), .slice sa S.length sc, .slice da D.length dc]] W fun e w' => ∃ gs cs gd cd, e = .returned (.agg #[.int .i64 kd, .int .i64 k, .int .u64 (old : Int), .int .u64 (size : Int), .slice (some ⟨gs, 0, none⟩) S.length cs, .slice (some ⟨gd, 0, none⟩) D.length cd]) ∧ Cv.Own w' W.heap.size (.slice (some ⟨gs, 0, none⟩) (S.length + 1) cs) (S ++ [7000000]) ∧ OwnS w' W.heap.size (.slice (some ⟨gd, 0, none⟩) (D.length + 1) cd) (D ++ [markB]) ∧ S.length + 1 ≤ cs ∧ D.length + 1 ≤ cd ∧ cd ≤ 9223372036854775807 ∧ Below W.heap.size W w') := fun W hW => by
    obtain ⟨_, _, _, y4, y5, _⟩ := HP.out W hW
    exact lent_any W kd k old size sa sb so sc S y4 hns hS da db dO dc D y5 hnd hD
  obtain ⟨n, r, er, hR1, hR2⟩ := roots_any kd k old size S D (by omega) x
  have HR1 := hide hR1
  have HR2 := hide hR2
  have HDs : Hid ((∀ s ∈ D, s.size ≤ 9223372036854775807) ∧ S.length ≤ 17592186043904 ∧ D.length ≤ 8796093021952 ∧ W0.heap.size = w.heap.size + 1) := ⟨rd.sz, hS, hD, hs0⟩
  have hSz : (S.length : Int) ≤ 17592186043904 := by omega
  have hDz : (D.length : Int) ≤ 8796093021952 := by omega
  clear ht hr rs hns hS rd hnd hD hR1 hR2 h60 hs0
  go_enter Tryd.func3, Tryd.ntmps3
  go_upto_region 1 with (fail)
  try rw [hW0]
  clear hW0
  go_upto_region 4 with (first
    | (go_at_call 7; with_reducible refine HFx.mono ?_; rintro e w1 ⟨rfl, hb1⟩; obtain ⟨e0, e1, e2, e3, e4, e5⟩ := (HP.out w1 hb1).1.cells)
    | (go_at_call 8; with_reducible refine (HLn.out _ hb1).mono ?_; rintro e w2 ⟨gs, cs, gd, cd, rfl, o1, o2, hcs, hcd, hcd63, hb2⟩))
  clear e0 e1 e2 e3 e4 e5 HFx
  obtain ⟨w3, hw3⟩ : ∃ w3, w2.alloc (.cells #[.int .i64 kd, .int .i64 k, .int .u64 (old : Int), .int .u64 (size : Int), .slice (some ⟨gs, 0, none⟩) S.length cs, .slice (some ⟨gd, 0, none⟩) D.length cd] 26) = w3 := ⟨_, rfl⟩
  have hb23 : Below w2.heap.size w2 w3 := by rw [← hw3]; exact bal (Below.refl _ _) _
  have h63 : Six w3 w2.heap.size (.int .i64 kd) (.int .i64 k) (.int .u64 (old : Int)) (.int .u64 (size : Int)) (.slice (some ⟨gs, 0, none⟩) S.length cs) (.slice (some ⟨gd, 0, none⟩) D.length cd) := by rw [← hw3]; exact six_new w2 _ _ _ _ _ _
  have hs3 : w3.heap.size = w2.heap.size + 1 := by rw [← hw3]; simp
  have hb3 := bnext hb1 (bnext hb2 hb23)
  have hgs := o1.lt gs rfl
  have hgd := o2.lt gd rfl
  have hne := own_apart o1 o2
  have HX : Hid (∀ W, Below w3.heap.size w3 W → Six W w2.heap.size (.int .i64 kd) (.int .i64 k) (.int .u64 (old : Int)) (.int .u64 (size : Int)) (.slice (some ⟨gs, 0, none⟩) S.length cs) (.slice (some ⟨gd, 0, none⟩) D.length cd) ∧ Cv.Own W w1.heap.size (.slice (some ⟨gs, 0, none⟩) (S.length + 1) cs) (S ++ [7000000]) ∧ OwnS W w1.heap.size (.slice (some ⟨gd, 0, none⟩) (D.length + 1) cd) (D ++ [markB]) ∧ Below W0.heap.size W0 W) := fun W hW =>
    ⟨h63.next hW, Cv.ownB_next (Cv.ownB_next o1 hb23) hW, own_next (own_next o2 hb23 (Nat.le_refl _)) hW (Nat.le_refl _), bnext hb3 hW⟩
  have HG : Hid (w1.heap.size ≤ gs ∧ gs < w2.heap.size ∧ w1.heap.size ≤ gd ∧ gd < w2.heap.size ∧ gs ≠ gd ∧ w3.heap.size = w2.heap.size + 1 ∧ S.length + 1 ≤ cs ∧ D.length + 1 ≤ cd ∧ cd ≤ 9223372036854775807 ∧ W0.heap.size ≤ w1.heap.size) := ⟨hgs.1, hgs.2, hgd.1, hgd.2, hne, hs3, hcs, hcd, hcd63, hb1.size⟩
  have HRx : Hid (∀ W, Below w3.heap.size w3 W → Calls Tryd.prog 9 #[.agg #[.int .i64 kd, .int .i64 k, .int .u64 (old : Int), .int .u64 (size : Int), .slice (some ⟨gs, 0, none⟩) S.length cs, .slice (some ⟨gd, 0, none⟩) D.length cd], .string x] W fun e w' => e = .returned (.tuple #[.agg #[.int .u64 (n : Int), .string r], .int .i64 er]) ∧ Below W.heap.size W w') := fun W hW => by
    obtain ⟨y1, y2, y3, y4⟩ := HX.out W hW
    exact HR1.out W _ gs 0 cs _ gd 0 cd (HP.out W y4).2.1 (own_rdu y2) (own_rds y3 HDs.out.1) (by have := HG.out.2.2.2.2.2.2.2.1; omega) HG.out.2.2.2.2.2.2.2.2.1 (fun e => by cases e)
  have HRp : Hid (∀ W, Below W0.heap.size W0 W → Calls Tryd.prog 10 #[.agg #[.int .i64 kd, .int .i64 k, .int .u64 (old : Int), .int .u64 (size : Int), .slice sa S.length sc, .slice da D.length dc], .string x] W fun e w' => e = .returned (.tuple #[.agg #[.int .u64 (n : Int), .string r], .int .i64 er]) ∧ Below W.heap.size W w') := fun W hW => by
    obtain ⟨_, _, y3, y4, y5, _⟩ := HP.out W hW
    exact HR2.out W sa sb so sc da db dO dc y3 y4 y5
  have HSm : Hid (∀ W, Below w3.heap.size w3 W → Calls Tryd.prog 11 #[.agg #[.int .i64 kd, .int .i64 k, .int .u64 (old : Int), .int .u64 (size : Int), .slice (some ⟨gs, 0, none⟩) S.length cs, .slice (some ⟨gd, 0, none⟩) D.length cd], .agg #[.int .i64 kd, .int .i64 k, .int .u64 (old : Int), .int .u64 (size : Int), .slice sa S.length sc, .slice da D.length dc]] W fun e w' => e = .returned (.bool true) ∧ Below W.heap.size W w') := fun W hW => by
    obtain ⟨_, y2, y3, y4⟩ := HX.out W hW
    obtain ⟨_, _, _, z4, z5, _⟩ := HP.out W y4
    exact refsame_yes W kd k old size _ gs 0 cs sa sb so sc S (own_rdu y2) z4 (by have := HDs.out.2.1; omega) _ gd 0 cd da db dO dc D (own_rds y3 HDs.out.1) z5 (by have := HDs.out.2.2.1; omega)
  rw [hw3]
  generalize w2.heap.size = q5 at *
  clear hw3 hb23 hs3 hb3 hgs hgd hne o1 o2 hcs hcd hcd63 hb2 HR1 HR2
  obtain ⟨e0, e1, e2, e3, e4, e5⟩ := h63.cells
  clear h63
  have hb3r := Below.refl w3.heap.size w3
  go_upto_region 5 with (go_at_call 9; with_reducible refine (HRx.out _ hb3r).mono ?_; rintro e w4 ⟨rfl, hb4⟩)
  clear e0 e1 e2 e3 e4 e5 hb3r
  obtain ⟨w5, hw5⟩ : ∃ w5, w4.alloc (.cells #[.int .u64 (n : Int), .string r] 30) = w5 := ⟨_, rfl⟩
  have hb45 : Below w4.heap.size w4 w5 := by rw [← hw5]; exact bal (Below.refl _ _) _
  have hR5 : Rw w5 w4.heap.size n r := by rw [← hw5]; exact rw_new w4 n r
  have hs5 : w5.heap.size = w4.heap.size + 1 := by rw [← hw5]; simp
  have hb5 := bnext hb4 hb45
  have hq6 := hb4.size
  rw [hw5]
  generalize w4.heap.size = q6 at *
  clear hw5 hb45 hb4
  obtain ⟨e0, e1, e2, e3, e4, e5⟩ := (HP.out w5 (HX.out w5 hb5).2.2.2).1.cells
  have hb05 := (HX.out w5 hb5).2.2.2
  go_upto_region 6 with (go_at_call 10; with_reducible refine (HRp.out _ hb05).mono ?_; rintro e w6 ⟨rfl, hb6⟩)
  clear e0 e1 e2 e3 e4 e5 hb05
  obtain ⟨w7, hw7⟩ : ∃ w7, w6.alloc (.cells #[.int .u64 (n : Int), .string r] 30) = w7 := ⟨_, rfl⟩
  have hb67 : Below w6.heap.size w6 w7 := by rw [← hw7]; exact bal (Below.refl _ _) _
  have hR7 : Rw w7 w6.heap.size n r := by rw [← hw7]; exact rw_new w6 n r
  have hs7 : w7.heap.size = w6.heap.size + 1 := by rw [← hw7]; simp
  have hb57 := bnext hb6 hb67
  have hq8 := hb6.size
  have hb7 := bnext hb5 hb57
  rw [hw7]
  generalize w6.heap.size = q8 at *
  have HRR : Hid (∀ W, Below w7.heap.size w7 W → Rw W q6 n r ∧ Rw W q8 n r ∧ Six W q5 (.int .i64 kd) (.int .i64 k) (.int .u64 (old : Int)) (.int .u64 (size : Int)) (.slice (some ⟨gs, 0, none⟩) S.length cs) (.slice (some ⟨gd, 0, none⟩) D.length cd) ∧ Six W w.heap.size (.int .i64 kd) (.int .i64 k) (.int .u64 (old : Int)) (.int .u64 (size : Int)) (.slice sa S.length sc) (.slice da D.length dc) ∧ Cv.Own W w1.heap.size (.slice (some ⟨gs, 0, none⟩) (S.length + 1) cs) (S ++ [7000000]) ∧ OwnS W w1.heap.size (.slice (some ⟨gd, 0, none⟩) (D.length + 1) cd) (D ++ [markB]) ∧ Below W0.heap.size W0 W) := fun W hW => by
    obtain ⟨y1, y2, y3, y4⟩ := HX.out W (bnext hb7 hW)
    exact ⟨hR5.below (bnext hb57 hW) (by omega), hR7.below hW (by omega), y1, (HP.out W y4).1, y2, y3, y4⟩
  have HQ : Hid (w3.heap.size ≤ q6 ∧ q6 < q8 ∧ q8 < w7.heap.size) := ⟨hq6, by omega, by omega⟩
  have HSm7 := hide (HSm.out w7 hb7)
  have hb7r := Below.refl w7.heap.size w7
  clear hw7 hb67 hb6 hb57 hq6 hq8 hs5 hs7 hR5 hR7 hb5 HRx HRp HSm hb7
  obtain ⟨y1, y2, y3, y4, y5, y6, y7⟩ := HRR.out w7 hb7r
  obtain ⟨e0, e1, e2, e3, e4, e5⟩ := y3.cells
  obtain ⟨f0, f1, f2, f3, f4, f5⟩ := y4.cells
  have a0 := y1.rt.c0
  have a1 := y1.rt.c1
  have b0 := y2.rt.c0
  have b1 := y2.rt.c1
  clear y1 y2 y3 y4 y5 y6 y7
  have es : IntKind.i64.wrap ((S.length : Int) + 1) = ((S.length + 1 : Nat) : Int) := by rw [IntKind.wrap_i64]; omega
  have ed : IntKind.i64.wrap ((D.length : Int) + 1) = ((D.length + 1 : Nat) : Int) := by rw [IntKind.wrap_i64]; omega
  have hcs1 : ((S.length + 1 : Nat) : Int) ≤ (cs : Int) := by have := HG.out.2.2.2.2.2.2.1; omega
  have hcd1 : ((D.length + 1 : Nat) : Int) ≤ (cd : Int) := by have := HG.out.2.2.2.2.2.2.2.1; omega
  have hsl : (S.length : Int) < ((S.length + 1 : Nat) : Int) := by omega
  have hdl : (D.length : Int) < ((D.length + 1 : Nat) : Int) := by omega
  go_upto_region 10 with (go_at_call 11; with_reducible refine HSm7.out.mono ?_; rintro e w8 ⟨rfl, hb8⟩; obtain ⟨z1, z2, z3, z4, z5, z6, z7⟩ := HRR.out w8 hb8; obtain ⟨g0, g1, g2, g3, g4, g5⟩ := z3.cells; have cm := own_cellU z5; have cn := (own_cell z6 (j := D.length) (by simp)).1; rw [getD_last] at cn)
  clear a0 a1 b0 b1 e0 e1 e2 e3 e4 e5 f0 f1 f2 f3 f4 f5 g0 g1 g2 g3 g4 g5 cm cn es ed hcs1 hcd1 hsl hdl HSm7
  obtain ⟨f0, f1, f2, f3, f4, f5⟩ := z4.cells
  clear z1 z2 z3 z4 z5 z6
  go_upto_region 11 with (go_at_call 8; with_reducible refine (HLn.out _ z7).mono ?_; rintro e w9 ⟨gs2, cs2, gd2, cd2, rfl, o3, o4, hcs2, hcd2, hcd263, hb9⟩)
  obtain ⟨w10, hw10⟩ : ∃ w10, w9.alloc (.cells #[.int .i64 kd, .int .i64 k, .int .u64 (old : Int), .int .u64 (size : Int), .slice (some ⟨gs2, 0, none⟩) S.length cs2, .slice (some ⟨gd2, 0, none⟩) D.length cd2] 26) = w10 := ⟨_, rfl⟩
  have hb910 : Below w9.heap.size w9 w10 := by rw [← hw10]; exact bal (Below.refl _ _) _
  have h610 : Six w10 w9.heap.size (.int .i64 kd) (.int .i64 k) (.int .u64 (old : Int)) (.int .u64 (size : Int)) (.slice (some ⟨gs2, 0, none⟩) S.length cs2) (.slice (some ⟨gd2, 0, none⟩) D.length cd2) := by rw [← hw10]; exact six_new w9 _ _ _ _ _ _
  have hs10 : w10.heap.size = w9.heap.size + 1 := by rw [← hw10]; simp
  have hb810 := bnext hb9 hb910
  have hb10 := bnext hb8 hb810
  have hgs2 := o3.lt gs2 rfl
  have hgd2 := o4.lt gd2 rfl
  have hne2 := own_apart o3 o4
  have o3' := Cv.ownB_next o3 hb910
  have o4' := own_next o4 hb910 (Nat.le_refl _)
  rw [hw10]
  generalize w9.heap.size = q12 at *
  obtain ⟨u1, u2, u3, u4, u5, u6, u7⟩ := HRR.out w10 hb10
  have hsz8 := hb8.size
  obtain ⟨v1, v2, v3, v4, v5, v6, v7, v8, v9, v10⟩ := HG.out
  obtain ⟨t1, t2, t3⟩ := HQ.out
  have hb7s : w3.heap.size ≤ w7.heap.size := by omega
  have HL : Hid (∀ W, ChT (fun b => b = gd ∨ b = gd2) w10 W → Six W q5 (.int .i64 kd) (.int .i64 k) (.int .u64 (old : Int)) (.int .u64 (size : Int)) (.slice (some ⟨gs, 0, none⟩) S.length cs) (.slice (some ⟨gd, 0, none⟩) D.length cd) ∧ Six W q12 (.int .i64 kd) (.int .i64 k) (.int .u64 (old : Int)) (.int .u64 (size : Int)) (.slice (some ⟨gs2, 0, none⟩) S.length cs2) (.slice (some ⟨gd2, 0, none⟩) D.length cd2) ∧ RdU W (some ⟨gs, 0, none⟩) gs 0 S.length S ∧ RdU W (some ⟨gs2, 0, none⟩) gs2 0 S.length S ∧ Rw W q6 n r ∧ Rw W q8 n r ∧ Below W0.heap.size W0 W) := fun W hC => by
    refine ⟨u3.same (hC.block q5 (by rintro (e | e) <;> omega)), h610.same (hC.block q12 (by rintro (e | e) <;> omega)), own_rdu (keep_row u5 fun g hg _ => ?_), own_rdu (keep_row o3' fun g hg _ => ?_), (hC.block q6 (by rintro (e | e) <;> omega)).trans u1, (hC.block q8 (by rintro (e | e) <;> omega)).trans u2, u7.trans (hC.below (by rintro b (rfl | rfl) <;> omega))⟩
    · obtain rfl : gs = g := Option.some.inj hg
      exact hC.block gs (by rintro (e | e) <;> omega)
    · obtain rfl : gs2 = g := Option.some.inj hg
      exact hC.block gs2 (by rintro (e | e) <;> omega)
  have HO : Hid (OwnS w10 w1.heap.size (.slice (some ⟨gd, 0, none⟩) (D.length + 1) cd) (D ++ [markB]) ∧ OwnS w10 w8.heap.size (.slice (some ⟨gd2, 0, none⟩) (D.length + 1) cd2) (D ++ [markB]) ∧ gd ≠ gd2 ∧ D.length + 1 ≤ cd2 ∧ cd2 ≤ 9223372036854775807 ∧ q6 < w10.heap.size ∧ q8 < w10.heap.size ∧ q6 ≠ q8 ∧ q12 < w10.heap.size ∧ q6 ≠ q12 ∧ W0.heap.size ≤ q6 ∧ W0.heap.size ≤ q8 ∧ q12 ≠ q8 ∧ q6 ≠ gd2 ∧ q6 ≠ gs2) := ⟨u6, o4', by omega, hcd2, hcd263, by omega, by omega, by omega, by omega, by omega, by have := hb1.size; omega, by have := hb1.size; omega, by omega, by omega, by omega⟩
  clear hw10 hb910 h610 hs10 hb810 hb10 hgs2 hgd2 hne2 o3 o4 o3' o4' u1 u2 u3 u4 u5 u6 u7 hsz8 v1 v2 v3 v4 v5 v6 v7 v8 v9 v10 t1 t2 t3 hb7s hb9 hb8 z7 hcs2 hcd2 hcd263 f0 f1 f2 f3 f4 f5 HRR HX HLn hb7r
  go_wp2
  go_loopg [13] D.length (fun gh jj wx => ∃ j : Nat, j ≤ D.length ∧ gh = D.length - j ∧ jj = .int .i64 (j : Int) ∧ Hid (OwnS wx w1.heap.size (.slice (some ⟨gd, 0, none⟩) (D.length + 1) cd) ((D.reverse.take j ++ D.drop j) ++ [markB]) ∧ OwnS wx w8.heap.size (.slice (some ⟨gd2, 0, none⟩) (D.length + 1) cd2) ((D.reverse.take j ++ D.drop j) ++ [markB])) ∧ ChT (fun b => b = gd ∨ b = gd2) w10 wx)
  case atStart =>
    go_light
    exact ⟨0, Nat.zero_le _, rfl, rfl, ⟨by rw [List.take_zero, List.drop_zero]; exact HO.out.1, by rw [List.take_zero, List.drop_zero]; exact HO.out.2.1⟩, ChT.refl _ _⟩
  case round =>
    obtain ⟨j, hj, rfl, rfl, HI, hC⟩ := hrel
    by_cases hlt : j < D.length
    · have hz : (j : Int) < (D.length : Int) := by omega
      have hz0 : (0 : Int) ≤ (j : Int) := Int.natCast_nonneg _
      obtain ⟨x1, x2, x3, x4, x5, x6, x7⟩ := HL.out wr hC
      obtain ⟨y1, y2, y3, y4, y5, y6⟩ := HP.out wr x7
      obtain rfl := y5.ptr (by omega)
      obtain ⟨m1, hm1⟩ : ∃ m1, D.length - 1 = m1 := ⟨_, rfl⟩
      obtain ⟨m2, hm2⟩ : ∃ m2, m1 - j = m2 := ⟨_, rfl⟩
      have g1 : IntKind.i64.wrap ((D.length : Int) - 1) = (m1 : Int) := by rw [IntKind.wrap_i64]; omega
      have g2 : IntKind.i64.wrap ((m1 : Int) - (j : Int)) = (m2 : Int) := by rw [IntKind.wrap_i64]; omega
      have hm20 : (0 : Int) ≤ (m2 : Int) := Int.natCast_nonneg _
      have hm2z : (m2 : Int) < (D.length : Int) := by omega
      have hm2n : m2 < D.length := by omega
      have cz := y5.at hm2n
      obtain ⟨z, hzz⟩ : ∃ z, D.getD m2 ByteArray.empty = z := ⟨_, rfl⟩
      rw [hzz] at cz
      have hrz : D.reverse.getD j ByteArray.empty = z := by
        rw [← hzz, List.getD_eq_getElem?_getD, List.getElem?_reverse hlt, List.getD_eq_getElem?_getD, hm1, hm2]
      have hml : ((D.reverse.take j ++ D.drop j)).length = D.length := by rw [List.length_append, List.length_take, List.length_drop, List.length_reverse]; omega
      have hset : ((D.reverse.take j ++ D.drop j) ++ [markB]).set j z = (D.reverse.take (j + 1) ++ D.drop (j + 1)) ++ [markB] := by
        rw [List.set_append_left _ _ (by rw [hml]; exact hlt), ← mx_set (e := ByteArray.empty) D.reverse D List.length_reverse j (by rw [List.length_reverse]; exact hlt), hrz]
      have hja : j < ((D.reverse.take j ++ D.drop j) ++ [markB]).length := by rw [List.length_append, hml]; omega
      obtain ⟨i1, i2⟩ := HI.out
      obtain ⟨c1, c2⟩ := own_cell i1 hja
      obtain ⟨c3, c4⟩ := own_cell i2 hja
      obtain ⟨e0, e1, e2, e3, e4, e5⟩ := x1.cells
      obtain ⟨f0, f1, f2, f3, f4, f5⟩ := x2.cells
      obtain ⟨k0, k1, k2, k3, k4, k5⟩ := y1.cells
      have hat : ((D.reverse.take (j + 1) ++ D.drop (j + 1)) ++ [markB]).getD j ByteArray.empty = z := by rw [← hset, List.getD_eq_getElem?_getD, List.getElem?_set_self hja]; rfl
      have hjb : j < ((D.reverse.take (j + 1) ++ D.drop (j + 1)) ++ [markB]).length := by rw [← hset, List.length_set]; exact hja
      have HN := hide (And.intro hset (And.intro hlt (And.intro i1 (And.intro i2 (And.intro hat hjb)))))
      clear x1 x2 x3 x4 x5 x6 x7 y1 y2 y3 y4 y5 y6 hm1 hm2 hm2n hzz hrz hml hset hja hat hjb i1 i2 HI hlt
      go_upto_region 14 with (fail)
      go_region
      obtain ⟨w11, hw11⟩ : ∃ w11, (wr.setCell ⟨gd, j, none⟩ (.string z)).drew = w11 := ⟨_, rfl⟩
      have hC1 : ChT (fun b => b = gd ∨ b = gd2) w10 w11 := by rw [← hw11]; exact (hC.set gd j _ (.inl rfl)).drew
      have p1 : OwnS w11 w1.heap.size (.slice (some ⟨gd, 0, none⟩) (D.length + 1) cd) ((D.reverse.take (j + 1) ++ D.drop (j + 1)) ++ [markB]) := by
        rw [← hw11, ← HN.out.1]
        exact own_next (own_putS HN.out.2.2.1 z) (Below.refl _ _).drew (Nat.le_refl _)
      have p2 : OwnS w11 w8.heap.size (.slice (some ⟨gd2, 0, none⟩) (D.length + 1) cd2) ((D.reverse.take j ++ D.drop j) ++ [markB]) := keep_row HN.out.2.2.2.1 fun g hg _ => by
        obtain rfl : gd2 = g := Option.some.inj hg
        rw [← hw11]
        exact Below.heap_setCell _ _ _ _ (by show gd2 ≠ gd; exact fun e => HO.out.2.2.1 e.symm)
      rw [hw11]
      clear hw11 hC e0 e1 e2 e3 e4 e5 f0 f1 f2 f3 f4 f5 k0 k1 k2 k3 k4 k5 c1 c2 c3 c4 cz g1 g2 hm20 hm2z
      obtain ⟨x1, x2, x3, x4, x5, x6, x7⟩ := HL.out w11 hC1
      obtain ⟨e0, e1, e2, e3, e4, e5⟩ := x1.cells
      obtain ⟨f0, f1, f2, f3, f4, f5⟩ := x2.cells
      have c1 := (own_cell p1 HN.out.2.2.2.2.2).1
      rw [HN.out.2.2.2.2.1] at c1
      have hja : j < ((D.reverse.take j ++ D.drop j) ++ [markB]).length := by have := HN.out.2.2.2.2.2; rw [← HN.out.1, List.length_set] at this; exact this
      obtain ⟨c3, c4⟩ := own_cell p2 hja
      have HP2 := hide (And.intro p1 p2)
      clear x1 x2 x3 x4 x5 x6 x7 p1 p2 hja
      go_upto_region 15 with (fail)
      go_region
      obtain ⟨w12, hw12⟩ : ∃ w12, (w11.setCell ⟨gd2, j, none⟩ (.string z)).drew = w12 := ⟨_, rfl⟩
      have hC2 : ChT (fun b => b = gd ∨ b = gd2) w10 w12 := by rw [← hw12]; exact (hC1.set gd2 j _ (.inr rfl)).drew
      have p2 : OwnS w12 w8.heap.size (.slice (some ⟨gd2, 0, none⟩) (D.length + 1) cd2) ((D.reverse.take (j + 1) ++ D.drop (j + 1)) ++ [markB]) := by
        rw [← hw12, ← HN.out.1]
        exact own_next (own_putS HP2.out.2 z) (Below.refl _ _).drew (Nat.le_refl _)
      have p1 : OwnS w12 w1.heap.size (.slice (some ⟨gd, 0, none⟩) (D.length + 1) cd) ((D.reverse.take (j + 1) ++ D.drop (j + 1)) ++ [markB]) := keep_row HP2.out.1 fun g hg _ => by
        obtain rfl : gd = g := Option.some.inj hg
        rw [← hw12]
        exact Below.heap_setCell _ _ _ _ (by show gd ≠ gd2; exact HO.out.2.2.1)
      rw [hw12]
      clear hw12 hC1 HP2 e0 e1 e2 e3 e4 e5 f0 f1 f2 f3 f4 f5 c1 c3 c4
      go_wp2
      go_roundg (D.length - (j + 1))
      case rel =>
        go_light
        exact ⟨j + 1, HN.out.2.1, rfl, by go_num, ⟨p1, p2⟩, hC2⟩
      case measure => go_light; have := HN.out.2.1; omega
    · obtain rfl : j = D.length := by omega
      have hz : ¬ ((D.length : Int) < (D.length : Int)) := by omega
      obtain ⟨i1, i2⟩ := HI.out
      have hrl : (D.reverse.take D.length ++ D.drop D.length) = D.reverse := by rw [List.drop_length, List.append_nil, List.take_of_length_le (by rw [List.length_reverse]; exact Nat.le_refl _)]
      rw [hrl] at i1 i2
      obtain ⟨n2, r2, er2, hA1, hA2⟩ := roots_any kd k old size S D.reverse (by rw [List.length_reverse]; have := HDs.out.2.2.1; omega) x
      have hss : ∀ s ∈ D.reverse, s.size ≤ 9223372036854775807 := fun s hs => HDs.out.1 s (List.mem_reverse.1 hs)
      obtain ⟨x1, x2, x3, x4, x5, x6, x7⟩ := HL.out wr hC
      have d1 := own_rds i1 hss
      have d2 := own_rds i2 hss
      have hsz10 := hC.size
      obtain ⟨y1, y2, y3, y4, y5, y6⟩ := HP.out wr x7
      have HRx : Hid (Calls Tryd.prog 9 #[.agg #[.int .i64 kd, .int .i64 k, .int .u64 (old : Int), .int .u64 (size : Int), .slice (some ⟨gs, 0, none⟩) S.length cs, .slice (some ⟨gd, 0, none⟩) D.length cd], .string x] wr fun e w' => e = .returned (.tuple #[.agg #[.int .u64 (n2 : Int), .string r2], .int .i64 er2]) ∧ Below wr.heap.size wr w') := by
        have := hA1 wr _ gs 0 cs _ gd 0 cd y2 x3 d1 (by rw [List.length_reverse]; have := HG.out.2.2.2.2.2.2.2.1; omega) HG.out.2.2.2.2.2.2.2.2.1 (fun e => by cases e)
        rw [List.length_reverse] at this
        exact this
      have HRq : Hid (∀ W, Tr W → RdU W (some ⟨gs2, 0, none⟩) gs2 0 S.length S → RdS W (some ⟨gd2, 0, none⟩) gd2 0 D.reverse.length D.reverse → Calls Tryd.prog 10 #[.agg #[.int .i64 kd, .int .i64 k, .int .u64 (old : Int), .int .u64 (size : Int), .slice (some ⟨gs2, 0, none⟩) S.length cs2, .slice (some ⟨gd2, 0, none⟩) D.length cd2], .string x] W fun e w' => e = .returned (.tuple #[.agg #[.int .u64 (n2 : Int), .string r2], .int .i64 er2]) ∧ Below W.heap.size W w') := fun W h1 h2 h3 => by
        have := hA2 W _ gs2 0 cs2 _ gd2 0 cd2 h1 h2 h3
        rw [List.length_reverse] at this
        exact this
      have HK : Hid (∀ W, Below wr.heap.size wr W → Rw W q6 n r ∧ Rw W q8 n r ∧ Six W q12 (.int .i64 kd) (.int .i64 k) (.int .u64 (old : Int)) (.int .u64 (size : Int)) (.slice (some ⟨gs2, 0, none⟩) S.length cs2) (.slice (some ⟨gd2, 0, none⟩) D.length cd2) ∧ RdU W (some ⟨gs2, 0, none⟩) gs2 0 S.length S ∧ RdS W (some ⟨gd2, 0, none⟩) gd2 0 D.reverse.length D.reverse ∧ Below W0.heap.size W0 W) := fun W hW =>
        ⟨x5.below hW (by have := HO.out.2.2.2.2.2; omega), x6.below hW (by have := HO.out.2.2.2.2.2; omega), x2.next hW, x4.next hW, d2.next hW (Nat.le_refl _), bnext x7 hW⟩
      obtain ⟨e0, e1, e2, e3, e4, e5⟩ := x1.cells
      have HZ := hide hsz10
      clear x1 x2 x3 x4 x5 x6 x7 y1 y2 y3 y4 y5 y6 d1 d2 i1 i2 hrl hss HI hC hA1 hA2 hsz10 hj hlt
      go_upto_region 17 with (go_at_call 9; with_reducible refine HRx.out.mono ?_; rintro e w11 ⟨rfl, hb11⟩; have a0 := (HK.out w11 hb11).1.rt; have a1 := a0.c0; have a2 := a0.c1; have a3 := a0.f0; have a4 := a0.f1)
      obtain ⟨w12, hw12⟩ : ∃ w12, (w11.setCell ⟨q6, 0, none⟩ (.int .u64 (n2 : Int))).setCell ⟨q6, 1, none⟩ (.string r2) = w12 := ⟨_, rfl⟩
      obtain ⟨x1, x2, x3, x4, x5, x6⟩ := HK.out w11 hb11
      have hc6 : ChT (fun b => b = q6) w11 w12 := by rw [← hw12]; exact set2_ch w11 q6 _ _
      have y1 : Rw w12 q6 n2 r2 := by rw [← hw12]; exact x1.put n2 r2
      obtain ⟨o1, o2, o3, o4, o5, o6, o7, o8, o9, o10, o11, o12, o13, o14, o15⟩ := HO.out
      have hss := hb11.size
      have hzz := HZ.out
      have y2 : Rw w12 q8 n r := (hc6.block q8 (by omega)).trans x2
      have y3 := x3.same (hc6.block q12 (by omega))
      have y4 := x4.same (hc6.block gs2 (by omega))
      have y5 := x5.same (hc6.block gd2 (by omega))
      have y6 : Below W0.heap.size W0 w12 := x6.trans (hc6.below (by rintro b rfl; omega))
      have HRq' := hide (HRq.out w12 (HP.out w12 y6).2.2.1 y4 y5)
      rw [hw12]
      have HM : Hid (∀ W, Below w12.heap.size w12 W → Rw W q6 n2 r2 ∧ Rw W q8 n r ∧ Below W0.heap.size W0 W) := fun W hW => ⟨y1.below hW y1.lt, y2.below hW y2.lt, bnext y6 hW⟩
      clear e0 e1 e2 e3 e4 e5 a0 a1 a2 a3 a4
      obtain ⟨e0, e1, e2, e3, e4, e5⟩ := y3.cells
      clear x1 x2 x3 x4 x5 x6 hw12 hc6 y1 y2 y3 y4 y5 y6 o1 o2 o3 o4 o5 o6 o7 o8 o9 o10 o11 o12 o13 o14 o15 hss hzz HRq HRx HK hb11
      go_upto_region 18 with (go_at_call 10; with_reducible refine HRq'.out.mono ?_; rintro e w13 ⟨rfl, hb13⟩; have a0 := (HM.out w13 hb13).2.1.rt; have a1 := a0.c0; have a2 := a0.c1; have a3 := a0.f0; have a4 := a0.f1)
      obtain ⟨w14, hw14⟩ : ∃ w14, (w13.setCell ⟨q8, 0, none⟩ (.int .u64 (n2 : Int))).setCell ⟨q8, 1, none⟩ (.string r2) = w14 := ⟨_, rfl⟩
      obtain ⟨x1, x2, x3⟩ := HM.out w13 hb13
      have hc8 : ChT (fun b => b = q8) w13 w14 := by rw [← hw14]; exact set2_ch w13 q8 _ _
      have y2 : Rw w14 q8 n2 r2 := by rw [← hw14]; exact x2.put n2 r2
      have y1 : Rw w14 q6 n2 r2 := (hc8.block q6 (by have := HO.out.2.2.2.2.2.2.2.1; omega)).trans x1
      have y6 : Below W0.heap.size W0 w14 := x3.trans (hc8.below (by rintro b rfl; have := HO.out.2.2.2.2.2.2.2.2.2.2.2.1; omega))
      have HF := hide (HP.out w14 y6).2.2.2.2.2
      rw [hw14]
      have b0 := y1.rt.c0
      have b1 := y1.rt.c1
      have b2 := y2.rt.c0
      have b3 := y2.rt.c1
      clear hw14 x1 x2 x3 hc8 y1 y2 y6 a0 a1 a2 a3 a4 e0 e1 e2 e3 e4 e5
      go_wp2
      go_ret
      exact ⟨rfl, HF.out⟩
end Go.Proofs.YtgmnolepaidiiaaDoor
