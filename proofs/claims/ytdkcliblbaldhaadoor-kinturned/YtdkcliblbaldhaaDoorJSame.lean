/-
  Walks of kin's laws: sameProof, kept. Own work.
-/
import Derived.Test.YtdkcliblbaldhaaDoorJLent
namespace Go.Proofs.YtdkcliblbaldhaaDoor
open Go.RowKit
open Cv (cU)
attribute [local go_sem ↓] Go.wp_at_zero Go.wp_at_succ
set_option maxRecDepth 100000 in
set_option maxHeartbeats 2000000 in
theorem same_yes (w : World) (kd k : Int) (old size : Nat) (sa : Option Addr) (sb so sc : Nat) (ca : Option Addr) (cb co cc : Nat) (S : List Nat) (u1 : RdU w sa sb so S.length S) (u2 : RdU w ca cb co S.length S) (hS : S.length ≤ 17592186044416) (da : Option Addr) (db dO dc : Nat) (ea : Option Addr) (eb eo ec : Nat) (D : List ByteArray) (r1 : RdS w da db dO D.length D) (r2 : RdS w ea eb eo D.length D) (hD : D.length ≤ 8796093022208) :
    Calls Tryd.prog 21 #[vP kd k old size (.slice sa S.length sc) (.slice da D.length dc), vP kd k old size (.slice ca S.length cc) (.slice ea D.length ec)] w fun e w' => e = .returned (.bool true) ∧ Below w.heap.size w w' := by
  obtain ⟨W0, hW0⟩ : ∃ W0, (w.alloc (.cells #[.int .i64 kd, .int .i64 k, .int .u64 (old : Int), .int .u64 (size : Int), .slice sa S.length sc, .slice da D.length dc] 32)).alloc (.cells #[.int .i64 kd, .int .i64 k, .int .u64 (old : Int), .int .u64 (size : Int), .slice ca S.length cc, .slice ea D.length ec] 32) = W0 := ⟨_, rfl⟩
  have hb : Below w.heap.size w W0 := by rw [← hW0]; exact bal (bal (Below.refl _ _) _) _
  have h6 : Six W0 w.heap.size (.int .i64 kd) (.int .i64 k) (.int .u64 (old : Int)) (.int .u64 (size : Int)) (.slice sa S.length sc) (.slice da D.length dc) := by rw [← hW0]; exact (six_new w _ _ _ _ _ _).next (bal (Below.refl _ _) _)
  have h7 : Six W0 (w.heap.size + 1) (.int .i64 kd) (.int .i64 k) (.int .u64 (old : Int)) (.int .u64 (size : Int)) (.slice ca S.length cc) (.slice ea D.length ec) := by
    rw [← hW0]
    have := six_new (w.alloc (.cells #[.int .i64 kd, .int .i64 k, .int .u64 (old : Int), .int .u64 (size : Int), .slice sa S.length sc, .slice da D.length dc] 32)) (.int .i64 kd) (.int .i64 k) (.int .u64 (old : Int)) (.int .u64 (size : Int)) (.slice ca S.length cc) (.slice ea D.length ec)
    rwa [World.size_alloc] at this
  have HX : Hid (∀ W, Below W0.heap.size W0 W → Six W w.heap.size (.int .i64 kd) (.int .i64 k) (.int .u64 (old : Int)) (.int .u64 (size : Int)) (.slice sa S.length sc) (.slice da D.length dc) ∧ Six W (w.heap.size + 1) (.int .i64 kd) (.int .i64 k) (.int .u64 (old : Int)) (.int .u64 (size : Int)) (.slice ca S.length cc) (.slice ea D.length ec) ∧ RdU W sa sb so S.length S ∧ RdU W ca cb co S.length S ∧ RdS W da db dO D.length D ∧ RdS W ea eb eo D.length D ∧ Below w.heap.size w W) := fun W hW =>
    ⟨h6.next hW, h7.next hW, u1.next (bnext hb hW), u2.next (bnext hb hW), r1.next (bnext hb hW) (Nat.le_refl _), r2.next (bnext hb hW) (Nat.le_refl _), bnext hb hW⟩
  obtain ⟨a0, a1, a2, a3, a4, a5⟩ := h6.cells
  obtain ⟨b0, b1, b2, b3, b4, b5⟩ := h7.cells
  have hS1 : (S.length : Int) ≤ 17592186044416 := by omega
  have HSa : Hid (∀ W, Below W0.heap.size W0 W → Calls Tryd.prog 22 #[.slice da D.length dc, .slice ea D.length ec] W fun e w' => e = .returned (.bool true) ∧ Below W.heap.size W w') := fun W hW => same_any W da db dO D.length dc D (HX.out W hW).2.2.2.2.1 ea eb eo ec (HX.out W hW).2.2.2.2.2.1 hD
  clear u1 u2 r1 r2 h6 h7 hb hS hD
  unfold vP
  go_enter Tryd.func21, Tryd.ntmps21
  go_upto_region 1 with (fail)
  try rw [hW0]
  clear hW0
  go_wp2
  go_loopg [5] S.length (fun gk i wr => ∃ j : Nat, j ≤ S.length ∧ gk = S.length - j ∧ i = .int .i64 (j : Int) ∧ Hid (Below W0.heap.size W0 wr))
  case atStart =>
    go_light
    exact ⟨0, Nat.zero_le _, rfl, rfl, Below.refl _ _⟩
  case round =>
    clear a0 a1 a2 a3 a4 a5 b0 b1 b2 b3 b4 b5
    obtain ⟨j, hj, rfl, rfl, HI⟩ := hrel
    obtain ⟨x6, x7, v1, v2, _, _, hbw⟩ := HX.out wr HI.out
    obtain ⟨_, _, _, _, a4, a5⟩ := x6.cells
    obtain ⟨_, _, _, _, b4, b5⟩ := x7.cells
    by_cases hlt : j < S.length
    · have hz : (j : Int) < (S.length : Int) := by omega
      have hz0 : (0 : Int) ≤ (j : Int) := Int.natCast_nonneg _
      obtain rfl := v1.ptr (by omega)
      obtain rfl := v2.ptr (by omega)
      have k1 := v1.at hlt
      have k2 := v2.at hlt
      generalize S.getD j 0 = p at *
      have HB : Hid (Below W0.heap.size W0 wr.drew) := HI.out.drew
      clear x6 x7 v1 v2 hbw HI
      go_upto_region 6 with (fail)
      go_region
      go_wp2
      go_roundg (S.length - (j + 1))
      case rel =>
        go_light
        exact ⟨j + 1, by omega, rfl, by go_num, HB⟩
      case measure => go_light; omega
    · obtain rfl : j = S.length := by omega
      have hz : ¬ ((S.length : Int) < (S.length : Int)) := by omega
      clear x6 x7 v1 v2
      go_wp2_with (go_at_call 22; with_reducible refine (HSa.out _ HI.out).mono ?_; rintro e w1 ⟨rfl, hb1⟩)
      go_ret
      exact ⟨rfl, bnext hbw hb1⟩
/-- Lists with marks behind them. -/
structure Kp (W : World) (gs cs : Nat) (S : List Nat) (gd cd : Nat) (D : List ByteArray) : Prop where
  ou : RdU W (some ⟨gs, 0, none⟩) gs 0 (S.length + 2) (S ++ [77, 78])
  od : RdS W (some ⟨gd, 0, none⟩) gd 0 (D.length + 2) (D ++ [roomB, moreB])
  hs : S.length + 2 ≤ cs
  hd : D.length + 2 ≤ cd
theorem Kp.next {W W' : World} {gs cs gd cd : Nat} {S : List Nat} {D : List ByteArray} (h : Kp W gs cs S gd cd D) (hb : Below W.heap.size W W') : Kp W' gs cs S gd cd D := ⟨h.ou.next hb, h.od.next hb (Nat.le_refl _), h.hs, h.hd⟩
theorem kp_own {W : World} {B B' gs cs gd cd : Nat} {S : List Nat} {D : List ByteArray} (o1 : Cv.Own W B (.slice (some ⟨gs, 0, none⟩) (S.length + 2) cs) (S ++ [77, 78])) (o2 : OwnS W B' (.slice (some ⟨gd, 0, none⟩) (D.length + 2) cd) (D ++ [roomB, moreB])) (hD : ∀ d ∈ D, d.size ≤ 9223372036854775807) (h1 : S.length + 2 ≤ cs) (h2 : D.length + 2 ≤ cd) : Kp W gs cs S gd cd D := by
  have e1 := own_rdu (l' := []) (l := S ++ [77, 78]) (by rw [List.append_nil]; exact o1)
  have e2 := own_rds (l' := []) (l := D ++ [roomB, moreB]) (by rw [List.append_nil]; exact o2) (fun s hs => by
    rcases List.mem_append.1 hs with hs | hs
    · exact hD s hs
    · simp at hs
      rcases hs with rfl | rfl <;> decide)
  rw [List.length_append] at e1 e2
  exact ⟨e1, e2, h1, h2⟩
theorem Kp.rdu {W : World} {gs cs gd cd : Nat} {S : List Nat} {D : List ByteArray} (h : Kp W gs cs S gd cd D) : RdU W (some ⟨gs, 0, none⟩) gs 0 S.length S :=
  ⟨rfl, fun _ => rfl, fun j v hv => h.ou.rng j v (by
    have hj : j < (cU S).length := (List.getElem?_eq_some_iff.1 hv).1
    rw [show cU (S ++ [77, 78]) = cU S ++ cU [77, 78] from List.map_append, List.getElem?_append_left hj]; exact hv)⟩
theorem Kp.rds {W : World} {gs cs gd cd : Nat} {S : List Nat} {D : List ByteArray} (h : Kp W gs cs S gd cd D) : RdS W (some ⟨gd, 0, none⟩) gd 0 D.length D :=
  ⟨rfl, fun _ => rfl, fun j v hv => h.od.rng j v (by
    have hj : j < (D.map Value.string).length := (List.getElem?_eq_some_iff.1 hv).1
    rw [List.map_append, List.getElem?_append_left hj]; exact hv), fun s hs => h.od.sz s (List.mem_append_left _ hs)⟩
theorem getD_ap0 {α : Type} (l : List α) (x y d : α) : (l ++ [x, y]).getD l.length d = x := by rw [List.getD_eq_getElem?_getD, List.getElem?_append_right (Nat.le_refl _), Nat.sub_self]; rfl
theorem getD_ap1 {α : Type} (l : List α) (x y d : α) : (l ++ [x, y]).getD (l.length + 1) d = y := by rw [List.getD_eq_getElem?_getD, List.getElem?_append_right (by omega), Nat.add_sub_cancel_left]; rfl
set_option maxRecDepth 100000 in
set_option maxHeartbeats 2000000 in
theorem kept_any (w : World) (kd k : Int) (old size : Nat) (gs cs : Nat) (S : List Nat) (gd cd : Nat) (D : List ByteArray) (hk : Kp w gs cs S gd cd D) (sa : Option Addr) (sb so sc : Nat) (u1 : RdU w sa sb so S.length S) (hS : S.length ≤ 17592186044416) (da : Option Addr) (db dO dc : Nat) (r1 : RdS w da db dO D.length D) (hD : D.length ≤ 8796093022208) :
    Calls Tryd.prog 26 #[vP kd k old size (.slice (some ⟨gs, 0, none⟩) S.length cs) (.slice (some ⟨gd, 0, none⟩) D.length cd), vP kd k old size (.slice sa S.length sc) (.slice da D.length dc)] w fun e w' => e = .returned (.bool true) ∧ Below w.heap.size w w' := by
  obtain ⟨W0, hW0⟩ : ∃ W0, (w.alloc (.cells #[.int .i64 kd, .int .i64 k, .int .u64 (old : Int), .int .u64 (size : Int), .slice (some ⟨gs, 0, none⟩) S.length cs, .slice (some ⟨gd, 0, none⟩) D.length cd] 32)).alloc (.cells #[.int .i64 kd, .int .i64 k, .int .u64 (old : Int), .int .u64 (size : Int), .slice sa S.length sc, .slice da D.length dc] 32) = W0 := ⟨_, rfl⟩
  have hb : Below w.heap.size w W0 := by rw [← hW0]; exact bal (bal (Below.refl _ _) _) _
  have h6 : Six W0 w.heap.size (.int .i64 kd) (.int .i64 k) (.int .u64 (old : Int)) (.int .u64 (size : Int)) (.slice (some ⟨gs, 0, none⟩) S.length cs) (.slice (some ⟨gd, 0, none⟩) D.length cd) := by rw [← hW0]; exact (six_new w _ _ _ _ _ _).next (bal (Below.refl _ _) _)
  have h7 : Six W0 (w.heap.size + 1) (.int .i64 kd) (.int .i64 k) (.int .u64 (old : Int)) (.int .u64 (size : Int)) (.slice sa S.length sc) (.slice da D.length dc) := by
    rw [← hW0]
    have := six_new (w.alloc (.cells #[.int .i64 kd, .int .i64 k, .int .u64 (old : Int), .int .u64 (size : Int), .slice (some ⟨gs, 0, none⟩) S.length cs, .slice (some ⟨gd, 0, none⟩) D.length cd] 32)) (.int .i64 kd) (.int .i64 k) (.int .u64 (old : Int)) (.int .u64 (size : Int)) (.slice sa S.length sc) (.slice da D.length dc)
    rwa [World.size_alloc] at this
  have HSm : Hid (∀ W, Below w.heap.size w W → Calls Tryd.prog 21 #[vP kd k old size (.slice (some ⟨gs, 0, none⟩) S.length cs) (.slice (some ⟨gd, 0, none⟩) D.length cd), vP kd k old size (.slice sa S.length sc) (.slice da D.length dc)] W fun e w' => e = .returned (.bool true) ∧ Below W.heap.size W w') := fun W hb => same_yes W kd k old size _ gs 0 cs sa sb so sc S (hk.next hb).rdu (u1.next hb) hS _ gd 0 cd da db dO dc D (hk.next hb).rds (r1.next hb (Nat.le_refl _)) hD
  have HX : Hid (∀ W, Below W0.heap.size W0 W → Six W w.heap.size (.int .i64 kd) (.int .i64 k) (.int .u64 (old : Int)) (.int .u64 (size : Int)) (.slice (some ⟨gs, 0, none⟩) S.length cs) (.slice (some ⟨gd, 0, none⟩) D.length cd) ∧ W.cell? ⟨gd, D.length, none⟩ = some (.string roomB) ∧ W.cell? ⟨gd, D.length + 1, none⟩ = some (.string moreB) ∧ W.cell? ⟨gs, S.length, none⟩ = some (.int .u64 77) ∧ W.cell? ⟨gs, S.length + 1, none⟩ = some (.int .u64 78)) := fun W hW => by
    have hk' := hk.next (bnext hb hW)
    have c0 := hk'.od.at (k := D.length) (by omega)
    have c1 := hk'.od.at (k := D.length + 1) (by omega)
    have c2 := hk'.ou.at (j := S.length) (by omega)
    have c3 := hk'.ou.at (j := S.length + 1) (by omega)
    rw [getD_ap0, Nat.zero_add] at c0 c2
    rw [getD_ap1, Nat.zero_add] at c1 c3
    exact ⟨h6.next hW, c0, c1, c2, c3⟩
  obtain ⟨a0, a1, a2, a3, a4, a5⟩ := h6.cells
  obtain ⟨b0, b1, b2, b3, b4, b5⟩ := h7.cells
  have z1 : ((D.length : Int) + 1) ≤ (cd : Int) := by have := hk.hd; omega
  have z2 : ((D.length : Int) + 2) ≤ (cd : Int) := by have := hk.hd; omega
  have z3 : ((S.length : Int) + 1) ≤ (cs : Int) := by have := hk.hs; omega
  have z4 : ((S.length : Int) + 2) ≤ (cs : Int) := by have := hk.hs; omega
  have s1 : IntKind.i64.wrap ((D.length : Int) + 1) = (D.length : Int) + 1 := by rw [IntKind.wrap_i64]; omega
  have s2 : IntKind.i64.wrap ((D.length : Int) + 2) = (D.length : Int) + 2 := by rw [IntKind.wrap_i64]; omega
  have s3 : IntKind.i64.wrap ((S.length : Int) + 1) = (S.length : Int) + 1 := by rw [IntKind.wrap_i64]; omega
  have s4 : IntKind.i64.wrap ((S.length : Int) + 2) = (S.length : Int) + 2 := by rw [IntKind.wrap_i64]; omega
  have hbw := hb
  clear hk u1 r1 h6 h7 hb hS hD
  unfold vP at HSm
  unfold vP
  go_enter Tryd.func26, Tryd.ntmps26
  go_wp2_with (go_at_call 21; with_reducible refine (HSm.out _ hbw).mono ?_; rintro e w1 ⟨rfl, hb1⟩; obtain ⟨h6, x0, x1, x2, x3⟩ := HX.out w1 hb1; obtain ⟨d0, d1, d2, d3, d4, d5⟩ := h6.cells)
  go_ret
  exact ⟨rfl, bnext hbw hb1⟩
end Go.Proofs.YtdkcliblbaldhaaDoor
