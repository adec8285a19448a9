/-
  Walks of package kin: Roots. Own work.
-/
import Derived.Test.YtdkcliblbaldhaaDoorQ0
import Derived.Test.YtdkcliblbaldhaaDoorJWalkF
namespace Go.Proofs.YtdkcliblbaldhaaDoor
open Go.RowKit
open Cv (RdC zl cU cov)
open Pl (pw)
attribute [local go_sem ↓] Go.wp_at_zero Go.wp_at_succ
/-- The two roots of a kin. -/
def kOld (c old : Nat) (D : List ByteArray) : ByteArray := dg c (rootT old (bagL c (D.take (cov 0 old).length)))
def kNow (c size : Nat) (F : Nat → Nat → ByteArray) : ByteArray := dg c (rootT size (bagL c (dgF F (cov 0 size))))
theorem rdb_block {w W : World} {ao : Option Addr} {g n : Nat} {l : List (Int × Nat)} (r : RdB w ao g 0 n l) (h : 0 < n → W.heap[g]? = w.heap[g]?) : RdB W ao g 0 n l :=
  ⟨r.len, r.addr, fun j hj => ⟨(World.cell?_of_block (h (by omega))).trans (r.cell j hj).1, (World.cell?_of_block (h (by omega))).trans (r.cell j hj).2⟩, r.fit⟩
theorem rdb_ne {w : World} {ao : Option Addr} {g n q m : Nat} {d : ByteArray} {l : List (Int × Nat)} (r : RdB w ao g 0 n l) (h0 : 0 < n) (hq : Rh w q m d) (e : g = q) : False := by
  subst e
  have h1 := (r.cell 0 h0).1
  rw [Nat.zero_mul, Nat.zero_add, hq.cells.1] at h1
  cases h1
set_option maxRecDepth 100000 in
set_option maxHeartbeats 4000000 in
theorem kroots_ok (w : World) (ht : Tb w) (k : Int) (old size : Nat) (sa : Option Addr) (sc : Nat) (da : Option Addr) (db dO dc : Nat) (D : List ByteArray) (hr : RdS w da db dO D.length D) (hdc : D.length ≤ dc) (hok : okK 3 k old size 0 D) (F : Nat → Nat → ByteArray) (hJ : Jn (clk k) (kb old size) D F) (r1 r2 : ByteArray) (hr1 : kOld (clk k) old D = r1) (hr2 : kNow (clk k) size F = r2) :
    Calls Tryd.prog 13 #[vP 3 k old size (.slice sa 0 sc) (.slice da D.length dc)] w fun e w' => e = .returned (.tuple #[.agg #[.int .u64 (old : Int), .string r1], .agg #[.int .u64 (size : Int), .string r2], .int .i64 0]) ∧ Below w.heap.size w w' := by
  obtain ⟨W0, hW0⟩ : ∃ W0, ((w.alloc (.cells #[.int .i64 3, .int .i64 k, .int .u64 (old : Int), .int .u64 (size : Int), .slice sa 0 sc, .slice da D.length dc] 32)).alloc (.cells #[.int .u64 0, .string ⟨#[]⟩] 37)).alloc (.cells #[.int .u64 0, .string ⟨#[]⟩] 37) = W0 := ⟨_, rfl⟩
  obtain ⟨h3, hb⟩ := k3_start w 3 k old size (.slice sa 0 sc) (.slice da D.length dc) hW0
  obtain ⟨c0, c1, c2, c3, c4, c5⟩ := h3.six.cells
  have H3 := hide h3
  obtain ⟨h1, h2⟩ := hok
  have hos : old ≤ size := h1.2.2.1
  have hs40 : size ≤ 2 ^ 40 := h1.2.1
  have hkk : 1 ≤ k ∧ k ≤ 32 := h1.1.2
  have hfl : D.length = (kb old size).length := h2.1
  have hfs : ∀ d ∈ D, (d.size : Int) = k := h2.2
  have hkl := kb_len hos hs40
  have hmm : D.length ≤ 8796093022208 := by omega
  have hon : (cov 0 old).length ≤ D.length := by rw [hfl, kb, List.length_append]; omega
  have ho1 := Cv.cov_ones old (by omega)
  obtain ⟨t, htl⟩ : ∃ t, (cov 0 old).length = t := ⟨_, rfl⟩
  rw [htl] at ho1 hon
  have HI : Hid (∀ W, Calls Tryd.prog 36 #[vP 3 k old size (.slice sa 0 sc) (.slice da D.length dc)] W fun e w' => e = .returned (.bool true) ∧ Below W.heap.size W w') := fun W => isk_core W 3 k old size sa 0 sc da D.length dc true (decide_eq_true h1)
  have HBk : Hid (∀ W, Calls Tryd.prog 34 #[.int .u64 (old : Int), .int .u64 (size : Int)] W fun e w' => ∃ ao g cap, e = .returned (.slice ao (kb old size).length cap) ∧ RdB w' ao g 0 (kb old size).length (zl (kb old size)) ∧ Below W.heap.size W w') := fun W => (blocksof_any W old size hos hs40).mono fun e w' ⟨v, e1, e2, e3⟩ => by
    obtain ⟨ao, g, n', cap, rfl, hr', _⟩ := own_rdB e2 (fun x hx => by
      obtain ⟨b0, hb0, rfl⟩ := List.mem_map.1 hx
      exact (fit40 (kb_in hos hs40 b0 hb0) hs40).1)
    have hl := hr'.len
    rw [Cv.zl_len] at hl
    subst hl
    exact ⟨ao, g, cap, e1, hr', e3⟩
  have HF : Hid (∀ W ao c, Below w.heap.size w W → Calls Tryd.prog 37 #[.slice ao (kb old size).length c, vP 3 k old size (.slice sa 0 sc) (.slice da D.length dc)] W fun e w' => e = .returned (.bool true) ∧ Below W.heap.size W w') := fun W ao c hb => kfilled_core W 3 k old size sa 0 sc da db dO dc D (hr.next hb (Nat.le_refl _)) hmm ao (kb old size).length c true (decide_eq_true h2)
  have HO : Hid (∀ W, Calls Tryd.prog 17 #[.int .u64 (old : Int)] W fun e w' => e = .returned (.int .i64 (t : Int)) ∧ W = w') := fun W => by
    have := Pl.ones_any old W (by omega)
    rw [← ho1] at this
    exact this.mono fun _ _ h => ⟨h.1, h.2.symm⟩
  have HR1 : Hid (∀ W, Below w.heap.size w W → Calls Tryd.prog 38 #[.int .i64 k, .int .u64 (old : Int), .slice da t dc] W fun e w' => e = .returned (.string r1) ∧ Below W.heap.size W w') := fun W hb => by
    have hrd := rds_take (hr.next hb (Nat.le_refl _)) hon
    rw [List.length_take, Nat.min_eq_left hon] at hrd
    exact root_any W (ht.next hb) k old da db dO t dc (D.take t) hrd (fun s hs => by have := hfs s (List.mem_of_mem_take hs); omega) (by omega) r1 (by rw [← hr1, kOld, htl])
  have HJd : Hid (∀ W ao g cap, Below w.heap.size w W → RdB W ao g 0 (kb old size).length (zl (kb old size)) → Calls Tryd.prog 39 #[.slice ao (kb old size).length cap, vP 3 k old size (.slice sa 0 sc) (.slice da D.length dc)] W fun e w' => ∃ ap bp cp, e = .returned (.slice ap (cov 0 size).length cp) ∧ RdS w' ap bp 0 (cov 0 size).length (dgF F (cov 0 size)) ∧ Below W.heap.size W w') := fun W ao g cap hb hB => by
    refine (joined_any W (ht.next hb) 3 k old size sa 0 sc da db dO dc D (hr.next hb (Nat.le_refl _)) ao g cap size (kb old size) hB (kb_row hos hs40) hs40 hfl (by omega) F hJ).mono fun e w' ⟨v, e1, e2, e3⟩ => ?_
    obtain ⟨aP, bP, cP, rfl, rP, _, _⟩ := owns_rds e2 (fun s hs => by
      obtain ⟨b, _, rfl⟩ := List.mem_map.1 hs
      have := hJ.sz b.1 b.2
      omega)
    rw [List.length_map] at e1 rP
    exact ⟨aP, bP, cP, e1, rP, e3⟩
  have hsl := Cv.cov_forty size hs40
  have HR2 : Hid (∀ W ap bp cp, Below w.heap.size w W → RdS W ap bp 0 (cov 0 size).length (dgF F (cov 0 size)) → Calls Tryd.prog 38 #[.int .i64 k, .int .u64 (size : Int), .slice ap (cov 0 size).length cp] W fun e w' => e = .returned (.string r2) ∧ Below W.heap.size W w') := fun W ap bp cp hb hR => root_any W (ht.next hb) k size ap bp 0 (cov 0 size).length cp (dgF F (cov 0 size)) hR (fun s hs => by
      obtain ⟨b, _, rfl⟩ := List.mem_map.1 hs
      have := hJ.sz b.1 b.2
      omega) (by omega) r2 (by rw [← hr2, kNow])
  have htz : (t : Int) ≤ (D.length : Int) := by omega
  have htc : (t : Int) ≤ (dc : Int) := by omega
  have ht0 : (0 : Int) ≤ (t : Int) := Int.natCast_nonneg _
  obtain ⟨lb, hlb⟩ : ∃ lb, (kb old size).length = lb := ⟨_, rfl⟩
  obtain ⟨zb, hzb⟩ : ∃ zb, zl (kb old size) = zb := ⟨_, rfl⟩
  obtain ⟨ls, hls⟩ : ∃ ls, (cov 0 size).length = ls := ⟨_, rfl⟩
  obtain ⟨P, hP⟩ : ∃ P, dgF F (cov 0 size) = P := ⟨_, rfl⟩
  rw [hlb, hzb] at HBk HJd
  rw [hlb] at HF
  rw [hls, hP] at HJd HR2
  clear ht hr hdc h1 h2 hos hs40 hkk hfl hfs hkl hmm hon ho1 htl hJ hr1 hr2 hsl h3 hlb hzb hls hP
  unfold vP at HI HF HJd
  unfold vP
  go_enter Tryd.func13, Tryd.ntmps13
  go_upto_region 6 with (first
    | (go_at_call 36; with_reducible refine (HI.out _).mono ?_; rintro e w1 ⟨rfl, hb1⟩; obtain ⟨d0, d1, d2, d3, d4, d5⟩ := (H3.out.next hb1).six.cells)
    | (go_at_call 34; with_reducible refine (HBk.out _).mono ?_; rintro e w2 ⟨ao, g, cap, rfl, hB2, hb2⟩; obtain ⟨g0, g1, g2, g3, g4, g5⟩ := (H3.out.next (bnext hb1 hb2)).six.cells)
    | (go_at_call 37; with_reducible refine (HF.out _ _ _ (bnext (bnext hb hb1) hb2)).mono ?_; rintro e w3 ⟨rfl, hb3⟩))
  have hK3 := H3.out.next (bnext (bnext hb1 hb2) hb3)
  have hB3 := hB2.below hb3
  have hbw := bnext (bnext (bnext hb hb1) hb2) hb3
  have HK : Hid (∀ Z, Below w3.heap.size w3 Z → Below w.heap.size w Z ∧ K3 Z w.heap.size 3 k old size (.slice sa 0 sc) (.slice da D.length dc) 0 ⟨#[]⟩ 0 ⟨#[]⟩ ∧ RdB Z ao g 0 lb zb) := fun Z hZ => ⟨bnext hbw hZ, hK3.next hZ, hB3.below hZ⟩
  have hb0 := Below.refl w3.heap.size w3
  clear H3 HI HBk HF hb hb1 hb2 hb3 hW0 c0 c1 c2 c3 c4 c5 d0 d1 d2 d3 d4 d5 g0 g1 g2 g3 g4 g5 hB2 hK3 hB3 hbw
  have HC : Hid (∀ Z, Below w3.heap.size w3 Z → Z.cell? ⟨w.heap.size, 5, none⟩ = some (.slice da D.length dc) ∧ Z.cell? ⟨w.heap.size, 2, none⟩ = some (.int .u64 (old : Int))) := fun Z hZ => by
    obtain ⟨_, _, x2, _, _, x5⟩ := (HK.out Z hZ).2.1.six.cells
    exact ⟨x5, x2⟩
  go_region_held3 (fun Z => Z.cell? ⟨w.heap.size, 5, none⟩ = some (.slice da D.length dc) ∧ Z.cell? ⟨w.heap.size, 2, none⟩ = some (.int .u64 (old : Int)))
    (exact HC.out _ (by first | exact hb0 | exact hb0.drew)) (first
    | (go_at_call 17; with_reducible refine (HO.out _).mono ?_; rintro e w4 ⟨rfl, rfl⟩))
  have hb7 := hb0.drew
  obtain ⟨W7, hW7⟩ : ∃ W7, w3.drew = W7 := ⟨_, rfl⟩
  rw [hW7] at hb7 ⊢
  have HK7 : Hid (∀ Z, Below W7.heap.size W7 Z → Below w.heap.size w Z ∧ K3 Z w.heap.size 3 k old size (.slice sa 0 sc) (.slice da D.length dc) 0 ⟨#[]⟩ 0 ⟨#[]⟩ ∧ RdB Z ao g 0 lb zb) := fun Z hZ => HK.out Z (bnext hb7 hZ)
  clear hW7 hb7 HK HC hb0
  have HC7 : Hid (∀ Z, Below W7.heap.size W7 Z → Z.cell? ⟨w.heap.size, 1, none⟩ = some (.int .i64 k) ∧ Z.cell? ⟨w.heap.size, 2, none⟩ = some (.int .u64 (old : Int))) := fun Z hZ => by
    obtain ⟨_, x1, x2, _, _, x5⟩ := (HK7.out Z hZ).2.1.six.cells
    exact ⟨x1, x2⟩
  have HP7 : Hid (∀ Z a b, Below W7.heap.size W7 Z → ((Z.setCell ⟨w.heap.size + 1, 0, none⟩ a).setCell ⟨w.heap.size + 1, 1, none⟩ b).cell? ⟨w.heap.size, 1, none⟩ = some (.int .i64 k) ∧ ((Z.setCell ⟨w.heap.size + 1, 0, none⟩ a).setCell ⟨w.heap.size + 1, 1, none⟩ b).cell? ⟨w.heap.size, 2, none⟩ = some (.int .u64 (old : Int))) := fun Z a b hZ => by
    obtain ⟨x1, x2⟩ := HC7.out Z hZ
    exact ⟨(World.cell?_setCell_other _ _ _ _ (by simp)).trans ((World.cell?_setCell_other _ _ _ _ (by simp)).trans x1), (World.cell?_setCell_other _ _ _ _ (by simp)).trans ((World.cell?_setCell_other _ _ _ _ (by simp)).trans x2)⟩
  have hb0 := Below.refl W7.heap.size W7
  go_upto_region 7 with (fail)
  go_region_held3 (fun Z => Z.cell? ⟨w.heap.size, 1, none⟩ = some (.int .i64 k) ∧ Z.cell? ⟨w.heap.size, 2, none⟩ = some (.int .u64 (old : Int)))
    (first | exact HC7.out _ (by first | exact hb0 | exact hb0.drew | exact hb8) | exact HP7.out _ _ _ (by first | exact hb0 | exact hb0.drew | exact hb8)) (first
    | (go_at_call 38; with_reducible refine (HR1.out _ (HK7.out _ (by first | exact hb0.drew | exact hb0)).1).mono ?_; rintro e w8 ⟨rfl, hb8'⟩
       have hb8 : Below W7.heap.size W7 w8 := by first | exact bnext hb0.drew hb8' | exact bnext hb0 hb8'
       have hK8 := HK7.out w8 hb8
       obtain ⟨k0, k1⟩ := hK8.2.1.r1.cells
       have f0 := hK8.2.1.r1.fz))
  all_goals
    have hK9 := hK8.2.1.put1 old r1
    have hc9 := putR_ch w8 (w.heap.size + 1) old r1
    obtain ⟨W9, hW9⟩ : ∃ W9, putR w8 (w.heap.size + 1) old r1 = W9 := ⟨_, rfl⟩
    rw [hW9] at hK9 hc9
    unfold putR at hW9
    rw [hW9]
    have hb9 : Below w.heap.size w W9 := hK8.1.trans (hc9.below (by rintro b rfl; omega))
    have hB9 : RdB W9 ao g 0 lb zb := rdb_block hK8.2.2 (fun h0 => hc9.block g (by
      intro e
      exact rdb_ne hK8.2.2 h0 hK8.2.1.r1 e))
    have HK9 : Hid (∀ Z, Below W9.heap.size W9 Z → Below w.heap.size w Z ∧ K3 Z w.heap.size 3 k old size (.slice sa 0 sc) (.slice da D.length dc) old r1 0 ⟨#[]⟩ ∧ RdB Z ao g 0 lb zb) := fun Z hZ => ⟨bnext hb9 hZ, hK9.next hZ, hB9.below hZ⟩
    clear hK9 hc9 hW9 hb9 hB9 HK7 HC7 HP7 hb0 hb8 hb8' hK8 k0 k1 f0 HR1
    have HC9 : Hid (∀ Z, Below W9.heap.size W9 Z → Z.cell? ⟨w.heap.size, 0, none⟩ = some (.int .i64 3) ∧ Z.cell? ⟨w.heap.size, 1, none⟩ = some (.int .i64 k) ∧ Z.cell? ⟨w.heap.size, 2, none⟩ = some (.int .u64 (old : Int)) ∧ Z.cell? ⟨w.heap.size, 3, none⟩ = some (.int .u64 (size : Int)) ∧ Z.cell? ⟨w.heap.size, 4, none⟩ = some (.slice sa 0 sc) ∧ Z.cell? ⟨w.heap.size, 5, none⟩ = some (.slice da D.length dc)) := fun Z hZ => (HK9.out Z hZ).2.1.six.cells
    have HP9 : Hid (∀ Y a b, Below W9.heap.size W9 Y → ∀ Z, (Y.setCell ⟨w.heap.size + 1 + 1, 0, none⟩ a).setCell ⟨w.heap.size + 1 + 1, 1, none⟩ b = Z → Z.cell? ⟨w.heap.size, 0, none⟩ = some (.int .i64 3) ∧ Z.cell? ⟨w.heap.size, 1, none⟩ = some (.int .i64 k) ∧ Z.cell? ⟨w.heap.size, 2, none⟩ = some (.int .u64 (old : Int)) ∧ Z.cell? ⟨w.heap.size, 3, none⟩ = some (.int .u64 (size : Int)) ∧ Z.cell? ⟨w.heap.size, 4, none⟩ = some (.slice sa 0 sc) ∧ Z.cell? ⟨w.heap.size, 5, none⟩ = some (.slice da D.length dc)) := fun Y a b hY Z hZ => by
      subst hZ
      obtain ⟨x0, x1, x2, x3, x4, x5⟩ := HC9.out Y hY
      exact ⟨(World.cell?_setCell_other _ _ _ _ (by simp)).trans ((World.cell?_setCell_other _ _ _ _ (by simp)).trans x0), (World.cell?_setCell_other _ _ _ _ (by simp)).trans ((World.cell?_setCell_other _ _ _ _ (by simp)).trans x1), (World.cell?_setCell_other _ _ _ _ (by simp)).trans ((World.cell?_setCell_other _ _ _ _ (by simp)).trans x2), (World.cell?_setCell_other _ _ _ _ (by simp)).trans ((World.cell?_setCell_other _ _ _ _ (by simp)).trans x3), (World.cell?_setCell_other _ _ _ _ (by simp)).trans ((World.cell?_setCell_other _ _ _ _ (by simp)).trans x4), (World.cell?_setCell_other _ _ _ _ (by simp)).trans ((World.cell?_setCell_other _ _ _ _ (by simp)).trans x5)⟩
    have hb0 := Below.refl W9.heap.size W9
    go_upto_region 8 with (fail)
    go_region_held3 (fun Z => Z.cell? ⟨w.heap.size, 0, none⟩ = some (.int .i64 3) ∧ Z.cell? ⟨w.heap.size, 1, none⟩ = some (.int .i64 k) ∧ Z.cell? ⟨w.heap.size, 2, none⟩ = some (.int .u64 (old : Int)) ∧ Z.cell? ⟨w.heap.size, 3, none⟩ = some (.int .u64 (size : Int)) ∧ Z.cell? ⟨w.heap.size, 4, none⟩ = some (.slice sa 0 sc) ∧ Z.cell? ⟨w.heap.size, 5, none⟩ = some (.slice da D.length dc))
      (first | exact HC9.out _ (by first | exact hb0 | exact hb0.drew | exact hb10 | exact hb11) | exact HP9.out _ _ _ (by first | exact hb0 | exact hb0.drew | exact hb11) _ rfl) (first
      | (go_at_call 39; with_reducible refine (HJd.out _ _ _ _ (HK9.out _ (by first | exact hb0.drew | exact hb0)).1 (HK9.out _ (by first | exact hb0.drew | exact hb0)).2.2).mono ?_; rintro e w10 ⟨ap, bp, cp, rfl, hR10, hb10'⟩
         have hb10 : Below W9.heap.size W9 w10 := by first | exact bnext hb0.drew hb10' | exact bnext hb0 hb10')
      | (go_at_call 38; with_reducible refine (HR2.out _ _ _ _ (HK9.out _ hb10).1 hR10).mono ?_; rintro e w11 ⟨rfl, hb11'⟩
         have hb11 : Below W9.heap.size W9 w11 := bnext hb10 hb11'
         have hK11 := HK9.out w11 hb11
         obtain ⟨k0, k1⟩ := hK11.2.1.r2.cells
         have f0 := hK11.2.1.r2.fz))
    all_goals
      have hK12 := hK11.2.1.put2 size r2
      have hc12 := putR_ch w11 (w.heap.size + 2) size r2
      obtain ⟨W12, hW12⟩ : ∃ W12, putR w11 (w.heap.size + 2) size r2 = W12 := ⟨_, rfl⟩
      rw [hW12] at hK12 hc12
      unfold putR at hW12
      rw [hW12]
      have hb12 : Below w.heap.size w W12 := hK11.1.trans (hc12.below (by rintro b rfl; omega))
      obtain ⟨x0, x1⟩ := hK12.r1.cells
      obtain ⟨x2, x3⟩ := hK12.r2.cells
      have fa := hK12.r1.fz
      have fb := hK12.r2.fz
      have hK14 := (hK12.put1 old r1).put2 size r2
      have hc13 := putR_ch W12 (w.heap.size + 1) old r1
      have hc14 := putR_ch (putR W12 (w.heap.size + 1) old r1) (w.heap.size + 2) size r2
      unfold putR at hK14 hc13 hc14
      obtain ⟨y0, y1⟩ := hK14.r1.cells
      obtain ⟨y2, y3⟩ := hK14.r2.cells
      have HB := hide ((hb12.trans (hc13.below (by rintro b rfl; omega))).trans (hc14.below (by rintro b rfl; omega)))
      clear hc12 hW12 hb12 hc13 hc14 hK12 HK9 HC9 HP9 hb0 hb10 hb10' hb11 hb11' hK11 k0 k1 f0 HR2 HJd hR10 hK14
      go_upto_region 9 with (fail)
      go_region
      all_goals go_wp2
      all_goals refine bodyPost_ret (v := .tuple #[.agg #[.int .u64 (old : Int), .string r1], .agg #[.int .u64 (size : Int), .string r2], .int .i64 0]) (by simp [results, Tryd.results13, go_sem, y0, y1, y2, y3]) rfl ⟨rfl, ?_⟩
      all_goals exact HB.out.drew
end Go.Proofs.YtdkcliblbaldhaaDoor
