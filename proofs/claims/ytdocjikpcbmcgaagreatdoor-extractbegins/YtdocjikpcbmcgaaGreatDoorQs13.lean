/-
  Own work: BWalkA.
-/
import Derived.BigRegion
import Derived.Test.YtdocjikpcbmcgaaGreatDoorQs12
namespace Go.Proofs.YtdocjikpcbmcgaaGreatDoor
open Go.RowKit
open Cv (RdC zl cU)
open Pl (pw)
attribute [local go_sem ↓] Go.wp_at_zero Go.wp_at_succ
theorem bl_at {S : List Nat} (hp : Asc S) {j : Nat} (hj : j < S.length) (x : Nat) : S.getD j 0 < x ↔ j < bl S x := by
  constructor
  · intro h
    by_cases hb : j < bl S x
    · exact hb
    · have : S.getD j 0 ∈ S.drop (bl S x) := by
        have e : S.getD j 0 = (S.drop (bl S x)).getD (j - bl S x) 0 := by rw [getD_dr, show bl S x + (j - bl S x) = j by omega]
        rw [e, List.getD_eq_getElem?_getD, List.getElem?_eq_getElem (by rw [List.length_drop]; omega)]
        exact List.getElem_mem _
      have := mem_high hp this
      omega
  · intro h
    have : S.getD j 0 ∈ S.take (bl S x) := by
      rw [← getD_tk 0 S h, List.getD_eq_getElem?_getD, List.getElem?_eq_getElem (by rw [List.length_take]; omega)]
      exact List.getElem_mem _
    exact mem_low hp this
set_option maxRecDepth 100000 in
theorem find_any (w : World) (ao : Option Addr) (b off len cap : Nat) (S : List Nat) (r : RdU w ao b off len S) (hp : Asc S) (hm : len ≤ 8796093022208) (x t : Nat) (ht : bl S x = t) :
    Calls Tryz.prog 167 #[.slice ao len cap, .int .u64 (x : Int)] w fun e w' => e = .returned (.int .i64 (t : Int)) ∧ w = w' := by
  have hl := r.hl
  have htl : t ≤ len := by rw [← ht, ← hl]; exact bl_le _ _
  have HR : Hid (RdU w ao b off len S) := r
  have HB : Hid (∀ j, j < len → (S.getD j 0 < x ↔ j < t)) := fun j hj => by rw [← ht]; exact bl_at hp (by omega) x
  clear r hp ht hl
  go_enter Tryz.func167, Tryz.ntmps167
  go_wp2
  go_loopg [5, 6] len (fun g lo hi wr => ∃ a z : Nat, a ≤ t ∧ t ≤ z ∧ z ≤ len ∧ g = z - a ∧ lo = .int .i64 (a : Int) ∧ hi = .int .i64 (z : Int) ∧ w = wr)
  case atStart =>
    go_light
    exact ⟨0, len, Nat.zero_le _, htl, Nat.le_refl _, rfl, rfl, rfl, rfl⟩
  case round =>
    obtain ⟨a, z, h1, h2, h3, rfl, rfl, rfl, rfl⟩ := hrel
    by_cases hlt : a < z
    · obtain ⟨d, hd⟩ : ∃ d, (z - a) / 2 = d := ⟨_, rfl⟩
      have hz : (a : Int) < (z : Int) := by omega
      have hsub : (z : Int) - (a : Int) = ((z - a : Nat) : Int) := by omega
      have hdiv : ((z - a : Nat) : Int) / 2 = (d : Int) := by omega
      have hdt : Int.tdiv ((z - a : Nat) : Int) 2 = (d : Int) := by rw [Int.tdiv_eq_ediv_of_nonneg (by omega)]; exact hdiv
      have hmid : (a : Int) + (d : Int) = ((a + d : Nat) : Int) := by omega
      have hm1 : a + d < len := by omega
      have hm2 : ((a + d : Nat) : Int) < (len : Int) := by omega
      have hm3 : (0 : Int) ≤ ((a + d : Nat) : Int) := by omega
      obtain rfl := HR.out.ptr (by omega)
      have c1 := HR.out.at hm1
      have hq := HB.out (a + d) hm1
      obtain ⟨y, hy⟩ : ∃ y, S.getD (a + d) 0 = y := ⟨_, rfl⟩
      rw [hy] at c1 hq
      have hd2 : a + d < z := by omega
      have ham : a ≤ a + d := by omega
      generalize a + d = m at *
      by_cases hy2 : y < x
      · have hyx : (y : Int) < (x : Int) := by omega
        have hmt := hq.1 hy2
        clear hq hy hd hdiv
        go_wp2
        go_roundg (z - (m + 1))
        case rel =>
          go_light
          exact ⟨m + 1, z, by omega, h2, h3, rfl, by go_num, rfl, rfl⟩
        case measure => go_light; omega
      · have hyx : ¬ (y : Int) < (x : Int) := by omega
        have hmt : ¬ m < t := fun h => hy2 (hq.2 h)
        clear hq hy hd hdiv
        go_wp2
        go_roundg (m - a)
        case rel =>
          go_light
          exact ⟨a, m, h1, by omega, by omega, rfl, rfl, rfl, rfl⟩
        case measure => go_light; omega
    · obtain rfl : a = z := by omega
      obtain rfl : a = t := by omega
      have hz : ¬ (a : Int) < (a : Int) := by omega
      clear hlt
      go_wp2
      go_ret
      exact ⟨rfl, rfl⟩
theorem end_any (w : World) (h k : Nat) (hh : h ≤ 40) (hk : (k + 1) * pw h ≤ 2 ^ 40) (p : Nat) (hp : (k + 1) * pw h = p) :
    Calls Tryz.prog 121 #[.agg #[.int .i64 (h : Int), .int .u64 (k : Int)]] w fun e w' => e = .returned (.int .u64 (p : Int)) ∧ Below w.heap.size w w' := by
  have hb := bal (Below.refl w.heap.size w) (.cells #[.int .i64 (h : Int), .int .u64 (k : Int)] 83)
  have hk0 : (0 : Int) ≤ (h : Int) := Int.natCast_nonneg _
  have hk1 : (h : Int) < 64 := by omega
  have hk2 : ¬ (h : Int) < 0 := by omega
  have hkk : k + 1 ≤ 2 ^ 40 := Nat.le_trans (Nat.le_mul_of_pos_right _ (Pl.pw_pos h)) hk
  have e0 : IntKind.u64.wrap ((k : Int) + 1) = ((k + 1 : Nat) : Int) := by rw [IntKind.wrap_u64]; omega
  have e1 : IntKind.u64.wrap (((k : Int) + 1) * (2 : Int) ^ h) = (p : Int) := by
    have e : ((k : Int) + 1) * ((2 : Int) ^ h) = (p : Int) := by rw [← hp]; simp [pw]
    rw [e, IntKind.wrap_u64]; omega
  clear hp hh hk hkk
  go_enter Tryz.func121, Tryz.ntmps121
  go_wp2
  go_ret
  exact ⟨rfl, hb⟩
theorem rdu_drop {w : World} {da : Option Addr} {db dO dc H : Nat} {D : List Nat} (h : RdU w da db dO D.length D) (hc : D.length ≤ dc) (hH : H ≤ D.length) (hn : da = none → dc = 0) {ax : Option Addr} (hx : (if dc = H then da else Option.map (fun x => x.add H) da) = ax) : RdU w ax db (dO + H) (D.drop H).length (D.drop H) ∧ (ax = none → dc - H = 0) := by
  refine ⟨⟨rfl, fun h0 => ?_, fun j v hj => ?_⟩, fun e => ?_⟩
  · rw [List.length_drop] at h0
    rw [if_neg (by omega), h.ptr (by omega)] at hx
    rw [← hx]
    simp [Addr.add_mid]
  · have hj : ((D.drop H).map (fun x : Nat => Value.int .u64 (x : Int)))[j]? = some v := hj
    rw [List.map_drop, List.getElem?_drop] at hj
    have := h.rng (H + j) v hj
    rwa [← Nat.add_assoc] at this
  · rw [e] at hx
    split at hx
    · omega
    · have : da = none := by simpa using hx
      have := hn this
      omega
theorem rdu_take {w : World} {da : Option Addr} {db dO : Nat} {D : List Nat} (h : RdU w da db dO D.length D) {H : Nat} (hH : H ≤ D.length) : RdU w da db dO (D.take H).length (D.take H) := by
  refine ⟨rfl, fun h0 => h.ptr ?_, fun j v hj => ?_⟩
  · rw [List.length_take] at h0; omega
  · refine h.rng j v ?_
    have hj : ((D.take H).map (fun x : Nat => Value.int .u64 (x : Int)))[j]? = some v := hj
    rw [List.map_take, List.getElem?_take] at hj
    split at hj
    · exact hj
    · cases hj
structure Gv (w : World) (GB : Nat) (v : Value) (S : List Nat) (X : List ByteArray) : Prop where
  ex : ∃ sa sb so sc xa xb xo xc, v = .agg #[.slice sa S.length sc, .slice xa X.length xc] ∧ RdU w sa sb so S.length S ∧ RdS w xa xb xo X.length X ∧ S.length ≤ sc ∧ X.length ≤ xc ∧ (sa = none → sc = 0) ∧ (xa = none → xc = 0) ∧ (0 < S.length → sb < GB) ∧ (0 < X.length → xb < GB)
variable {GB : Nat}
theorem Gv.next {w W : World} {v : Value} {S : List Nat} {X : List ByteArray} (h : Gv w GB v S X) (hb : Below w.heap.size w W) : Gv W GB v S X := by
  obtain ⟨sa, sb, so, sc, xa, xb, xo, xc, e, r1, r2, h1, h2, h3, h4⟩ := h.ex
  exact ⟨sa, sb, so, sc, xa, xb, xo, xc, e, r1.next hb, r2.next hb (Nat.le_refl _), h1, h2, h3, h4⟩
theorem Gv.low {w W : World} {v : Value} {S : List Nat} {X : List ByteArray} (h : Gv w GB v S X) (hb : Below GB w W) : Gv W GB v S X := by
  obtain ⟨sa, sb, so, sc, xa, xb, xo, xc, e, r1, r2, h1, h2, h3, h4, h5, h6⟩ := h.ex
  refine ⟨sa, sb, so, sc, xa, xb, xo, xc, e, ?_, ?_, h1, h2, h3, h4, h5, h6⟩
  · by_cases h0 : 0 < S.length
    · exact r1.same (hb.block sb (h5 h0))
    · exact ⟨r1.hl, r1.ptr, fun j v hv => absurd (List.getElem?_eq_some_iff.1 hv).1 (by show ¬ j < (S.map _).length; rw [List.length_map]; omega)⟩
  · by_cases h0 : 0 < X.length
    · exact r2.same (hb.block xb (h6 h0))
    · exact ⟨r2.hl, r2.ptr, fun j v hv => absurd (List.getElem?_eq_some_iff.1 hv).1 (by rw [List.length_map]; omega), r2.sz⟩
set_option maxRecDepth 100000 in
set_option maxHeartbeats 1000000 in
theorem cut_any (w : World) (v : Value) (S : List Nat) (X : List ByteArray) (hg : Gv w GB v S X) (hX : X.length = S.length) (hp : Asc S) (hm : S.length ≤ 8796093022208) (x t : Nat) (ht : bl S x = t) :
    Calls Tryz.prog 120 #[v, .int .u64 (x : Int)] w fun e w' => ∃ v1 v2, e = .returned (.tuple #[v1, v2]) ∧ Gv w' GB v1 (S.take t) (X.take t) ∧ Gv w' GB v2 (S.drop t) (X.drop t) ∧ Below w.heap.size w w' := by
  obtain ⟨sa, sb, so, sc, xa, xb, xo, xc, rfl, r1, r2, h1, h2, h3, h4, h5, h6⟩ := hg.ex
  have htl : t ≤ S.length := by rw [← ht]; exact bl_le _ _
  obtain ⟨o1, ho1⟩ : ∃ o1, Obj.cells #[.slice sa S.length sc, .slice xa X.length xc] 160 (0, 0) = o1 := ⟨_, rfl⟩
  obtain ⟨o2, ho2⟩ : ∃ o2, Obj.cells #[.slice none 0 0, .slice none 0 0] 160 (0, 0) = o2 := ⟨_, rfl⟩
  have hb1 := bal (Below.refl w.heap.size w) o1
  have hb3 := bal (bal hb1 o2) o2
  have HF : Calls Tryz.prog 167 #[.slice sa S.length sc, .int .u64 (x : Int)] (((w.alloc o1).alloc o2).alloc o2) fun e w' => e = .returned (.int .i64 (t : Int)) ∧ ((w.alloc o1).alloc o2).alloc o2 = w' := find_any _ sa sb so S.length sc S (r1.next hb3) hp hm x t ht
  have HC : Hid (∀ W, ((w.alloc o1).alloc o2).alloc o2 = W → (W.heap[w.heap.size]? = some o1 ∧ W.heap[w.heap.size + 1]? = some o2 ∧ W.heap[w.heap.size + 2]? = some o2)) := fun W hW => by
    subst hW
    have e1 := heap_alloc_new w o1
    have e2 := heap_alloc_new (w.alloc o1) o2
    have e3 := heap_alloc_new ((w.alloc o1).alloc o2) o2
    rw [World.size_alloc] at e2
    rw [World.size_alloc, World.size_alloc] at e3
    refine ⟨?_, ?_, e3⟩
    · rw [Cv.heap_al o2 (by rw [World.size_alloc, World.size_alloc]; omega), Cv.heap_al o2 (by rw [World.size_alloc]; omega)]; exact e1
    · rw [Cv.heap_al o2 (by rw [World.size_alloc, World.size_alloc]; omega)]; exact e2
  have HG : Hid (RdU w sa sb so S.length S ∧ RdS w xa xb xo X.length X ∧ X.length = S.length ∧ (sa = none → sc = 0) ∧ (xa = none → xc = 0) ∧ (0 < S.length → sb < GB) ∧ (0 < X.length → xb < GB) ∧ Below w.heap.size w (((w.alloc o1).alloc o2).alloc o2)) := ⟨r1, r2, hX, h3, h4, h5, h6, hb3⟩
  rw [hX] at ho1 h2
  rw [← ho1, ← ho2] at HF HC HG
  clear hp ht hg hb1 hb3 r1 r2 ho1 ho2 h3 h4 h5 h6
  rw [hX]
  clear hX
  go_enter Tryz.func120, Tryz.ntmps120
  go_wp2_with (go_at_call 167; with_reducible refine HF.mono ?_; rintro e w' ⟨rfl, hw3⟩)
  obtain ⟨q0, q1, q2⟩ := HC.out _ hw3
  have hg := HG.out
  rw [hw3] at hg
  have c0 : w'.cell? ⟨w.heap.size, 0, none⟩ = some (.slice sa S.length sc) := by rw [cell_of_row _ _ 0 _ _ (0, 0) q0]; rfl
  have c1 : w'.cell? ⟨w.heap.size, 1, none⟩ = some (.slice xa S.length xc) := by rw [cell_of_row _ _ 1 _ _ (0, 0) q0]; rfl
  have d0 : w'.cell? ⟨w.heap.size + 1, 0, none⟩ = some (.slice none 0 0) := by rw [cell_of_row _ _ 0 _ _ (0, 0) q1]; rfl
  have d1 : w'.cell? ⟨w.heap.size + 1, 1, none⟩ = some (.slice none 0 0) := by rw [cell_of_row _ _ 1 _ _ (0, 0) q1]; rfl
  have f0 : w'.cell? ⟨w.heap.size + 1 + 1, 0, none⟩ = some (.slice none 0 0) := by rw [cell_of_row _ _ 0 _ _ (0, 0) q2]; rfl
  have f1 : w'.cell? ⟨w.heap.size + 1 + 1, 1, none⟩ = some (.slice none 0 0) := by rw [cell_of_row _ _ 1 _ _ (0, 0) q2]; rfl
  have z0 := fun j => frozen_of_row w' (w.heap.size + 1) j _ _ q1
  have z1 := fun j => frozen_of_row w' (w.heap.size + 1 + 1) j _ _ q2
  have HQ := hide hg
  have HH := hide (And.intro q1 q2)
  have t0 : (0 : Int) ≤ (t : Int) := Int.natCast_nonneg _
  have t1 : (t : Int) ≤ (sc : Int) := by omega
  have t2 : (t : Int) ≤ (xc : Int) := by omega
  have t3 : (t : Int) ≤ (S.length : Int) := by omega
  clear HF HC HG q0 q1 q2 hg hw3
  go_region
  all_goals obtain ⟨ax, hax⟩ : ∃ ax, (if sc = t then sa else Option.map (fun x => x.add t) sa) = ax := ⟨_, rfl⟩
  all_goals obtain ⟨ay, hay⟩ : ∃ ay, (if xc = t then xa else Option.map (fun x => x.add t) xa) = ay := ⟨_, rfl⟩
  all_goals rw [hax, hay]
  all_goals obtain ⟨r1, r2, hX, h3, h4, h5, h6, hb⟩ := HQ.out
  all_goals obtain ⟨q1, q2⟩ := HH.out
  all_goals have k1 := heap_setCell_same _ _ 1 _ _ (.slice xa t xc) (heap_setCell_same w' (w.heap.size + 1) 0 _ _ (.slice sa t sc) q1)
  all_goals have g1 := ((ChT.refl (fun b => b = w.heap.size + 1) w').set (w.heap.size + 1) 0 (.slice sa t sc) rfl).set (w.heap.size + 1) 1 (.slice xa t xc) rfl
  all_goals generalize (w'.setCell ⟨w.heap.size + 1, 0, none⟩ (.slice sa t sc)).setCell ⟨w.heap.size + 1, 1, none⟩ (.slice xa t xc) = W1 at *
  all_goals have p2 := (g1.block (w.heap.size + 2) (by omega)).trans q2
  all_goals have k2 := heap_setCell_same _ _ 1 _ _ (.slice ay (S.length - t) (xc - t)) (heap_setCell_same W1 (w.heap.size + 1 + 1) 0 _ _ (.slice ax (S.length - t) (sc - t)) p2)
  all_goals have g2 := (((ChT.refl (fun b => b = w.heap.size + 1 + 1) W1).set (w.heap.size + 1 + 1) 0 (.slice ax (S.length - t) (sc - t)) rfl).set (w.heap.size + 1 + 1) 1 (.slice ay (S.length - t) (xc - t)) rfl)
  all_goals generalize (W1.setCell ⟨w.heap.size + 1 + 1, 0, none⟩ (.slice ax (S.length - t) (sc - t))).setCell ⟨w.heap.size + 1 + 1, 1, none⟩ (.slice ay (S.length - t) (xc - t)) = W2 at *
  all_goals have k1 := (g2.block (w.heap.size + 1) (by omega)).trans k1
  all_goals have hb2 := ((hb.trans (g1.below (B := w.heap.size) (by rintro b rfl; omega))).trans (g2.below (B := w.heap.size) (by rintro b rfl; omega))).drew
  all_goals have c0 : W2.drew.cell? ⟨w.heap.size + 1, 0, none⟩ = some (.slice sa t sc) := by rw [cell_of_row W2.drew _ 0 _ _ (0, 0) k1]; rfl
  all_goals have c1 : W2.drew.cell? ⟨w.heap.size + 1, 1, none⟩ = some (.slice xa t xc) := by rw [cell_of_row W2.drew _ 1 _ _ (0, 0) k1]; rfl
  all_goals have c2 : W2.drew.cell? ⟨w.heap.size + 1 + 1, 0, none⟩ = some (.slice ax (S.length - t) (sc - t)) := by rw [cell_of_row W2.drew _ 0 _ _ (0, 0) k2]; rfl
  all_goals have c3 : W2.drew.cell? ⟨w.heap.size + 1 + 1, 1, none⟩ = some (.slice ay (S.length - t) (xc - t)) := by rw [cell_of_row W2.drew _ 1 _ _ (0, 0) k2]; rfl
  all_goals generalize W2.drew = W3 at *
  all_goals clear k1 k2 g1 g2 p2 q1 q2 HH HQ d0 d1 f0 f1 z0 z1
  all_goals go_wp2
  all_goals refine bodyPost_ret (v := .tuple #[.agg #[.slice sa t sc, .slice xa t xc], .agg #[.slice ax (S.length - t) (sc - t), .slice ay (S.length - t) (xc - t)]]) (by simp [results, Tryz.results120, go_sem, c0, c1, c2, c3]) rfl ⟨_, _, rfl, ?_, ?_, hb2⟩
  · have l1 : (S.take t).length = t := by rw [List.length_take]; omega
    have l2 : (X.take t).length = t := by rw [List.length_take]; omega
    have u1 := rdu_take (r1.next hb2) (H := t) htl
    have u2 := rds_take (r2.next hb2 (Nat.le_refl _)) (H := t) (by omega)
    rw [l1] at u1; rw [l2] at u2
    exact ⟨sa, sb, so, sc, xa, xb, xo, xc, by rw [l1, l2], by rw [l1]; exact u1, by rw [l2]; exact u2, by omega, by omega, h3, h4, fun h => h5 (by omega), fun h => h6 (by omega)⟩
  · have l1 : (S.drop t).length = S.length - t := List.length_drop
    have l2 : (X.drop t).length = S.length - t := by rw [List.length_drop, hX]
    obtain ⟨u1, n1⟩ := rdu_drop (r1.next hb2) (H := t) h1 htl h3 hax
    obtain ⟨u2, n2⟩ := rds_drop (r2.next hb2 (Nat.le_refl _)) (H := t) (by omega) (by omega) h4 hay
    exact ⟨ax, sb, so + t, sc - t, ay, xb, xo + t, xc - t, by rw [l1, l2], u1, u2, by omega, by omega, n1, n2, fun h => h5 (by omega), fun h => h6 (by omega)⟩
end Go.Proofs.YtdocjikpcbmcgaaGreatDoor
