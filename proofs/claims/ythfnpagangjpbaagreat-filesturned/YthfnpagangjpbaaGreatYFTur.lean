/-
  FilesTurned. Own work.
-/
import Derived.Test.YthfnpagangjpbaaGreatYFTuQ
import Derived.Test.YthfnpagangjpbaaGreatZ37
namespace Go.Proofs.YthfnpagangjpbaaGreat
open Go.RowKit
open Rc
attribute [local go_sem ↓] Go.wp_at_zero Go.wp_at_succ
theorem two_box (w : World) (x y : Int) (ty : Nat) (W : World) (h : Below (w.alloc (.cells #[.int .i64 x, .int .i64 y] ty)).heap.size (w.alloc (.cells #[.int .i64 x, .int .i64 y] ty)) W) : W.cell? ⟨w.heap.size, 0, none⟩ = some (.int .i64 x) ∧ W.cell? ⟨w.heap.size, 1, none⟩ = some (.int .i64 y) := by
  have hr := range_below h (by rw [al_size]; exact Nat.lt_succ_self _) (range_new w [.int .i64 x, .int .i64 y] ty)
  exact ⟨hr 0 _ rfl, hr 1 _ rfl⟩
theorem ownF_free {w : World} {B g n cap : Nat} {l : List (List UInt8 × List UInt8)} (h : OwnF w B (.slice (some ⟨g, 0, none⟩) n cap) l) (hl : 0 < l.length) (i : Nat) : w.frozen? ⟨g, i, none⟩ = false := by
  rcases h.2 with ⟨hv, h0⟩ | ⟨g', cap', cur, hv, hg, hh, h1, h2, h3, h4⟩
  · omega
  · obtain ⟨e1, _, _⟩ := Value.slice.inj hv
    cases e1
    exact frozen_of_row w g i cur _ hh
theorem Mvd.files3 {w W : World} {p : Nat} {S0 : Nat → Prop} {D : DV} (h : Mvd w W p S0 D) (l : List (List UInt8 × List UInt8)) (he : tell D.L = l) :
    Calls Tryz.prog 21 #[.pointer (some ⟨p, 0, none⟩)] W fun e w' => ∃ ao b c, e = .returned (.slice ao l.length c) ∧ RdF w' ao b 0 l ∧ Below W.heap.size W w' ∧ (0 < l.length → W.heap.size ≤ b ∧ ∀ i, w'.frozen? ⟨b, i, none⟩ = false) := by
  obtain ⟨S1, h1, _⟩ := h
  rw [← he]
  refine h1.files.mono fun e w' z => ?_
  obtain ⟨v, q1, q2, q3⟩ := z
  have q2' := q2
  obtain ⟨ao, b, c, rfl, q4, _, q5⟩ := ownF_rd q2
  refine ⟨ao, b, c, q1, q4, q3, fun h0 => ⟨q5 h0, fun i => ?_⟩⟩
  obtain rfl := q4.ptr h0
  exact ownF_free q2' h0 i
theorem rdf_set {w : World} {b : Nat} {l : List (List UInt8 × List UInt8)} (h : RdF w (some ⟨b, 0, none⟩) b 0 l) (i : Nat) (s t t' : List UInt8) (hi : l[i]? = some (s, t)) (U : ByteArray) (hU : U = ⟨t'.toArray⟩) : RdF (w.setCell ⟨b, i * 2 + 1, none⟩ (.string U)) (some ⟨b, 0, none⟩) b 0 (l.set i (s, t')) := by
  have hil := (List.getElem?_eq_some_iff.1 hi).1
  refine ⟨fun _ => rfl, fun j hj => ?_, fun j hj => ?_⟩
  · rw [List.length_set] at hj
    rw [World.cell?_setCell_other _ _ _ _ (fun e' => by have := congrArg Addr.off e'; simp at this; omega), h.c0 j hj]
    congr 3
    rw [List.getD_eq_getElem?_getD, List.getD_eq_getElem?_getD, List.getElem?_set]
    by_cases e : i = j
    · subst e; rw [if_pos rfl, if_pos hil, hi]; rfl
    · rw [if_neg e]
  · rw [List.length_set] at hj
    by_cases e : i = j
    · subst e
      have hc := h.c1 i hj
      rw [Nat.zero_add] at hc ⊢
      rw [World.cell?_setCell_same w _ _ (by rw [hc]), hU, List.getD_eq_getElem?_getD, List.getElem?_set, if_pos rfl, if_pos hil]; rfl
    · rw [World.cell?_setCell_other _ _ _ _ (fun e' => by have := congrArg Addr.off e'; simp at this; omega), h.c1 j hj]
      congr 3
      rw [List.getD_eq_getElem?_getD, List.getD_eq_getElem?_getD, List.getElem?_set, if_neg e]
theorem nm_len {k : Nat} {A : List It} {L : List (List UInt8 × FV)} (ho : Ord L) (he : Ext k A L) (y : List UInt8 × List UInt8) (hy : y ∈ tell L) : y.1.length ≤ maxLen := by
  obtain ⟨e1, e2⟩ := he.all ho
  have hst : fget L y.1 = ⟨y.2, y.2⟩ := fget_mem ho (by rw [e1]; exact List.mem_map.2 ⟨y, hy, rfl⟩)
  by_cases h1 : y.1 = nmI
  · rw [h1]; decide
  · by_cases h2 : y.1 = nmN
    · rw [h2]; decide
    · by_cases h3 : y.1 = nmM
      · rw [h3]; decide
      · rw [he.oth _ h1 h2 h3] at hst
        exact absurd (congrArg FV.now hst).symm (e2 y hy)
theorem uint_of (x : Int) : ∃ u : Nat, u < 18446744073709551616 ∧ IntKind.u64.wrap x = (u : Int) := by
  refine ⟨(x % 18446744073709551616).toNat, by omega, ?_⟩
  show x % 18446744073709551616 = _
  omega
set_option maxRecDepth 100000 in
set_option maxHeartbeats 4000000 in
theorem turned_walk (w : World) (k0 : Int) (ao : Option Addr) (b off len cap : Nat) (ss : List ByteArray) (hr : RdS w ao b off len ss) (hmx : len ≤ 9223372036854775807) (x0 x1 : Int) :
    Calls Tryz.prog 7 #[.int .i64 k0, .slice ao len cap, .agg #[.int .i64 x0, .int .i64 x1]] w fun e w' => e = .returned (.bool true) ∧ Below w.heap.size w w' := by
  obtain ⟨k, L, n, hB⟩ := beg_any w k0 ao b off len cap ss hr hmx
  have HSt := hide hB.st
  have HL := hide hB.ls
  have HM := hide hB.md
  have HA := hide falive_any
  have HN : Hid (∀ W, Calls Tryz.prog 12 #[.int .i64 1048576] W fun e w' => ∃ p, e = .returned (.pointer (some ⟨p, 0, none⟩)) ∧ Mvd W w' p NoB (newD 1048576)) := fun W => mvd_new W 1048576 (by decide)
  have hn12 := hB.n12
  have hkk2 := hB.k2
  go_enter Tryz.func7, Tryz.ntmps7
  go_upto_region 9 with (first
    | (go_at_call 9; (with_reducible refine (HA.out _).mono ?_); rintro e w1 ⟨rfl, u1⟩)
    | (go_at_call 10; (with_reducible refine (HSt.out _).mono ?_); rintro e wa ⟨rfl, rfl⟩)
    | (go_at_call 11; (with_reducible refine (HL.out _ (bnext (bal (Below.refl _ _) _) u1)).mono ?_); rintro e w2 ⟨la, lb, lc, rfl, rd, u2, _⟩)
    | (go_at_call 12; (with_reducible refine (HN.out _).mono ?_); rintro e w3 ⟨p, rfl, t3⟩)
    | (go_at_call 17; (with_reducible refine (HM.out _ _ _ _ _ _ t3 rd).mono ?_); rintro e w4 ⟨q, D1, rfl, t4, q4, x4, a4⟩)
    | (go_at_call 21; (with_reducible refine (t4.mvd.files3 _ rfl).mono ?_); rintro e w6 ⟨fa, fb, fc, rfl, r6, u6, hb6⟩))
  have V6 : Below w2.heap.size w2 w6 := bnext t4.mvd.nob u6
  have hW2 : Below w.heap.size w w2 := bnext (bal (Below.refl _ _) _) (bnext u1 u2)
  have hW6 : Below w.heap.size w w6 := bnext hW2 V6
  have HBx := hide (fun W h => two_box w x0 x1 50 W (bnext (bnext u1 u2) (bnext V6 h)))
  have hb6x := HBx.out w6 (Below.refl _ _)
  obtain ⟨F, hF⟩ : ∃ F, tell D1.L = F := ⟨_, rfl⟩
  obtain ⟨fn, hfn⟩ : ∃ n, F.length = n := ⟨_, rfl⟩
  have HTr := hide (fun i nb s t hi hn y hy => turned_all (i := i) (n := nb) (s := s) (t := t) (hB.sml.ok hB.k1 hB.k2) q4 (by decide) x4 hi hn y hy)
  have hnml := nm_len q4.ord x4
  rw [hF] at r6 hb6 HTr hnml
  rw [hF, hfn]
  have hok := hB.sml.ok hB.k1 hB.k2
  have hall := x4.all q4.ord
  rw [hF] at hall
  have hfn3 : fn ≤ 3 := by
    have h1 := tell_le D1.L
    have h2 := (tot_three q4.ord x4.oth).2
    rw [hF] at h1; omega
  have hzero : fn = 0 → n = 0 := fun h0 => by
    have e0 : F = [] := List.length_eq_zero_iff.1 (by omega)
    have e1 := hall.1
    rw [e0] at e1
    have e2 := x4.m
    rw [e1] at e2
    have e3 : (bA k (itA k L)).m = [] := (congrArg FV.now e2).symm
    have e4 := hok.lens.m
    rw [e3, itA_len, hB.ln] at e4
    simp at e4
    omega
  by_cases h0 : fn = 0
  · have n0 := hzero h0
    subst h0
    subst n0
    go_wp2
    go_ret
    exact ⟨rfl, hW6⟩
  · obtain ⟨u0, hu0, eu0⟩ := uint_of x0
    obtain ⟨u1, hu1, eu1⟩ := uint_of x1
    obtain rfl := r6.ptr (by omega)
    have hb0 : ¬ (fn : Int) = 0 := by omega
    have wfn : IntKind.u64.wrap (fn : Int) = (fn : Int) := wrap_u _ (by omega) (by omega)
    obtain ⟨i, hi⟩ : ∃ i, u0 % fn = i := ⟨_, rfl⟩
    have hilt : i < fn := by rw [← hi]; exact Nat.mod_lt _ (by omega)
    have em : (u0 : Int) % (fn : Int) = (i : Int) := by rw [← hi]; rfl
    have wi : IntKind.i64.wrap (i : Int) = (i : Int) := by rw [IntKind.wrap_i64]; omega
    have hzi : (i : Int) < (fn : Int) := by omega
    obtain ⟨st, hst⟩ : ∃ st, F[i]? = some st := ⟨_, List.getElem?_eq_getElem (by omega)⟩
    obtain ⟨s, t⟩ := st
    have c1 := r6.c1 i (by omega)
    rw [Nat.zero_add, List.getD_eq_getElem?_getD, hst] at c1
    have c1' : w6.cell? ⟨fb, i * 2 + 1, none⟩ = some (.string (tx t)) := c1
    clear c1
    obtain ⟨tn, htn⟩ : ∃ tn, (tx t).size = tn := ⟨_, rfl⟩
    obtain ⟨cp, w7, hcv, hcp, hby, u7, hs7⟩ := bytes_of w6 (tx t) tn htn
    have b7 := HBx.out w7 u7
    have ht0 : 0 < tn := by
      have := hall.2 (s, t) (List.mem_of_getElem? hst)
      rw [← htn, tx_size]
      exact List.length_pos_iff.2 this
    have htl : t.length = tn := by rw [← htn, tx_size]
    have htn2 : tn ≤ 268435456 := by
      have h1 := byt_mem F (s, t) (List.mem_of_getElem? hst)
      have h2 := q4.tot
      rw [hall.1, tot_allS] at h2
      show tn ≤ _
      have h3 : t.length ≤ byt F := h1
      omega
    have wtn : IntKind.u64.wrap (tn : Int) = (tn : Int) := wrap_u _ (by omega) (by omega)
    have htz : ¬ (tn : Int) = 0 := by omega
    obtain ⟨m, hm⟩ : ∃ m, u1 % tn = m := ⟨_, rfl⟩
    have hmlt : m < tn := by rw [← hm]; exact Nat.mod_lt _ ht0
    have emm : (u1 : Int) % (tn : Int) = (m : Int) := by rw [← hm]; rfl
    have wm : IntKind.i64.wrap (m : Int) = (m : Int) := by rw [IntKind.wrap_i64]; omega
    have hzm : (m : Int) < (tn : Int) := by omega
    obtain ⟨z, hz⟩ : ∃ z, u1 / tn = z := ⟨_, rfl⟩
    have ez : (u1 : Int).tdiv (tn : Int) = (z : Int) := by rw [← hz]; rfl
    have ez' : (u1 : Int) / (tn : Int) = (z : Int) := by rw [← hz]; rfl
    obtain ⟨z5, hz5⟩ : ∃ z5, z % 255 = z5 := ⟨_, rfl⟩
    have ez5 : (z : Int) % 255 = (z5 : Int) := by rw [← hz5]; rfl
    have hz5' : z5 < 255 := by omega
    have hzl : z < 18446744073709551616 := by rw [← hz]; exact Nat.lt_of_le_of_lt (Nat.div_le_self _ _) hu1
    have wz0 : IntKind.u64.wrap (z : Int) = (z : Int) := wrap_u _ (by omega) (by omega)
    have ez6 : (z : Int).tmod 255 = (z5 : Int) := by rw [← hz5]; rfl
    have wz3 : (1 + (z5 : Int)) % 256 = 1 + (z5 : Int) := by omega
    have wz1 : IntKind.u64.wrap (1 + (z5 : Int)) = 1 + (z5 : Int) := wrap_u _ (by omega) (by omega)
    have wz2 : IntKind.u8.wrap (1 + (z5 : Int)) = 1 + (z5 : Int) := by show (1 + (z5 : Int)) % 256 = _; omega
    obtain ⟨hfb, hfr⟩ := hb6 (by omega)
    obtain ⟨v, hv⟩ : ∃ v : UInt8, t.getD m 0 ^^^ UInt8.ofNat (1 + z5) = v := ⟨_, rfl⟩
    have hvy : (UInt8.ofNat (1 + z5)).toNat = 1 + z5 := by rw [UInt8.toNat_ofNat']; omega
    have hvne : v ≠ t.getD m 0 := by
      rw [← hv]
      refine xor_ne _ _ fun q => ?_
      rw [q] at hvy
      have h0 : (0 : UInt8).toNat = 0 := rfl
      omega
    obtain ⟨g, hg⟩ : ∃ g, w6.heap.size = g := ⟨_, rfl⟩
    rw [hg] at hcv hby hs7
    have c7 := hby.at (j := m) (by rw [tx_data, htl]; exact hmlt)
    have f7 := hby.free (j := m) (by rw [tx_data, htl]; exact hmlt)
    rw [tx_data] at c7 hby
    obtain ⟨t5, ht5⟩ : ∃ x, (t.getD m 0).toNat = x := ⟨_, rfl⟩
    rw [ht5] at c7
    have x5 : bits .xor .u8 (t5 : Int) (1 + (z5 : Int)) = (v.toNat : Int) := by
      rw [← ht5, ← hv, show (1 + (z5 : Int)) = ((UInt8.ofNat (1 + z5)).toNat : Int) by rw [hvy]; omega, u8_xor_nat _ _ (UInt8.toNat_lt _) (UInt8.toNat_lt _), UInt8.toNat_xor]
    obtain ⟨w8, hw8⟩ : ∃ w8, w7.setCell ⟨g, m, none⟩ (.int .u8 (v.toNat : Int)) = w8 := ⟨_, rfl⟩
    obtain ⟨U, hU⟩ : ∃ U : ByteArray, (⟨(t.set m v).toArray⟩ : ByteArray) = U := ⟨_, rfl⟩
    have hy8 : Byt w8 g (t.set m v) := by rw [← hw8]; exact hby.set m v _ rfl
    have cv8 := hy8.conv (k := 0) (n := tn) (by rw [List.length_set]; omega) 0 (fun _ => rfl) cp U (by rw [List.drop_zero, List.take_of_length_le (by rw [List.length_set]; omega)]; exact hU)
    have hfg : fb < g := by rw [← hg]; exact r6.lt (by omega)
    have hfb7 : w7.heap[fb]? = w6.heap[fb]? := u7.block fb (by omega)
    have hfb8 : w8.heap[fb]? = w6.heap[fb]? := by rw [← hw8, Below.heap_setCell _ _ _ _ (by show fb ≠ g; omega)]; exact hfb7
    have r8 : RdF w8 (some ⟨fb, 0, none⟩) fb 0 F := r6.same fun _ => hfb8
    have c8 : w8.cell? ⟨fb, i * 2 + 1, none⟩ = some (.string (tx t)) := (World.cell?_of_block (a := ⟨fb, i * 2 + 1, none⟩) hfb8).trans c1'
    have f8 : w8.frozen? ⟨fb, i * 2 + 1, none⟩ = false := (World.frozen?_of_block (a := ⟨fb, i * 2 + 1, none⟩) hfb8).trans (hfr _)
    obtain ⟨w9, hw9⟩ : ∃ w9, w8.setCell ⟨fb, i * 2 + 1, none⟩ (.string U) = w9 := ⟨_, rfl⟩
    have r9 := rdf_set r8 i s t (t.set m v) hst U hU.symm
    rw [hw9] at r9
    have hT := HTr.out i m s t hst (by omega) v hvne
    obtain ⟨G, hG⟩ : ∃ G, F.set i (s, t.set m v) = G := ⟨_, rfl⟩
    have hGl : G.length = fn := by rw [← hG, List.length_set, hfn]
    have hws : w.heap.size ≤ w6.heap.size := hW6.size
    have hwf : w.heap.size ≤ fb := by
      have h1 := hW2.size
      have h2 := t4.mvd.nob.size
      omega
    have U9 : Below w.heap.size w w9 := by
      rw [← hw9, ← hw8]
      exact ((bnext hW6 u7).setCell (by show w.heap.size ≤ g; omega) _).setCell hwf _
    rw [hG] at r9 hT
    have HO : Hid (Calls Tryz.prog 26 #[.int .i64 1048576, .slice (some ⟨fb, 0, none⟩) fn fc] w9 fun e w' => ∃ p, e = .returned (.tuple #[.pointer (some ⟨p, 0, none⟩), .int .i64 0]) ∧ Mvd w9 w' p NoB (openD 1048576 G)) := by
      have := open_yes w9 1048576 (by decide) (some ⟨fb, 0, none⟩) fb 0 fc G r9 (fun x hx => by
        have h1 : x.1 ∈ G.map (·.1) := List.mem_map.2 ⟨x, hx, rfl⟩
        rw [← hG, map_set s t _ F i hst] at h1
        obtain ⟨y, hy1, hy2⟩ := List.mem_map.1 h1
        rw [← hy2]
        exact hnml y hy1) (by omega) hT.can hT.byt
      rw [hGl] at this
      exact this.mono fun e w' z => by
        obtain ⟨p, S, z1, z2, z3, z4⟩ := z
        exact ⟨p, z1, S, z2, fun x hx => .inr (z3 x hx), Upo.of z4⟩
    have HFo : Hid (∀ W q, Mvd w9 W q NoB (openD 1048576 G) → Calls Tryz.prog 13 #[.pointer (some ⟨q, 0, none⟩), .int .i64 (k : Int)] W fun e w' => e = .returned (.tuple #[.pointer none, .int .i64 190]) ∧ Mvd w9 w' q NoB (openD 1048576 G)) := fun W q h => h.open0 ⟨by show 0 + 7 ≤ _; decide, by show (layL G).length + 7 ≤ _; have := layL_len G; omega, by show 1048576 - byt G + 268435456 * 7 ≤ _; omega⟩ (k : Int) 190 (turned_open hT hB.k1 hB.k2)
    have HAc : Hid (∀ W q, Mvd w9 W q NoB (openD 1048576 G) → Calls Tryz.prog 18 #[.pointer (some ⟨q, 0, none⟩)] W fun e w' => e = .returned (.int .i64 0) ∧ w' = W) := fun W q h => h.acts1 0 rfl
    have HFi : Hid (∀ W q, Mvd w9 W q NoB (openD 1048576 G) → Calls Tryz.prog 21 #[.pointer (some ⟨q, 0, none⟩)] W fun e w' => ∃ ga gb gc, e = .returned (.slice ga fn gc) ∧ RdF w' ga gb 0 G ∧ Mvd w9 w' q NoB (openD 1048576 G)) := fun W q h => by
      refine (h.files1 G hT.tell).mono fun e w' z => ?_
      obtain ⟨ga, gb, gc, z1, z2, z3⟩ := z
      rw [hGl] at z1
      exact ⟨ga, gb, gc, z1, z2, h.then z3⟩
    have HSm : Hid (∀ W q a1 b1 c1, Mvd w9 W q NoB (openD 1048576 G) → RdF W a1 b1 0 G → Calls Tryz.prog 22 #[.slice a1 fn c1, .slice (some ⟨fb, 0, none⟩) fn fc] W fun e w' => e = .returned (.bool true) ∧ Mvd w9 w' q NoB (openD 1048576 G)) := fun W q a1 b1 c1 h r1 => by
      have := same_yes W G a1 b1 0 c1 r1 (some ⟨fb, 0, none⟩) fb 0 fc (h.rdf r9 (fun _ q => q)) (by omega)
      rw [hGl] at this
      exact this.mono fun e w' z => ⟨z.1, h.then z.2⟩
    have HU9 := hide U9
    clear hB HA HSt HL HN HM hr HTr hT r9 r8 r6 hall hnml hy8 hby U9 q4 x4 hst hGl hG hU
    go_wp2_with (first
      | (go_at_call 26; (with_reducible refine HO.out.mono ?_); rintro e y1 ⟨p9, rfl, d1⟩)
      | (go_at_call 13; (with_reducible refine (HFo.out _ _ d1).mono ?_); rintro e y2 ⟨rfl, d2⟩)
      | (go_at_call 18; (with_reducible refine (HAc.out _ _ d2).mono ?_); rintro e wa ⟨rfl, rfl⟩)
      | (go_at_call 21; (with_reducible refine (HFi.out _ _ d2).mono ?_); rintro e y3 ⟨ga, gb, gc, rfl, g3, d3⟩)
      | (go_at_call 22; (with_reducible refine (HSm.out _ _ _ _ _ d3 g3).mono ?_); rintro e y4 ⟨rfl, d4⟩))
    go_ret
    exact ⟨rfl, bnext HU9.out d4.nob⟩
end Go.Proofs.YthfnpagangjpbaaGreat
