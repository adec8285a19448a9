/-
  Own work: FHe.
-/
import Derived.Test.YthfnpagangjpbabGreatV63
namespace Go.Proofs.YthfnpagangjpbabGreat
open Go.RowKit
open Rc
attribute [local go_sem ↓] Go.wp_at_zero Go.wp_at_succ
theorem ownF_freeT {w : World} {B g n cap : Nat} {l : List (List UInt8 × List UInt8)} (h : OwnF w B (.slice (some ⟨g, 0, none⟩) n cap) l) (hl : 0 < l.length) (i : Nat) : w.frozen? ⟨g, i, none⟩ = false := by
  rcases h.2 with ⟨hv, h0⟩ | ⟨g', cap', cur, hv, hg, hh, h1, h2, h3, h4⟩
  · omega
  · obtain ⟨e1, _, _⟩ := Value.slice.inj hv
    cases e1
    exact frozen_of_row w g i cur _ hh
theorem rdf_setT {w : World} {b : Nat} {l : List (List UInt8 × List UInt8)} (h : RdF w (some ⟨b, 0, none⟩) b 0 l) (i : Nat) (s t t' : List UInt8) (hi : l[i]? = some (s, t)) (U : ByteArray) (hU : U = ⟨t'.toArray⟩) : RdF (w.setCell ⟨b, i * 2 + 1, none⟩ (.string U)) (some ⟨b, 0, none⟩) b 0 (l.set i (s, t')) := by
  have hil := (List.getElem?_eq_some_iff.1 hi).1
  refine ⟨fun _ => rfl, fun j hj => ?_, fun j hj => ?_⟩
  · rw [List.length_set] at hj
    rw [World.cell?_setCell_other _ _ _ _ (fun e' => by have := congrArg Addr.off e'; simp at this; omega), h.c0 j hj]
    congr 3
    rw [List.getD_eq_getElem?_getD, List.getD_eq_getElem?_getD, List.getElem?_set]
    by_cases e : i = j
    · subst e; rw [if_pos rfl, if_pos hil, hi]; rfl
    · rw [if_neg e]
  · rw [List.length_set] at hj
    by_cases e : i = j
    · subst e
      have hc := h.c1 i hj
      rw [Nat.zero_add] at hc ⊢
      rw [World.cell?_setCell_same w _ _ (by rw [hc]), hU, List.getD_eq_getElem?_getD, List.getElem?_set, if_pos rfl, if_pos hil]; rfl
    · rw [World.cell?_setCell_other _ _ _ _ (fun e' => by have := congrArg Addr.off e'; simp at this; omega), h.c1 j hj]
      congr 3
      rw [List.getD_eq_getElem?_getD, List.getD_eq_getElem?_getD, List.getElem?_set, if_neg e]
theorem uint_ofT (x : Int) : ∃ u : Nat, u < 18446744073709551616 ∧ IntKind.u64.wrap x = (u : Int) := by
  refine ⟨(x % 18446744073709551616).toNat, by omega, ?_⟩
  show x % 18446744073709551616 = _
  omega
section
variable {w0 w W : World} {bx p r n c : Nat} {k : Int} {D : DV} {so : Option (Nat × Nat × SV)} {sv qv : Value}
theorem Bdk.files (h : Bdk w0 w bx k p r D sv qv n) (F : LF) (hF : Go.Proofs.YthfnpagangjpbabGreat.tell D.L = F) (fl : Nat) (hfl : F.length = fl) :
    Calls Tryz.prog 48 #[.pointer (some ⟨r, 0, none⟩)] w fun e w' => ∃ a b c, e = .returned (.slice a fl c) ∧ RdF w' a b 0 F ∧ (0 < fl → w.heap.size ≤ b ∧ ∀ i, w'.frozen? ⟨b, i, none⟩ = false) ∧ Below w.heap.size w w' := by
  obtain ⟨V, T, U, h1, h2, h3, h4, h5, h6, h7, h8, h9, h10, hb⟩ := h
  refine (h3.files ((hb.sim.tell).symm.trans hF)).mono fun e w' q => ?_
  obtain ⟨v, q1, q2, q3⟩ := q
  have q2' := q2
  obtain ⟨a, b, c, rfl, q4, _, q5⟩ := ownF_rd q2
  rw [hfl] at q1
  refine ⟨a, b, c, q1, q4, fun h0 => ⟨q5 (by omega), fun i => ?_⟩, q3⟩
  obtain rfl := q4.ptr (by omega)
  exact ownF_freeT q2' (by omega) i
set_option maxRecDepth 100000 in
set_option maxHeartbeats 8000000 in
theorem turned_any (h : Bth w0 w bx k p r D so n) (hn : n + 6 ≤ 2097152) (hw : Wt D c) (hc : c ≤ 16777216) (kind : Int) (it : ByteArray) (da : Option Addr) (dn dc : Nat) (rg : Bool) (an : Nat) (han : an < 18446744073709551616) (nn' ft : Int) (yb : UInt8) (ka : Option Addr) (kc kn : Nat) (kk : Int) :
    Calls Tryz.prog 41 #[.pointer (some ⟨bx, 0, none⟩), .agg #[.int .i64 kind, .string it, .slice da dn dc, .bool rg, .int .u64 (an : Int), .int .i64 nn', .int .i64 ft, .int .u8 ((yb.toNat : Nat) : Int), .slice ka kn kc, .int .i64 kk]] w (StQ w0 bx k (n + 6) c) := by
  obtain ⟨w1, hw1⟩ : ∃ W, w.alloc (.cells #[.int .i64 kind, .string it, .slice da dn dc, .bool rg, .int .u64 (an : Int), .int .i64 nn', .int .i64 ft, .int .u8 ((yb.toNat : Nat) : Int), .slice ka kn kc, .int .i64 kk] 51) = W := ⟨_, rfl⟩
  have HW := hide hw1
  obtain ⟨bo, hbo⟩ : ∃ b, w.heap.size = b := ⟨_, rfl⟩
  have HBo := hide hbo
  have u1 : Below w.heap.size w w1 := by rw [← hw1]; exact bal (Below.refl _ _) _
  have s1 : w1.heap.size = bo + 1 := by rw [← hw1, al_size, hbo]
  have k1 : w1.heap[bo]? = some (.cells #[.int .i64 kind, .string it, .slice da dn dc, .bool rg, .int .u64 (an : Int), .int .i64 nn', .int .i64 ft, .int .u8 ((yb.toNat : Nat) : Int), .slice ka kn kc, .int .i64 kk] 51 (0, 0)) := by rw [← hw1, ← hbo]; exact new1 _ _
  have hd := h.dk
  have hlt := hd.lt
  obtain ⟨F, hF⟩ : ∃ F, tell D.L = F := ⟨_, rfl⟩
  obtain ⟨fl, hfl⟩ : ∃ m, F.length = m := ⟨_, rfl⟩
  obtain ⟨hS, hnm, hby, hln⟩ := hd.tell hw
  rw [hF] at hS hnm hby hln
  have HFi : Hid (Calls Tryz.prog 48 #[.pointer (some ⟨r, 0, none⟩)] w1 fun e w' => ∃ a b c, e = .returned (.slice a fl c) ∧ RdF w' a b 0 F ∧ (0 < fl → w1.heap.size ≤ b ∧ ∀ i, w'.frozen? ⟨b, i, none⟩ = false) ∧ Below w1.heap.size w1 w') := (hd.next u1).files F hF fl hfl
  have HCb : Hid (∀ W : World, W.heap[bo]? = w1.heap[bo]? → W.cell? ⟨bo, 4, none⟩ = some (.int .u64 (an : Int)) ∧ W.cell? ⟨bo, 5, none⟩ = some (.int .i64 nn') ∧ W.cell? ⟨bo, 7, none⟩ = some (.int .u8 ((yb.toNat : Nat) : Int)) ∧ W.cell? ⟨bo, 9, none⟩ = some (.int .i64 kk)) := fun W hW => by
    obtain ⟨_, _, _, _, z4, z5, _, z7, _, z9⟩ := ten_at (hW.trans k1)
    exact ⟨z4, z5, z7, z9⟩
  have hC2 : w1.cell? ⟨bx, 2, none⟩ = some (.pointer (some ⟨r, 0, none⟩)) := (five_at (hd.next u1).keep.1).2.2.1
  have HZ0 : Hid (∀ W, Below w1.heap.size w1 W → StQ w0 bx k (n + 6) c (.returned (.bool true)) W) := fun W hW => by
    have hx := h.next (bnext u1 hW)
    obtain ⟨V, T, U, g1, g2, g3, g4, g5, g6, g7, g8, g9, gA⟩ := hx
    exact ⟨rfl, p, r, D, so, ⟨V, T, U, g1, g2, g3, g4, g5, g6, g7, g8, g9, gA.mono (by omega) hn⟩, hw⟩
  have HLd : Hid (∀ (W : World) (G : LF) (a : Option Addr) (b c' : Nat), Below w.heap.size w W → bo < W.heap.size → W.heap[bo]? = w1.heap[bo]? → RdF W a b 0 G → G.length = fl → Sor G → (∀ x ∈ G, x.1.length ≤ maxLen) → byt G ≤ c → Calls Tryz.prog 89 #[.pointer (some ⟨bx, 0, none⟩), .slice a fl c'] W fun e w' => e = .returned (.bool true) ∧ (∃ p r, Bdk w0 w' bx k p r (openD 16777216 G) (.pointer none) (.pointer none) n) ∧ w'.cell? ⟨bo, 9, none⟩ = some (.int .i64 kk)) := fun W G a b c' hW hbW hbk hr hG hSG hnG hbG =>
    (blaid_any (hd.next hW) (by omega) a b c' fl G hr hG (by omega) hSG hnG (by omega)).mono fun e w' z => ⟨z.1, z.2.1, by
      have kk2 := ((z.2.2.block bo hbW (fun e => by omega)).trans hbk).trans k1
      obtain ⟨_, _, _, _, _, _, _, _, _, z9⟩ := ten_at kk2
      exact z9⟩
  have HOp : Hid (∀ (W : World) (G : LF) (p r : Nat), Sor G → byt G ≤ c → Bdk w0 W bx k p r (openD 16777216 G) (.pointer none) (.pointer none) n → Calls Tryz.prog 8 #[.pointer (some ⟨bx, 0, none⟩), .int .i64 kk] W (StQ w0 bx k (n + 6) c)) := fun W G p r hSG hbG hB => reopen hSG hbG hn hB kk
  have HX : Hid (Sor F ∧ (∀ x ∈ F, x.1.length ≤ maxLen) ∧ byt F ≤ c ∧ F.length = fl ∧ fl ≤ n ∧ n ≤ 2097152 ∧ c ≤ 16777216 ∧ bo < w1.heap.size ∧ Below w.heap.size w w1) := ⟨hS, hnm, hby, hfl, by omega, by omega, hc, by omega, u1⟩
  obtain ⟨x4, x5, x7, x9⟩ := HCb.out w1 rfl
  clear h hd hn hw hc hw1 hbo u1 k1 hlt hF hfl hS hnm hby hln s1
  go_enter Tryz.func41, Tryz.ntmps41
  go_upto_region 1 with (fail)
  rw [HW.out, HBo.out]
  go_upto_region 2 with (go_at_call 48; (with_reducible refine HFi.out.mono ?_); rintro e w6 ⟨fa, fb, fc, rfl, r6, hb6, u6⟩)
  by_cases h0 : fl = 0
  · subst h0
    have HZ := hide (HZ0.out _ u6)
    clear r6 hb6 u6 HLd HOp HX HZ0 HFi
    go_wp2
    go_ret
    exact HZ.out
  · have HU6 := hide u6
    have HbW : Hid (bo < w6.heap.size ∧ w6.heap[bo]? = w1.heap[bo]? ∧ Below w.heap.size w w6) := ⟨Nat.lt_of_lt_of_le HX.out.2.2.2.2.2.2.2.1 u6.size, u6.block bo HX.out.2.2.2.2.2.2.2.1, bnext HX.out.2.2.2.2.2.2.2.2 u6⟩
    clear x4 x5 x7 x9 hC2
    obtain ⟨y4, y5, y7, y9⟩ := HCb.out w6 HbW.out.2.1
    obtain ⟨u0, hu0, eu0⟩ := uint_ofT nn'
    obtain rfl := r6.ptr (by have := HX.out.2.2.2.1; omega)
    obtain ⟨hfb, hfr⟩ := hb6 (by omega)
    have hb0 : ¬ (fl : Int) = 0 := by omega
    have wfn : IntKind.u64.wrap (fl : Int) = (fl : Int) := wrap_u _ (by omega) (by have := HX.out.2.2.2.2.1; have := HX.out.2.2.2.2.2.1; omega)
    obtain ⟨i, hi⟩ : ∃ i, u0 % fl = i := ⟨_, rfl⟩
    have hilt : i < fl := by rw [← hi]; exact Nat.mod_lt _ (by omega)
    have em : (u0 : Int) % (fl : Int) = (i : Int) := by rw [← hi]; rfl
    have wi : IntKind.i64.wrap (i : Int) = (i : Int) := by rw [IntKind.wrap_i64]; have := HX.out.2.2.2.2.1; have := HX.out.2.2.2.2.2.1; omega
    have hzi : (i : Int) < (fl : Int) := by omega
    obtain ⟨st, hst⟩ : ∃ st, F[i]? = some st := ⟨_, List.getElem?_eq_getElem (by have := HX.out.2.2.2.1; omega)⟩
    obtain ⟨s, t⟩ := st
    have c1 := r6.c1 i (by have := HX.out.2.2.2.1; omega)
    rw [Nat.zero_add, List.getD_eq_getElem?_getD, hst] at c1
    have c1' : w6.cell? ⟨fb, i * 2 + 1, none⟩ = some (.string (tx t)) := c1
    clear c1
    obtain ⟨tn, htn⟩ : ∃ tn, (tx t).size = tn := ⟨_, rfl⟩
    obtain ⟨cp, w7, hcv, hcp, hby, u7, hs7⟩ := bytes_of w6 (tx t) tn htn
    obtain ⟨z4, z5, z7, z9⟩ := HCb.out w7 ((u7.block bo HbW.out.1).trans HbW.out.2.1)
    have ht0 : 0 < tn := by
      have := HX.out.1.2 (s, t) (List.mem_of_getElem? hst)
      rw [← htn, tx_size]
      exact List.length_pos_iff.2 this
    have htl : t.length = tn := by rw [← htn, tx_size]
    have htn2 : tn ≤ 16777216 := by
      have h1 := byt_memA F (s, t) (List.mem_of_getElem? hst)
      have h2 := HX.out.2.2.1
      have h4 := HX.out.2.2.2.2.2.2.1
      have h3 : t.length ≤ byt F := h1
      omega
    have wtn : IntKind.u64.wrap (tn : Int) = (tn : Int) := wrap_u _ (by omega) (by omega)
    have htz : ¬ (tn : Int) = 0 := by omega
    obtain ⟨m, hm⟩ : ∃ m, an % tn = m := ⟨_, rfl⟩
    have hmlt : m < tn := by rw [← hm]; exact Nat.mod_lt _ ht0
    have emm : (an : Int) % (tn : Int) = (m : Int) := by rw [← hm]; rfl
    have wm : IntKind.i64.wrap (m : Int) = (m : Int) := by rw [IntKind.wrap_i64]; omega
    have hzm : (m : Int) < (tn : Int) := by omega
    obtain ⟨v, hv⟩ : ∃ v : UInt8, t.getD m 0 ^^^ yb = v := ⟨_, rfl⟩
    obtain ⟨g, hg⟩ : ∃ g, w6.heap.size = g := ⟨_, rfl⟩
    rw [hg] at hcv hby hs7
    have c7 := hby.at (j := m) (by rw [tx_data, htl]; exact hmlt)
    have f7 := hby.free (j := m) (by rw [tx_data, htl]; exact hmlt)
    rw [tx_data] at c7 hby
    obtain ⟨t5, ht5⟩ : ∃ x, (t.getD m 0).toNat = x := ⟨_, rfl⟩
    rw [ht5] at c7
    obtain ⟨yn, hyn⟩ : ∃ x, yb.toNat = x := ⟨_, rfl⟩
    rw [hyn] at z7 y7
    have x5 : bits .xor .u8 (t5 : Int) (yn : Int) = (v.toNat : Int) := by
      rw [← ht5, ← hv, ← hyn, u8_xor_nat _ _ (UInt8.toNat_lt _) (UInt8.toNat_lt _), UInt8.toNat_xor]
    obtain ⟨w8, hw8⟩ : ∃ w8, w7.setCell ⟨g, m, none⟩ (.int .u8 (v.toNat : Int)) = w8 := ⟨_, rfl⟩
    obtain ⟨U, hU⟩ : ∃ U : ByteArray, (⟨(t.set m v).toArray⟩ : ByteArray) = U := ⟨_, rfl⟩
    have hy7 : Byt w8 g (t.set m v) := by rw [← hw8]; exact hby.set m v _ rfl
    obtain ⟨wd, hwd⟩ : ∃ wd, w8.drew = wd := ⟨_, rfl⟩
    have hyd : ∀ x : Nat, wd.heap[x]? = w8.heap[x]? := fun x => by rw [← hwd]; rfl
    have hy8 : Byt wd g (t.set m v) := hy7.same (hyd g)
    have cv8 := hy8.conv (k := 0) (n := tn) (by rw [List.length_set]; omega) 0 (fun _ => rfl) cp U (by rw [List.drop_zero, List.take_of_length_le (by rw [List.length_set]; omega)]; exact hU)
    have hfg : fb < g := by rw [← hg]; exact r6.lt (by have := HX.out.2.2.2.1; omega)
    have hbg : bo < g := by rw [← hg]; exact HbW.out.1
    have hfo : bo < fb := by have := HX.out.2.2.2.2.2.2.2.1; omega
    have hfb7 : w7.heap[fb]? = w6.heap[fb]? := u7.block fb (by omega)
    have hfb8 : wd.heap[fb]? = w6.heap[fb]? := by rw [hyd, ← hw8, Below.heap_setCell _ _ _ _ (by show fb ≠ g; omega)]; exact hfb7
    have r8 : RdF wd (some ⟨fb, 0, none⟩) fb 0 F := r6.same fun _ => hfb8
    have c8 : wd.cell? ⟨fb, i * 2 + 1, none⟩ = some (.string (tx t)) := (World.cell?_of_block (a := ⟨fb, i * 2 + 1, none⟩) hfb8).trans c1'
    have f8 : wd.frozen? ⟨fb, i * 2 + 1, none⟩ = false := (World.frozen?_of_block (a := ⟨fb, i * 2 + 1, none⟩) hfb8).trans (hfr _)
    obtain ⟨w9, hw9⟩ : ∃ w9, wd.setCell ⟨fb, i * 2 + 1, none⟩ (.string U) = w9 := ⟨_, rfl⟩
    have r9 := rdf_setT r8 i s t (t.set m v) hst U hU.symm
    rw [hw9] at r9
    obtain ⟨G, hG⟩ : ∃ G, F.set i (s, t.set m v) = G := ⟨_, rfl⟩
    rw [hG] at r9
    have hGl : G.length = fl := by rw [← hG, List.length_set]; exact HX.out.2.2.2.1
    have hSG : Sor G := by rw [← hG]; exact sor_setA HX.out.1 s t _ (by rw [List.length_set]) i hst
    have hbG : byt G ≤ c := by rw [← hG, byt_setA s t _ (by rw [List.length_set]) F i hst]; exact HX.out.2.2.1
    have hnG : ∀ x ∈ G, x.1.length ≤ maxLen := fun x hx => by
      have h1 : x.1 ∈ G.map (·.1) := List.mem_map.2 ⟨x, hx, rfl⟩
      rw [← hG, nms_setA s t _ F i hst] at h1
      obtain ⟨y, hy1, hy2⟩ := List.mem_map.1 h1
      rw [← hy2]
      exact HX.out.2.1 y hy1
    have hws : w.heap.size ≤ w6.heap.size := HbW.out.2.2.size
    have hwf : w.heap.size ≤ fb := by
      have h1 := HX.out.2.2.2.2.2.2.2.2.size
      omega
    have U9 : Below w.heap.size w w9 := by
      rw [← hw9, ← hwd, ← hw8]
      exact ((bnext HbW.out.2.2 u7).setCell (by show w.heap.size ≤ g; omega) _).drew.setCell hwf _
    have hb8 : wd.heap[bo]? = w1.heap[bo]? := by
      rw [hyd, ← hw8, Below.heap_setCell _ _ _ _ (by show bo ≠ g; omega), u7.block bo HbW.out.1]
      exact HbW.out.2.1
    have hb9 : w9.heap[bo]? = w1.heap[bo]? := by
      rw [← hw9, Below.heap_setCell _ _ _ _ (by show bo ≠ fb; omega)]
      exact hb8
    have hb9s : bo < w9.heap.size := by
      rw [← hw9, ← hwd, ← hw8]
      have h1 := u7.size
      have h2 := HbW.out.1
      have h3 : ((w7.setCell ⟨g, m, none⟩ (.int .u8 (v.toNat : Int))).drew.setCell ⟨fb, i * 2 + 1, none⟩ (.string U)).heap.size = w7.heap.size := by simp
      rw [h3]
      omega
    have HL9 := hide (HLd.out w9 G (some ⟨fb, 0, none⟩) fb fc U9 hb9s hb9 r9 hGl hSG hnG hbG)
    have HO9 := hide (fun W p r h => HOp.out W G p r hSG hbG h)
    clear r6 r8 r9 hby hy7 hy8 hb6 hfr hst hG hGl hSG hbG hnG hU U9 hb8 hb9 hb9s u7 u6 HLd HOp HX HU6 HbW HCb HFi HZ0 htl htn hv ht5 hyn hm hi hu0
    go_upto_region 7 with (fail)
    go_region
    clear c7 f7 hw8 hwd x5 z4 z5 z7 z9 hyd
    go_wp2_with (first
      | (go_at_call 89; (with_reducible refine HL9.out.mono ?_); rintro e wa ⟨rfl, ⟨p5, r5, hB⟩, ya⟩)
      | (go_at_call 8; (with_reducible refine (HO9.out _ _ _ hB).mono ?_); rintro e wb hQ; obtain ⟨rfl, hQ⟩ := hQ))
    go_ret
    exact ⟨rfl, hQ⟩
end
end Go.Proofs.YthfnpagangjpbabGreat
