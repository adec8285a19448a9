/-
  Own work: EWkI, EWkJ, EWkL.
-/
import Derived.BigQuiet
import Derived.Test.YtdocjikpcbmcgaaGreatDoorQs38
namespace Go.Proofs.YtdocjikpcbmcgaaGreatDoor
open Go.RowKit
open Cv (zl cov)
attribute [local go_sem ↓] Go.wp_at_zero Go.wp_at_succ
structure Pb (B : Nat) (wr : World) (v u : Value) (P Q : List (Nat × Nat)) : Prop where
  ov : Cv.OwnB wr B v (zl P)
  ou : Cv.OwnB wr B u (zl Q)
  ap : Apt v u
section
variable {B : Nat} {w w' : World} {v u v' : Value} {P Q P' : List (Nat × Nat)}
theorem Pb.next (h : Pb B w v u P Q) (hb : Below w.heap.size w w') : Pb B w' v u P Q := ⟨row_nextJ h.ov hb, row_nextJ h.ou hb, h.ap⟩
theorem Pb.swap (h : Pb B w v u P Q) : Pb B w u v Q P := ⟨h.ou, h.ov, fun g h1 h2 => h.ap g h2 h1⟩
theorem Pb.app (h : Pb B w v u P Q) (o : Cv.OwnB w' B v' (zl P')) (g : w.grownBy w' v.ownBlock) (f : v'.ownBlock = v.ownBlock ∨ ∀ b, v'.ownBlock = some b → w.heap.size ≤ b) : Pb B w' v' u P' Q := by
  refine ⟨o, keep_row h.ou fun b hb _ => g.block b (World.ownsRow.lt h.ou b hb).2 fun e => h.ap b e.symm hb, fun b h1 h2 => ?_⟩
  rcases f with f | f
  · exact h.ap b (f.symm.trans h1) h2
  · have := f b h1
    have := (World.ownsRow.lt h.ou b h2).2
    omega
theorem pb_nil (B : Nat) (w : World) : Pb B w (.slice none 0 0) (.slice none 0 0) [] [] := ⟨World.ownsRow_nil _ _ _ _, World.ownsRow_nil _ _ _ _, fun g h _ => by cases h⟩
end
theorem cat_blocks (W : World) (B : Nat) (v0 v1 : Value) (P Q : List (Nat × Nat)) (o0 : Cv.OwnB W B v0 (zl P)) (o1 : Cv.OwnB W B v1 (zl Q)) (hl : P.length + Q.length ≤ 1000000) (t : Nat) :
    Calls Tryz.prog 111 #[.slice (some ⟨W.heap.size, 0, none⟩) 2 2] (W.alloc (.cells #[v0, v1] t)) fun e w' => ∃ v, e = .returned v ∧ Cv.OwnB w' W.heap.size v (zl (P ++ Q)) ∧ Below W.heap.size W w' := by
  have hb := bal (Below.refl W.heap.size W) (.cells #[v0, v1] t)
  have hx := heap_alloc_new W (.cells #[v0, v1] t)
  have hc : CatB (W.alloc (.cells #[v0, v1] t)) W.heap.size [v0, v1] [zl P, zl Q] := by
    refine cat2_B ?_ ?_ (Cv.rdc_keep (Cv.rdc_own o0) hb) (Cv.rdc_keep (Cv.rdc_own o1) hb)
    · rw [cell_of_row _ _ 0 _ _ (0, 0) hx]; rfl
    · rw [cell_of_row _ _ 1 _ _ (0, 0) hx]; rfl
  have hf : [zl P, zl Q].flatten = zl (P ++ Q) := by
    simp only [List.flatten_cons, List.flatten_nil, List.append_nil, zl, List.map_append]
  refine (concat_B _ _ 2 _ _ hc (by simp) (by rw [hf, Cv.zl_len, List.length_append]; omega) _ hf).mono fun e w' ⟨v, e1, e2, e3⟩ => ⟨v, e1, ?_, bnext hb e3⟩
  exact World.ownsRow.mono e2 (by simp)
def ots (i : Nat) (M : List (Nat × Nat)) : List (Nat × Nat) := M.filter fun m => decide (i / 2 ^ m.1 ≠ m.2)
def sbs (i : Nat) (M : List (Nat × Nat)) : List (Nat × Nat) := M.flatMap fun m => if i / 2 ^ m.1 = m.2 then bes i m.1 else []
theorem ots_app (i : Nat) (A B : List (Nat × Nat)) : ots i (A ++ B) = ots i A ++ ots i B := List.filter_append ..
theorem sbs_app (i : Nat) (A B : List (Nat × Nat)) : sbs i (A ++ B) = sbs i A ++ sbs i B := List.flatMap_append ..
theorem wy_ots {n i H : Nat} {A B : List (Nat × Nat)} (h : Wy n i A H B) : ots i (Cv.dnL 41 0 n) = A ++ B := by
  rw [h.all, ots_app]
  have h1 : ots i A = A := List.filter_eq_self.2 fun a ha => decide_eq_true (by have := h.no_left ha; omega)
  have h2 : ots i B = B := List.filter_eq_self.2 fun a ha => decide_eq_true (by have := h.no_right ha; omega)
  rw [h1, ots, List.filter_cons_of_neg (by simp)]
  rw [show List.filter (fun m => decide (i / 2 ^ m.1 ≠ m.2)) B = B from h2]
theorem wy_sbs {n i H : Nat} {A B : List (Nat × Nat)} (h : Wy n i A H B) : sbs i (Cv.dnL 41 0 n) = bes i H := by
  rw [h.all, sbs_app]
  have h1 : sbs i A = [] := List.flatMap_eq_nil_iff.2 fun a ha => if_neg (by have := h.no_left ha; omega)
  have h2 : sbs i B = [] := List.flatMap_eq_nil_iff.2 fun a ha => if_neg (by have := h.no_right ha; omega)
  rw [h1, List.nil_append, sbs, List.flatMap_cons, if_pos rfl]
  rw [show B.flatMap (fun m => if i / 2 ^ m.1 = m.2 then bes i m.1 else []) = [] from h2, List.append_nil]
set_option maxRecDepth 100000 in
set_option maxHeartbeats 2000000 in
theorem ebes_any (w : World) {n i H : Nat} {A B : List (Nat × Nat)} (h : Wy n i A H B) (hn : n ≤ 2 ^ 40) (hi : i < n) :
    Calls Tryz.prog 108 #[.int .u64 (n : Int), .int .u64 (i : Int)] w fun e w' => ∃ v, e = .returned v ∧ Cv.OwnB w' w.heap.size v (zl (wyB i H A B)) ∧ Below w.heap.size w w' := by
  obtain ⟨M, hM⟩ : ∃ M, Cv.dnL 41 0 n = M := ⟨_, rfl⟩
  have HMt : Hid (∀ W, Calls Tryz.prog 75 #[.int .u64 (n : Int)] W fun e w' => ∃ ao g cap, e = .returned (.tuple #[.slice ao M.length cap, .int .i64 0]) ∧ RdB w' ao g 0 M.length (zl M) ∧ Below W.heap.size W w') := fun W => mount_any n hn M hM W
  have hMl : M.length ≤ 41 := by rw [← hM]; exact Cv.dn_len 41 0 n
  have hM40 : ∀ b ∈ M, b.1 ≤ 40 := by
    have hin := dn_in n hn
    rw [hM] at hin
    exact fun b hb => Cv.pw40 (Nat.le_trans (by have := Nat.mul_le_mul_right (Pl.pw b.1) (show 1 ≤ b.2 + 1 by omega); rw [Nat.one_mul] at this; exact this) (Nat.le_trans (hin b hb) hn))
  have HE : Hid (sbs i M ++ ots i M = wyB i H A B ∧ (sbs i M).length + (ots i M).length ≤ 1000) := by
    have e1 := wy_ots h
    have e2 := wy_sbs h
    rw [hM] at e1 e2
    have := h.len
    have := h.hH
    exact ⟨by rw [e1, e2]; rfl, by rw [e1, e2, bes_len, List.length_append]; omega⟩
  have hz : (M.length : Int) ≤ 41 := by omega
  clear hM h
  go_enter Tryz.func108, Tryz.ntmps108
  go_upto_region 3 with (go_at_call 75; with_reducible refine (HMt.out _).mono ?_; rintro e w2 ⟨ao, gM, capM, rfl, hrB, hb2⟩)
  clear HMt
  have HV : Hid (∀ W, Below w2.heap.size w2 W → RdB W ao gM 0 M.length (zl M) ∧ Below w.heap.size w W) := fun W hb => ⟨hrB.below hb, bnext hb2 hb⟩
  go_wp2
  go_loopg [7, 8, 19] M.length (fun g v u i' wr => ∃ j : Nat, g = M.length - j ∧ j ≤ M.length ∧ i' = .int .i64 (j : Int) ∧ Hid (Pb w2.heap.size wr v u (sbs i (M.take j)) (ots i (M.take j))) ∧ Hid (Below w2.heap.size w2 wr))
  case atStart =>
    go_light
    exact ⟨0, rfl, Nat.zero_le _, rfl, pb_nil _ _, Below.refl _ _⟩
  case round =>
    obtain ⟨j, rfl, hj, rfl, HPb, HBw⟩ := hrel
    by_cases hlt : j < M.length
    · have z0 : (0 : Int) ≤ (j : Int) := Int.natCast_nonneg _
      have z1 : (j : Int) < (M.length : Int) := by omega
      obtain ⟨hrd, hbw⟩ := HV.out wr HBw.out
      obtain rfl := hrd.addr (by omega)
      obtain ⟨b, hbb⟩ : ∃ b, M.getD j (0, 0) = b := ⟨_, rfl⟩
      have hbm : b ∈ M := by rw [← hbb, List.getD_eq_getElem?_getD, List.getElem?_eq_getElem hlt]; exact List.getElem_mem _
      obtain ⟨k0, k1⟩ := hrd.cell j hlt
      have hzl : (zl M).getD j (0, 0) = ((b.1 : Int), b.2) := by
        rw [← hbb, List.getD_eq_getElem?_getD, List.getD_eq_getElem?_getD, zl, List.getElem?_map, List.getElem?_eq_getElem hlt]; rfl
      rw [hzl] at k0 k1
      simp only at k0 k1
      rw [Nat.zero_add] at k0 k1
      have h40 := hM40 b hbm
      have htk : M.take (j + 1) = M.take j ++ [b] := by rw [List.take_succ_eq_append_getElem hlt, ← hbb, List.getD_eq_getElem?_getD, List.getElem?_eq_getElem hlt]; rfl
      obtain ⟨bh, bk⟩ := b
      simp only at k0 k1 h40
      clear hrd hzl hbb hbm
      obtain ⟨W1, hW1⟩ : ∃ W1, wr.alloc (.cells #[.int .i64 (bh : Int), .int .u64 (bk : Int)] 83) = W1 := ⟨_, rfl⟩
      have hb1 : Below wr.heap.size wr W1 := by rw [← hW1]; exact bal (Below.refl _ _) _
      have t1 : W1.heap[wr.heap.size]? = some (.cells #[.int .i64 (bh : Int), .int .u64 (bk : Int)] 83 (0, 0)) := by rw [← hW1]; exact heap_alloc_new wr _
      have d0 : W1.cell? ⟨wr.heap.size, 0, none⟩ = some (.int .i64 (bh : Int)) := by rw [cell_of_row W1 wr.heap.size 0 _ _ (0, 0) t1]; rfl
      have d1 : W1.cell? ⟨wr.heap.size, 1, none⟩ = some (.int .u64 (bk : Int)) := by rw [cell_of_row W1 wr.heap.size 1 _ _ (0, 0) t1]; rfl
      have y0 : (0 : Int) ≤ (bh : Int) := Int.natCast_nonneg _
      have y1 : (bh : Int) ≤ 40 := by omega
      go_upto_region 6 with (fail)
      try rw [hW1]
      clear k0 k1 hW1 t1
      obtain ⟨p, hp⟩ : ∃ p, i / 2 ^ bh = p := ⟨_, rfl⟩
      have hpi : (i : Int) / 2 ^ bh = (p : Int) := by rw [← hp]; simp
      have HPx := hide (And.intro hp htk)
      have hb1N : ∀ t, Below wr.heap.size wr (W1.drewN t) := fun t => below_drewN hb1 t
      have HB1 := hide hb1N
      clear hp htk hb1N hb1
      by_cases hq : p = bk
      · subst hq
        go_quiet (fail)
        clear hpi
        have hb1 := HB1.out nq
        have d0' : (W1.drewN nq).cell? ⟨wr.heap.size, 0, none⟩ = some (.int .i64 (bh : Int)) := d0
        obtain ⟨W2, hW2⟩ : ∃ W2, W1.drewN nq = W2 := ⟨_, rfl⟩
        rw [hW2] at hb1 d0'
        try rw [hW2]
        clear hW2 d0 d1
        have hbW := bnext HBw.out hb1
        have HP1 : Hid (Pb w2.heap.size W2 u7 u8 (sbs i (M.take j) ++ bes i 0) (ots i (M.take j)) ∧ (sbs i (M.take j)).length ≤ 2000 ∧ ots i (M.take (j + 1)) = ots i (M.take j) ∧ sbs i (M.take (j + 1)) = sbs i (M.take j) ++ bes i bh ∧ Below w2.heap.size w2 W2) := by
          have hz2 : (sbs i (M.take j)).length ≤ 2000 := by
            have h1 : sbs i M = sbs i (M.take j) ++ sbs i (M.drop j) := by rw [← sbs_app, List.take_append_drop]
            have h2 := HE.out.2
            rw [h1, List.length_append] at h2
            omega
          refine ⟨?_, hz2, ?_, ?_, hbW⟩
          · have := HPb.out.next hb1
            simpa [bes] using this
          · rw [HPx.out.2, ots_app]
            have : ots i [(bh, p)] = [] := by
              unfold ots
              rw [List.filter_cons_of_neg (by simp [HPx.out.1])]
              rfl
            rw [this, List.append_nil]
          · rw [HPx.out.2, sbs_app]
            congr 1
            simp [sbs, HPx.out.1]
        clear HPb
        go_wp2
        go_loopg [7, 36] bh (fun g v x wi => ∃ t : Nat, g = bh - t ∧ t ≤ bh ∧ x = .int .i64 (t : Int) ∧ Hid (Pb w2.heap.size wi v u8 (sbs i (M.take j) ++ bes i t) (ots i (M.take j))) ∧ Hid (Below w2.heap.size w2 wi))
        case atStart =>
          go_light
          exact ⟨0, rfl, Nat.zero_le _, rfl, HP1.out.1, hbW⟩
        case round =>
          clear hbW hb1 d0'
          obtain ⟨t, rfl, htb, rfl, HPt, HBt⟩ := hrel
          by_cases hlt2 : t < bh
          · have x0 : (t : Int) < (bh : Int) := by omega
            have x1 : (0 : Int) ≤ (t : Int) := Int.natCast_nonneg _
            obtain ⟨q, hq⟩ : ∃ q, i / 2 ^ t = q := ⟨_, rfl⟩
            have hqi : (i : Int) / 2 ^ t = (q : Int) := by rw [← hq]; simp
            have hq40 : q < 2 ^ 40 := by have := Nat.div_le_self i (2 ^ t); omega
            have ex : bits .xor .u64 (q : Int) 1 = ((sb q : Nat) : Int) := by rw [← sb_xor]; exact bits_xor_u64_nat q 1 (by omega) (by decide)
            have hsb : bes i (t + 1) = bes i t ++ [(t, sb q)] := by rw [bes_succ, hq]
            have HSb := hide hsb
            obtain ⟨sq, hsq⟩ : ∃ sq, sb q = sq := ⟨_, rfl⟩
            rw [hsq] at ex HSb
            clear hsq hq hq40 hsb
            go_wp2_with (at_builtin; refine Cv.wpList_append_B _ rfl _ _ rfl w2.heap.size u7 (zl (sbs i (M.take j) ++ bes i t)) rfl (Pb.next HPt.out (bal (Below.refl _ _) _)).ov (.slice (some ⟨wr.heap.size, 0, none⟩) 1 1) [((t : Int), sq)] rfl (Cv.rdc_block wr (t : Int) sq 83) ?e2 ?e3 ?_)
            case e2 => have := HP1.out.2.1; rw [Cv.zl_len, List.length_append, bes_len]; simp; omega
            case e3 => have := HBt.out.size; simp; omega
            intro v' w3 r1 r2 r3
            have hN : Pb w2.heap.size w3 v' u8 (sbs i (M.take j) ++ bes i (t + 1)) (ots i (M.take j)) ∧ Below w2.heap.size w2 w3 := by
              have hP2 := HPt.out.next (bal (Below.refl wr.heap.size wr) (.cells #[.int .i64 (t : Int), .int .u64 (sq : Int)] 83))
              refine ⟨hP2.app ?_ r2 (by rw [World.size_alloc] ; exact r3), (bal HBt.out _).trans ((Below.refl _ _).grown r2 (by have := HBt.out.size; simp; omega) fun b hb => (World.ownsRow.lt hP2.ov b hb).1)⟩
              rw [HSb.out, ← List.append_assoc, Cv.zl_app]; exact r1
            have HN := hide hN
            obtain ⟨va, vn, vc, rfl⟩ := Cv.own_slice r1
            clear hN r1 r2 r3 HPt
            go_wp2
            go_roundg (bh - (t + 1))
            case rel =>
              go_light
              exact ⟨t + 1, rfl, by omega, by go_num, HN.out.1, HN.out.2⟩
            case measure => go_light; omega
          · obtain rfl : t = bh := by omega
            have x0 : ¬ (t : Int) < (t : Int) := by omega
            have HN : Hid (Pb w2.heap.size wr u7 u8 (sbs i (M.take (j + 1))) (ots i (M.take (j + 1)))) := by
              show Pb _ _ _ _ _ _
              rw [HP1.out.2.2.2.1, HP1.out.2.2.1]
              exact HPt.out
            clear HPt HP1 hlt2 htb
            go_wp2
            go_roundg (M.length - (j + 1))
            case rel =>
              go_light
              exact ⟨j + 1, rfl, by omega, by go_num, HN.out, HBt.out⟩
            case measure => go_light; omega
      · have hqi : ¬ (p : Int) = (bk : Int) := by omega
        have hqb : ((p : Int) != (bk : Int)) = true := by simpa using hqi
        go_quiet (fail)
        clear hpi
        have hb1 := HB1.out nq
        have d0' : (W1.drewN nq).cell? ⟨wr.heap.size, 0, none⟩ = some (.int .i64 (bh : Int)) := d0
        have d1' : (W1.drewN nq).cell? ⟨wr.heap.size, 1, none⟩ = some (.int .u64 (bk : Int)) := d1
        obtain ⟨W2, hW2⟩ : ∃ W2, W1.drewN nq = W2 := ⟨_, rfl⟩
        rw [hW2] at hb1 d0' d1'
        try rw [hW2]
        clear hW2 d0 d1 hqb hqi
        have hPb := (HPb.out.next hb1)
        have hbW := bnext HBw.out hb1
        go_wp2_with (at_builtin; refine Cv.wpList_append_B _ rfl _ _ rfl w2.heap.size u8 (zl (ots i (M.take j))) rfl (Pb.next hPb (bal (Below.refl _ _) _)).ou (.slice (some ⟨W2.heap.size, 0, none⟩) 1 1) [((bh : Int), bk)] rfl (Cv.rdc_block W2 (bh : Int) bk 83) ?c2 ?c3 ?_)
        case c2 =>
          have h1 : ots i M = ots i (M.take j) ++ ots i (M.drop j) := by rw [← ots_app, List.take_append_drop]
          have h2 := HE.out.2
          rw [h1, List.length_append] at h2
          rw [Cv.zl_len]; simp; omega
        case c3 => have := hbW.size; simp; omega
        intro v' w3 r1 r2 r3
        have hN : Pb w2.heap.size w3 u7 v' (sbs i (M.take (j + 1))) (ots i (M.take (j + 1))) ∧ Below w2.heap.size w2 w3 := by
          have e1 : ots i (M.take (j + 1)) = ots i (M.take j) ++ [(bh, bk)] := by
            rw [HPx.out.2, ots_app]
            congr 1
            unfold ots
            rw [List.filter_cons_of_pos (by simp [HPx.out.1, hq])]
            rfl
          have e2 : sbs i (M.take (j + 1)) = sbs i (M.take j) := by
            rw [HPx.out.2, sbs_app]
            have : sbs i [(bh, bk)] = [] := by simp [sbs, HPx.out.1, hq]
            rw [this, List.append_nil]
          have hP2 := hPb.next (bal (Below.refl W2.heap.size W2) (.cells #[.int .i64 (bh : Int), .int .u64 (bk : Int)] 83))
          refine ⟨?_, ?_⟩
          · rw [e1, e2]
            refine (hP2.swap.app ?_ r2 (by rw [World.size_alloc] ; exact r3)).swap
            rw [Cv.zl_app]; exact r1
          · exact (bal hbW _).trans ((Below.refl _ _).grown r2 (by have := hbW.size; simp; omega) fun b hb => (World.ownsRow.lt hP2.ou b hb).1)
        have HN := hide hN
        obtain ⟨va, vn, vc, rfl⟩ := Cv.own_slice r1
        clear hN r1 r2 r3 hPb hbW d0' d1' HPb
        go_wp2
        go_roundg (M.length - (j + 1))
        case rel =>
          go_light
          exact ⟨j + 1, rfl, by omega, by go_num, HN.out.1, HN.out.2⟩
        case measure => go_light; omega
    · obtain rfl : j = M.length := by omega
      have hz1 : ¬ (M.length : Int) < (M.length : Int) := by omega
      have hP := HPb.out
      rw [List.take_length] at hP
      have hbw := (HV.out wr HBw.out).2
      obtain ⟨sa, sn, sc, rfl⟩ := Cv.own_slice hP.ov
      obtain ⟨oa, on, oc, rfl⟩ := Cv.own_slice hP.ou
      have HC := cat_blocks wr w2.heap.size _ _ _ _ hP.ov hP.ou (by have := HE.out.2; omega)
      rw [HE.out.1] at HC
      have HC := hide HC
      clear hP HPb HV hlt hj
      go_wp2_with (go_at_call 111; with_reducible refine (HC.out _).mono ?_; rintro e w3 ⟨v, rfl, h3, hb3⟩)
      obtain ⟨a3, n3, c3, rfl⟩ := Cv.own_slice h3
      go_ret
      exact ⟨_, rfl, World.ownsRow.mono h3 hbw.size, bnext hbw hb3⟩
end Go.Proofs.YtdocjikpcbmcgaaGreatDoor
namespace Go.Proofs.YtdocjikpcbmcgaaGreatDoor
open Go.RowKit
open Cv (zl cov)
attribute [local go_sem ↓] Go.wp_at_zero Go.wp_at_succ
set_option maxRecDepth 100000 in
set_option maxHeartbeats 1000000 in
theorem bo_path (w : World) (k : Int) (old : Nat) {n i H : Nat} {A B : List (Nat × Nat)} (h : Wy n i A H B) (hn : n ≤ 2 ^ 40) (hi : i < n) (sa : Option Addr) (sb so sc : Nat) (hs : RdU w sa sb so 1 [i]) (vd : Value) :
    Calls Tryz.prog 60 #[vP 1 k old n (.slice sa 1 sc) vd] w fun e w' => ∃ v, e = .returned v ∧ Cv.OwnB w' w.heap.size v (zl (wyB i H A B)) ∧ Below w.heap.size w w' := by
  obtain ⟨F, hFe, h6, hb, _⟩ := box6 w (.int .i64 1) (.int .i64 k) (.int .u64 (old : Int)) (.int .u64 (n : Int)) (.slice sa 1 sc) vd
  obtain rfl := hs.ptr (by omega)
  have HE : Hid (∀ W, Calls Tryz.prog 108 #[.int .u64 (n : Int), .int .u64 (i : Int)] W fun e w' => ∃ v, e = .returned v ∧ Cv.OwnB w' W.heap.size v (zl (wyB i H A B)) ∧ Below W.heap.size W w') := fun W => ebes_any W h hn hi
  obtain ⟨c0, c1, c2, c3, c4, c5⟩ := h6.cells
  have ci : F.cell? ⟨sb, so, none⟩ = some (.int .u64 (i : Int)) := (hs.next hb).at (j := 0) (by omega)
  unfold vP
  clear h hn hi hs h6
  go_enter Tryz.func60, Tryz.ntmps60
  go_upto_region 1 with (fail)
  try rw [hFe]
  clear hFe
  go_upto_region 3 with (fail)
  go_region_with (go_at_call 108; with_reducible refine (HE.out _).mono ?_; rintro e w3 ⟨v, rfl, h3, hb3⟩; obtain ⟨a3, n3, c3, rfl⟩ := Cv.own_slice h3)
  all_goals
    go_wp2
    go_ret
    exact ⟨_, rfl, World.ownsRow.mono h3 (hb.drew.size), bnext hb.drew hb3⟩
set_option maxRecDepth 100000 in
set_option maxHeartbeats 1000000 in
theorem bo_batch (w : World) (k : Int) (old n : Nat) (S : List Nat) (he : Cv.errS n S = 0) (hS : S.length ≤ 5000) (sa : Option Addr) (sb so sc : Nat) (hs : RdU w sa sb so S.length S) (vd : Value) :
    Calls Tryz.prog 60 #[vP 2 k old n (.slice sa S.length sc) vd] w fun e w' => ∃ v, e = .returned v ∧ Cv.OwnB w' w.heap.size v (zl (Cv.rst 0 n S)) ∧ Below w.heap.size w w' := by
  obtain ⟨F, hFe, h6, hb, _⟩ := box6 w (.int .i64 2) (.int .i64 k) (.int .u64 (old : Int)) (.int .u64 (n : Int)) (.slice sa S.length sc) vd
  have HE : Hid (Calls Tryz.prog 109 #[.int .u64 (n : Int), .slice sa S.length sc] F fun x w' => ∃ v, x = .returned (.tuple #[v, .int .i64 0]) ∧ Cv.OwnB w' F.heap.size v (zl (Cv.rst 0 n S)) ∧ Below F.heap.size F w') := Cv.rest_ok n F sa sb so S.length sc S (rdu_rd (hs.next hb)) hS he
  obtain ⟨c0, c1, c2, c3, c4, c5⟩ := h6.cells
  unfold vP
  clear hs h6 he hS
  go_enter Tryz.func60, Tryz.ntmps60
  go_upto_region 1 with (fail)
  try rw [hFe]
  clear hFe
  go_wp2_with (go_at_call 109; with_reducible refine HE.out.mono ?_; rintro e w3 ⟨v, rfl, h3, hb3⟩; obtain ⟨a3, n3, c3, rfl⟩ := Cv.own_slice h3)
  go_ret
  exact ⟨_, rfl, World.ownsRow.mono h3 hb.size, bnext hb hb3⟩
end Go.Proofs.YtdocjikpcbmcgaaGreatDoor
namespace Go.Proofs.YtdocjikpcbmcgaaGreatDoor
open Go.RowKit
attribute [local go_sem ↓] Go.wp_at_zero Go.wp_at_succ
set_option maxRecDepth 100000 in
set_option maxHeartbeats 1000000 in
theorem comm_core (w : World) (k : Int) (la : Option Addr) (ln lc : Nat) (hn : ln ≤ 8796093022208) (o : Nat) (c : ByteArray) (e0 : Int)
    (HR : Hid (∀ W, Below w.heap.size w W → Calls Tryz.prog 56 #[.int .i64 k, .slice la ln lc, .int .u64 (ln : Int)] W fun e w' => e = .returned (.tuple #[.agg #[.int .u64 (o : Int), .string c], .int .i64 e0]) ∧ Below W.heap.size W w')) :
    Calls Tryz.prog 23 #[.int .i64 k, .slice la ln lc] w fun e w' => e = .returned (.agg #[.int .u64 (o : Int), .string c]) ∧ Below w.heap.size w w' := by
  have hb0 := bal (Below.refl w.heap.size w) (.cells #[.int .u64 0, .string ⟨#[]⟩] 30)
  have h0 : Rh (w.alloc (.cells #[.int .u64 0, .string ⟨#[]⟩] 30)) w.heap.size 0 ⟨#[]⟩ := rh_new w 0 ⟨#[]⟩
  have z1 : (ln : Int) ≤ 8796093022208 := by omega
  obtain ⟨W0, hW0⟩ : ∃ W0, w.alloc (.cells #[.int .u64 0, .string ⟨#[]⟩] 30) = W0 := ⟨_, rfl⟩
  rw [hW0] at hb0 h0
  clear hn
  go_enter Tryz.func23, Tryz.ntmps23
  go_upto_region 1 with (fail)
  try rw [hW0]
  clear hW0
  go_upto_region 2 with (go_at_call 56; with_reducible refine (HR.out _ hb0).mono ?_; rintro e w1 ⟨rfl, hb1⟩)
  obtain ⟨F, hFe, hr, hb2⟩ : ∃ W, w1.alloc (.cells #[.int .u64 (o : Int), .string c] 30) = W ∧ Rh W w1.heap.size o c ∧ Below w1.heap.size w1 W := ⟨_, rfl, rh_new w1 o c, bal (Below.refl _ _) _⟩
  try rw [hFe]
  clear hFe
  have hx := h0.next (bnext hb1 hb2)
  obtain ⟨c0, c1⟩ := hr.cells
  obtain ⟨d0, d1⟩ := hx.cells
  have df := hx.fz
  have hp := hx.put o c
  have hch := putR_ch F w.heap.size o c
  unfold putR at hp hch
  obtain ⟨s0, s1⟩ := hp.cells
  clear h0 hx hr
  go_wp2
  refine bodyPost_ret (v := .agg #[.int .u64 (o : Int), .string c]) (by simp [results, Tryz.results23, go_sem, s0, s1]) rfl ⟨rfl, ?_⟩
  exact (bnext (bnext hb0 hb1) hb2).trans (hch.below (by rintro b rfl; exact Nat.le_refl _))
theorem comm_ok (w : World) (ht : Tb w) (k : Int) (k1 : 1 ≤ k) (k2 : k ≤ 32) (la : Option Addr) (lb lo lc : Nat) (L : List ByteArray) (hr : RdS w la lb lo L.length L) (hsz : ∀ s ∈ L, s.size ≤ 140737488351232) (hm : L.length ≤ 1099511627776) (hlc : L.length ≤ lc) (c : ByteArray) (hc : rtD (clk k) L L.length = c) :
    Calls Tryz.prog 23 #[.int .i64 k, .slice la L.length lc] w fun e w' => e = .returned (.agg #[.int .u64 (L.length : Int), .string c]) ∧ Below w.heap.size w w' :=
  comm_core w k la L.length lc (by omega) L.length c 0 fun W hb => proot_ok W (ht.next hb) k k1 k2 la lb lo L.length lc L (hr.next hb (Nat.le_refl _)) hsz (by omega) hlc L.length (Nat.le_refl _) c hc
theorem comm_bad (w : World) (k : Int) (hk : k < 1 ∨ 32 < k) (la : Option Addr) (ln lc : Nat) (hn : ln ≤ 1099511627776) :
    Calls Tryz.prog 23 #[.int .i64 k, .slice la ln lc] w fun e w' => e = .returned (.agg #[.int .u64 ((0 : Nat) : Int), .string ⟨#[]⟩]) ∧ Below w.heap.size w w' :=
  comm_core w k la ln lc (by omega) 0 ⟨#[]⟩ 70 fun W _ => proot_bad W k hk la ln lc ln
def soC (L : List ByteArray) (l : List (Nat × ByteArray)) : Prop := ∀ c ∈ l, L.getD c.1 ByteArray.empty = c.2
instance (L : List ByteArray) (l : List (Nat × ByteArray)) : Decidable (soC L l) := by unfold soC; infer_instance
set_option maxRecDepth 100000 in
set_option maxHeartbeats 1000000 in
theorem areso_any (w : World) (ca : Option Addr) (cb co cc : Nat) (l : List (Nat × ByteArray)) (hc : RdK w ca cb co l.length l) (hcm : l.length ≤ 1099511627776) (la : Option Addr) (lb lo lc : Nat) (L : List ByteArray) (hr : RdS w la lb lo L.length L) (hm : L.length ≤ 1099511627776) (hin : ∀ c ∈ l, c.1 < L.length) (r : Bool) (hq : decide (soC L l) = r) :
    Calls Tryz.prog 24 #[.slice ca l.length cc, .slice la L.length lc] w fun e w' => e = .returned (.bool r) ∧ Below w.heap.size w w' := by
  have HC : Hid (∀ W, Below w.heap.size w W → RdK W ca cb co l.length l ∧ RdS W la lb lo L.length L) := fun W hb => ⟨hc.next hb, hr.next hb (Nat.le_refl _)⟩
  have z1 : (l.length : Int) ≤ 1099511627776 := by omega
  have z2 : (L.length : Int) ≤ 1099511627776 := by omega
  have HIn := hide hin
  have HQ := hide hq
  clear hc hr hcm hm hin hq
  go_enter Tryz.func24, Tryz.ntmps24
  go_wp2
  go_loopg [9] l.length (fun g i wr => ∃ j : Nat, j ≤ l.length ∧ g = l.length - j ∧ i = .int .i64 (j : Int) ∧ Hid (∀ t, t < j → L.getD (l.getD t noC).1 ByteArray.empty = (l.getD t noC).2) ∧ Hid (Below w.heap.size w wr))
  case atStart =>
    go_light
    exact ⟨0, Nat.zero_le _, rfl, rfl, fun t ht => absurd ht (Nat.not_lt_zero _), Below.refl _ _⟩
  case round =>
    obtain ⟨j, hj, rfl, rfl, HAl, HBw⟩ := hrel
    by_cases hlt : j < l.length
    · have y0 : (0 : Int) ≤ (j : Int) := Int.natCast_nonneg _
      have y1 : (j : Int) < (l.length : Int) := by omega
      obtain ⟨hk, hs⟩ := HC.out wr HBw.out
      obtain rfl := hk.ptr (by omega)
      obtain ⟨c0, c1⟩ := hk.at hlt
      have hmem : l.getD j noC ∈ l := by rw [List.getD_eq_getElem?_getD, List.getElem?_eq_getElem hlt]; exact List.getElem_mem _
      have hi := HIn.out _ hmem
      obtain ⟨a, ha⟩ : ∃ a, (l.getD j noC).1 = a := ⟨_, rfl⟩
      obtain ⟨x, hx⟩ : ∃ x, (l.getD j noC).2 = x := ⟨_, rfl⟩
      rw [ha] at c0 hi
      rw [hx] at c1
      obtain ⟨W1, hW1⟩ : ∃ W1, wr.alloc (.cells #[.int .u64 (a : Int), .string x] 38) = W1 := ⟨_, rfl⟩
      have hb1 : Below wr.heap.size wr W1 := by rw [← hW1]; exact bal (Below.refl _ _) _
      have t1 : W1.heap[wr.heap.size]? = some (.cells #[.int .u64 (a : Int), .string x] 38 (0, 0)) := by rw [← hW1]; exact heap_alloc_new wr _
      have d0 : W1.cell? ⟨wr.heap.size, 0, none⟩ = some (.int .u64 (a : Int)) := by rw [cell_of_row W1 wr.heap.size 0 _ _ (0, 0) t1]; rfl
      have d1 : W1.cell? ⟨wr.heap.size, 1, none⟩ = some (.string x) := by rw [cell_of_row W1 wr.heap.size 1 _ _ (0, 0) t1]; rfl
      have hs1 := hs.next hb1 (Nat.le_refl _)
      obtain rfl := hs1.ptr (by omega)
      have ci := hs1.at hi
      obtain ⟨y, hy⟩ : ∃ y, L.getD a ByteArray.empty = y := ⟨_, rfl⟩
      rw [hy] at ci
      have q0 : (0 : Int) ≤ (a : Int) := Int.natCast_nonneg _
      have q1 : (a : Int) < (L.length : Int) := by omega
      have HW1 : Hid (∀ t, Below w.heap.size w (W1.drewN t)) := fun t => below_drewN (bnext HBw.out hb1) t
      by_cases he : y = x
      · subst he
        have HN : Hid (∀ t, t < j + 1 → L.getD (l.getD t noC).1 ByteArray.empty = (l.getD t noC).2) := fun t ht => by
          rcases Nat.lt_or_eq_of_le (Nat.le_of_lt_succ ht) with h | rfl
          · exact HAl.out t h
          · rw [ha, hx]; exact hy
        clear hk hs hs1 hmem ha hx hy t1 HAl hi hb1
        go_upto_region 4 with (fail)
        try rw [hW1]
        clear hW1 c0 c1
        go_quiet (fail)
        go_wp2
        go_roundg (l.length - (j + 1))
        case rel =>
          go_light
          exact ⟨j + 1, by omega, rfl, by go_num, HN, HW1.out _⟩
        case measure => go_light; omega
      · have hzb := list_beq he
        have hz := list_ne he
        obtain rfl : false = r := by
          rw [← HQ.out]
          refine (decide_eq_false fun h => he ?_).symm
          have := h _ hmem
          rw [ha, hx, hy] at this
          exact this
        clear hk hs hs1 hmem ha hx hy t1 HAl hi hb1 he
        go_upto_region 4 with (fail)
        try rw [hW1]
        clear hW1 c0 c1
        go_quiet (fail)
        go_wp2
        go_ret
        exact ⟨rfl, HW1.out _⟩
    · obtain rfl : j = l.length := by omega
      have hz : ¬ (l.length : Int) < (l.length : Int) := by omega
      obtain rfl : true = r := by
        rw [← HQ.out]
        refine (decide_eq_true fun c hc => ?_).symm
        obtain ⟨t, ht, rfl⟩ := List.getElem_of_mem hc
        have := HAl.out t ht
        rw [List.getD_eq_getElem?_getD (l := l), List.getElem?_eq_getElem ht] at this
        exact this
      have hB := HBw.out
      clear hlt hj
      go_wp2
      go_ret
      exact ⟨rfl, hB⟩
end Go.Proofs.YtdocjikpcbmcgaaGreatDoor
