/-
  Own work: DKe, QLay, QOpn, QOpw.
-/
import Derived.BigRegion
import Derived.BigQuiet
import Derived.Test.YthfnpagangjpbabGreatV46
namespace Go.Proofs.YthfnpagangjpbabGreat
open Go.RowKit
theorem rdc_L {w : World} {ao : Option Addr} {b off c : Nat} {M : List Bool} (h : RdL w ao b off M) (hn : ao = none → c = 0) : RdC w (.slice ao M.length c) M.length (cB M) := by
  refine ⟨ao, c, rfl, fun e => ⟨?_, hn e⟩, fun ad ha j u hu => ?_⟩
  · rcases Nat.eq_zero_or_pos M.length with q | q
    · exact q
    · have := h.ptr q; rw [e] at this; cases this
  · have hj : j < M.length := by have := (List.getElem?_eq_some_iff.1 hu).1; simpa [cB] using this
    have ep := h.ptr (by omega)
    rw [ha] at ep
    injection ep with ep
    rw [ep, Addr.add_mid, h.cell j hj, ← hu]
    simp [cB, List.getD_eq_getElem?_getD, hj]
theorem cB_one (l : List Bool) : ∀ u ∈ cB l, u.oneCell' = true := fun u hu => by obtain ⟨_, _, rfl⟩ := List.mem_map.1 hu; rfl
theorem run_all_L (w : World) (ty B : Nat) (v : Value) (L : List Bool) (hown : OwnL w B v L) (ao : Option Addr) (b off c : Nat) (M : List Bool) (hr : RdL w ao b off M) (hn : ao = none → c = 0) (hlen : L.length + M.length ≤ 140737488355328) (hB : B ≤ w.heap.size) :
    ∃ v' w', (Builtin.append_ #[49, 49] ty #[v, .slice ao M.length c]).run Tryz.prog w = .ok v' w' ∧ OwnL w' B v' (L ++ M) ∧ w.grownBy w' v.ownBlock := by
  obtain ⟨i0, hi, hz0, hz1, hz2⟩ := info_parts Tryz.infoB
  obtain ⟨v', w', q1, q2, q3⟩ := run_all w 49 ty 4 B 1 1 i0 (.bool false) Tryz.underlying49 hi hz0 hz1 hz2 rfl (by decide) v L.length (cB L) hown _ M.length (cB M) (rdc_L hr hn) (by simp [cB]) (cB_one M) (by unfold maxLen; omega) (by omega) hB
  refine ⟨v', w', q1, ?_, q3⟩
  rw [OwnL, List.length_append]
  have : cB (L ++ M) = cB L ++ cB M := by simp [cB]
  rw [this]
  exact q2
theorem ownL_made (w : World) : OwnL (w.alloc (.cells #[] 4)) w.heap.size (.slice (some ⟨w.heap.size, 0, none⟩) 0 0) [] := ⟨rfl, .inr ⟨w.heap.size, 0, _, rfl, Nat.le_refl _, new1 w _, Nat.zero_le _, by decide, rfl, rfl⟩⟩
theorem ownL_next {w w' : World} {B : Nat} {v : Value} {l : List Bool} (h : OwnL w B v l) (hb : Below w.heap.size w w') : OwnL w' B v l := row_keep h fun g hg => hb.block g (h.lt g hg).2
end Go.Proofs.YthfnpagangjpbabGreat
namespace Go.Proofs.YthfnpagangjpbabGreat
open Go.RowKit
attribute [local go_sem ↓] exec_appR
section
variable {p : Nat} {lv : Value} {ka : Option Addr} {kb ko kc : Nat} {V : RV}
def cEq (V : RV) (lv : Value) (k : Int) (kv : Value) (l : Int) : Obj := .cells #[.int .i64 (V.room : Int), lv, .int .i64 (V.cnt : Int), .int .i64 0, .int .i64 k, kv, .int .i64 l, .bool V.out] 64 (0, 0)
theorem cE_cells {w : World} {lv : Value} {k : Int} {kv : Value} {l : Int} (h : w.heap[p]? = some (cEq V lv k kv l)) : w.cell? ⟨p, 3, none⟩ = some (.int .i64 0) ∧ w.cell? ⟨p, 4, none⟩ = some (.int .i64 k) ∧ w.cell? ⟨p, 5, none⟩ = some kv ∧ w.cell? ⟨p, 6, none⟩ = some (.int .i64 l) ∧ ∀ i, w.frozen? ⟨p, i, none⟩ = false :=
  ⟨by rw [cell_of_row w p 3 _ _ (0, 0) h]; rfl, by rw [cell_of_row w p 4 _ _ (0, 0) h]; rfl, by rw [cell_of_row w p 5 _ _ (0, 0) h]; rfl, by rw [cell_of_row w p 6 _ _ (0, 0) h]; rfl, fun i => frozen_of_row w p i _ _ h⟩
theorem cE_set345 {w : World} {lv : Value} {k : Int} {kv : Value} {l : Int} (h : w.heap[p]? = some (cEq V lv k kv l)) (k2 : Int) (kv2 : Value) : (((w.setCell ⟨p, 3, none⟩ (.int .i64 0)).setCell ⟨p, 4, none⟩ (.int .i64 k2)).setCell ⟨p, 5, none⟩ kv2).heap[p]? = some (cEq V lv k2 kv2 l) := by
  have h1 := heap_setCell_same w p 3 _ _ (.int .i64 0) h
  have h2 := heap_setCell_same _ p 4 _ _ (.int .i64 k2) h1
  have h3 := heap_setCell_same _ p 5 _ _ kv2 h2
  exact h3
theorem cE_set6 {w : World} {lv : Value} {k : Int} {kv : Value} {l : Int} (h : w.heap[p]? = some (cEq V lv k kv l)) (l2 : Int) : (w.setCell ⟨p, 6, none⟩ (.int .i64 l2)).heap[p]? = some (cEq V lv k kv l2) := heap_setCell_same w p 6 _ _ (.int .i64 l2) h
theorem Rk.fated {w W : World} (h : Rk w p lv ka kb ko kc V) (hu : Upo (fun x => x = p) w W) {k : Int} {ks : List Bool} {l : Nat} {qa : Option Addr} {qb qo qc : Nat} (hb : W.heap[p]? = some (cEq V lv k (.slice qa ks.length qc) (l : Int))) (hk : RdL W qa qb qo ks) (ht : 0 < ks.length → Ty W qb 4) (hkl : ks.length ≤ 140737488355328) (hl : l ≤ 9223372036854775807) (hn : 0 < ks.length → w.heap.size ≤ qb) : RLeft w W p lv kb V { V with fk := k, ks := ks, left := l } := by
  refine ⟨lv, qa, qb, qo, qc, ⟨hb, row_keep h.own (fun g hg => hu.block g (h.own.lt g hg).2 (h.pl hg)), hk, ht, hkl, h.rm, h.ct, hl, h.srt, h.nm, h.sz, h.cn⟩, fun x hx => ?_, hu.mono (fun x _ q => .inl q)⟩
  rcases hx with rfl | hx | ⟨h0, rfl⟩
  · exact .inl (.inl rfl)
  · exact .inl (.inr (.inl hx))
  · exact .inr (hn h0)
theorem upo345q {w W : World} (h : Upo (fun x => x = p) w W) (a b c : Value) : Upo (fun x => x = p) w (((W.setCell ⟨p, 3, none⟩ a).setCell ⟨p, 4, none⟩ b).setCell ⟨p, 5, none⟩ c) := ((h.set _ _ _ (.inl rfl)).set _ _ _ (.inl rfl)).set _ _ _ (.inl rfl)
set_option maxRecDepth 100000 in
set_option maxHeartbeats 8000000 in
theorem rlay_any (w : World) (h : Rk w p lv ka kb ko kc V) (a k : Int) (ha : a ≤ 9223372036854775807) (qa : Option Addr) (qb qo qc : Nat) (ks : List Bool) (hk : RdL w qa qb qo ks) (hkl : ks.length ≤ 140737488355328) (hqn : qa = none → qc = 0) (hne : 0 < ks.length → qb ≠ p) :
    Calls Tryz.prog 39 #[.pointer (some ⟨p, 0, none⟩), .agg #[.int .i64 a, .int .i64 k, .slice qa ks.length qc]] w fun e w' => e = .returned (.tuple #[]) ∧ RLeft w w' p lv kb V (rlay V a k ks) := by
  obtain ⟨kl, hkl2⟩ : ∃ n, ks.length = n := ⟨_, rfl⟩
  obtain ⟨w1, hw1⟩ : ∃ W, w.alloc (.cells #[.int .i64 a, .int .i64 k, .slice qa kl qc] 62) = W := ⟨_, rfl⟩
  have HW1 := hide hw1
  have u1 : Below w.heap.size w w1 := by rw [← hw1]; exact bal (Below.refl _ _) _
  obtain ⟨bx, hbx⟩ : ∃ b, w.heap.size = b := ⟨_, rfl⟩
  have HBx := hide hbx
  have k1 : w1.heap[bx]? = some (.cells #[.int .i64 a, .int .i64 k, .slice qa kl qc] 62 (0, 0)) := by rw [← hw1, ← hbx]; exact new1 _ _
  have hpl : p < w.heap.size := h.lt (.inl rfl)
  have h1 := h.next u1
  have hp1 : w1.heap[p]? = some (cEq V lv V.fk (.slice ka V.ks.length kc) (V.left : Int)) := h1.blk
  obtain ⟨_, _, _, _, _, _, _, c7⟩ := h1.cells
  obtain ⟨c3, c4, c5, c6, cf⟩ := cE_cells hp1
  obtain ⟨x0, x1, x2⟩ := three_at k1
  rw [hkl2]
  unfold rlay
  cases ho : V.out
  · rw [ho] at c7
    rw [if_neg (by decide)]
    obtain ⟨w2, hw2⟩ : ∃ W, ((w1.setCell ⟨p, 3, none⟩ (.int .i64 0)).setCell ⟨p, 4, none⟩ (.int .i64 0)).setCell ⟨p, 5, none⟩ (.slice none 0 0) = W := ⟨_, rfl⟩
    have HW2 := hide hw2
    have hp2 : w2.heap[p]? = some (cEq V lv 0 (.slice none 0 0) (V.left : Int)) := by rw [← hw2]; exact cE_set345 hp1 0 _
    have up2 : Upo (fun x => x = p) w1 w2 := by rw [← hw2]; exact upo345q (Upo.refl _ _) _ _ _
    obtain ⟨w3, hw3⟩ : ∃ W, w2.setCell ⟨p, 6, none⟩ (.int .i64 0) = W := ⟨_, rfl⟩
    have HW3 := hide hw3
    have hp3 : w3.heap[p]? = some (cEq V lv 0 (.slice none 0 0) 0) := by rw [← hw3]; exact cE_set6 hp2 0
    have up3 : Upo (fun x => x = p) w1 w3 := by rw [← hw3]; exact up2.set _ _ _ (.inl rfl)
    have hbxp : bx ≠ p := by omega
    have k3 : w3.heap[bx]? = some (.cells #[.int .i64 a, .int .i64 k, .slice qa kl qc] 62 (0, 0)) := (up3.block bx (Array.getElem?_eq_some_iff.1 k1).1 hbxp).trans k1
    have up3w : Upo (fun x => x = p) w w3 := (Upo.of u1).trans up3 (fun _ _ q => q)
    obtain ⟨d3, d4, d5, d6, df⟩ := cE_cells hp2
    obtain ⟨e3, e4, e5, e6, ef⟩ := cE_cells hp3
    obtain ⟨y0, y1, y2⟩ := three_at k3
    have cf3 := cf 3
    have cf4 := cf 4
    have cf5 := cf 5
    have df6 := df 6
    by_cases hgo : 1 ≤ k ∧ k ≤ 5 ∧ 1 ≤ a
    · rw [if_pos hgo]
      obtain ⟨hg1, hg2, hg3⟩ := hgo
      obtain ⟨l, hl⟩ : ∃ l : Nat, a = (l : Int) := ⟨a.toNat, by omega⟩
      have hla : a.toNat = l := by omega
      rw [hla]
      -- the copy of keep
      have hb3 : Below w3.heap.size w3 (w3.alloc (.cells #[] 4)).drew := (bal (Below.refl _ _) _).drew
      have rk3 : RdL w3 qa qb qo ks := hk.same (fun h0 => up3w.block qb (hk.lt h0) (hne h0))
      obtain ⟨v4, w4, hrn, o4, g4⟩ := run_all_L (w3.alloc (.cells #[] 4)).drew 49 w3.heap.size _ [] (ownL_next (ownL_made w3) (bdq _)) qa qb qo qc ks (rk3.next hb3) hqn (by simpa using hkl) hb3.size
      rw [List.nil_append] at o4
      obtain ⟨a4, b4, cc4, hv4, r4, ht4⟩ := ownL_rd o4
      have hb4 : Below w3.heap.size w3 w4 := hb3.grown g4 hb3.size (fun k hk => by cases hk; exact Nat.le_refl _)
      have hsz3 : p < w3.heap.size := Nat.lt_of_lt_of_le hpl up3w.size
      have hp4 : w4.heap[p]? = some (cEq V lv 0 (.slice none 0 0) 0) := (hb4.block p hsz3).trans hp3
      obtain ⟨f3, f4, f5, f6, ff⟩ := cE_cells hp4
      have ff3 := ff 3
      have ff4 := ff 4
      have ff5 := ff 5
      obtain ⟨w5, hw5⟩ : ∃ W, ((w4.setCell ⟨p, 3, none⟩ (.int .i64 0)).setCell ⟨p, 4, none⟩ (.int .i64 k)).setCell ⟨p, 5, none⟩ (.slice a4 kl cc4) = W := ⟨_, rfl⟩
      have HW5 := hide hw5
      have hp5 : w5.heap[p]? = some (cEq V lv k (.slice a4 kl cc4) 0) := by rw [← hw5]; exact cE_set345 hp4 k _
      have up5 : Upo (fun x => x = p) w3 w5 := by rw [← hw5]; exact upo345q (Upo.of hb4) _ _ _
      obtain ⟨m3, m4, m5, m6, mf⟩ := cE_cells hp5
      have mf6 := mf 6
      have hbx3 : bx < w3.heap.size := (Array.getElem?_eq_some_iff.1 k3).1
      obtain ⟨n0, n1, n2⟩ := three_at (show w5.heap[bx]? = some (.cells #[.int .i64 a, .int .i64 k, .slice qa kl qc] 62 (0, 0)) from (up5.block bx hbx3 hbxp).trans k3)
      have hal3 := bal (Below.refl w3.heap.size w3) (.cells #[] 4)
      obtain ⟨s0, s1, s2⟩ := three_at (show (w3.alloc (.cells #[] 4)).heap[bx]? = some (.cells #[.int .i64 a, .int .i64 k, .slice qa kl qc] 62 (0, 0)) from (hal3.block bx hbx3).trans k3)
      obtain ⟨t0, t1, t2⟩ := three_at (show w4.heap[bx]? = some (.cells #[.int .i64 a, .int .i64 k, .slice qa kl qc] 62 (0, 0)) from (hb4.block bx hbx3).trans k3)
      have HZ : Hid (RLeft w (w5.setCell ⟨p, 6, none⟩ (.int .i64 a)) p lv kb V { V with fk := k, ks := ks, left := l, out := false }) := by
        have hp6 := cE_set6 hp5 a
        rw [← hkl2] at hp6
        have up6 : Upo (fun x => x = p) w (w5.setCell ⟨p, 6, none⟩ (.int .i64 a)) := (up3w.trans up5 (fun _ _ q => q)).set _ _ _ (.inl rfl)
        have hsame : 0 < ks.length → (w5.setCell ⟨p, 6, none⟩ (.int .i64 a)).heap[b4]? = w4.heap[b4]? := fun h0 => by
          have := (ht4 h0).2
          have hbp : b4 ≠ p := by omega
          rw [Below.heap_setCell _ _ _ _ hbp, ← hw5, Below.heap_setCell _ _ _ _ hbp, Below.heap_setCell _ _ _ _ hbp, Below.heap_setCell _ _ _ _ hbp]
        have hz := h.fated up6 (by rw [← hl]; exact hp6) (r4.same hsame) (fun h0 => (ht4 h0).1.same (hsame h0)) hkl (by omega) (fun h0 => by have := (ht4 h0).2; have := up3w.size; omega)
        rw [ho] at hz
        exact hz
      rw [hkl2] at hrn hv4
      rw [hv4] at hrn
      have hap := appR_of hrn
      clear h h1 hk hkl hqn hne ho hw1 u1 k1 hp1 hkl2 hw2 hp2 up2 hw3 hp3 up3 k3 up3w cf df ef hbx hbxp hpl hrn hv4 o4 g4 r4 ht4 hb4 hsz3 hp4 ff hw5 hp5 up5 mf hbx3 hal3 hb3 rk3 hl hla
      go_enter Tryz.func39, Tryz.ntmps39
      go_upto_region 1 with (fail)
      rw [HW1.out, HBx.out]
      go_upto_region 3 with (fail)
      rw [HW2.out]
      clear c3 c4 c5 c6 cf3 cf4 cf5 x0 x1 x2
      go_upto_region 4 with (fail)
      rw [HW3.out]
      clear d3 d4 d5 d6 df6
      go_upto_region 5 with (fail)
      go_region
      all_goals
        try rw [HW5.out]
        clear hap f3 f4 f5 f6 ff3 ff4 ff5 e3 e4 e5 e6 s0 s1 s2 t0 t1 t2
        go_wp2
        go_end0
        exact ⟨rfl, HZ.out⟩
    · rw [if_neg hgo]
      have HZ : Hid (RLeft w w3 p lv kb V { V with fk := 0, ks := [], left := 0, out := false }) := by
        have hz := h.fated (ks := []) (l := 0) up3w hp3 (rdl_nil _ none 0 0) (fun h0 => by simp at h0) (by simp) (by simp) (fun h0 => by simp at h0)
        rw [ho] at hz
        exact hz
      have hgo2 : ¬ (1 ≤ k) ∨ (1 ≤ k ∧ ¬ (k ≤ 5)) ∨ (1 ≤ k ∧ k ≤ 5 ∧ ¬ (1 ≤ a)) := by omega
      clear h h1 hk hkl hqn ho hw1 u1 k1 hp1 hkl2 hw2 hp2 up2 hw3 hp3 up3 k3 up3w hgo cf df ef e3 e4 e5 e6 hbx hbxp hpl
      go_enter Tryz.func39, Tryz.ntmps39
      go_upto_region 1 with (fail)
      rw [HW1.out, HBx.out]
      go_upto_region 3 with (fail)
      rw [HW2.out]
      clear c3 c4 c5 c6 cf3 cf4 cf5 x0 x1 x2
      go_upto_region 4 with (fail)
      rw [HW3.out]
      clear d3 d4 d5 d6 df6
      rcases hgo2 with q | ⟨q1, q2⟩ | ⟨q1, q2, q3⟩
      all_goals
        go_wp2
        go_end0
        exact ⟨rfl, HZ.out⟩
  · rw [ho] at c7
    rw [if_pos rfl]
    have HR := hide (RLeft.same h u1)
    clear h h1 hk hkl hqn ho hw1 u1 k1 hp1 c3 c4 c5 c6 cf x0 x1 x2 hkl2
    go_enter Tryz.func39, Tryz.ntmps39
    go_upto_region 1 with (fail)
    rw [HW1.out]
    go_wp2
    first | (refine bodyPost_ret (v := .tuple #[]) (by simp [results, Tryz.results39, go_sem]) rfl ⟨rfl, HR.out⟩) | (exact ⟨rfl, HR.out⟩)
end
end Go.Proofs.YthfnpagangjpbabGreat
namespace Go.Proofs.YthfnpagangjpbabGreat
open Go.RowKit
def rlayL (l : List (List UInt8 × List UInt8)) : List (List UInt8 × FV) := l.foldl (fun acc x => rput acc x.1 ⟨x.2, x.2⟩) []
theorem rlayL_snoc (l : List (List UInt8 × List UInt8)) (x : List UInt8 × List UInt8) : rlayL (l ++ [x]) = rput (rlayL l) x.1 ⟨x.2, x.2⟩ := by simp [rlayL]
theorem srt_rlay (l : List (List UInt8 × List UInt8)) : srt (rlayL l) := by
  refine rev_ind (P := fun l => srt (rlayL l)) (by simp [rlayL, srt]) (fun l x h => ?_) l
  rw [rlayL_snoc]
  exact srt_rput h _ _
theorem rlay_len (l : List (List UInt8 × List UInt8)) : (rlayL l).length ≤ l.length := by
  refine rev_ind (P := fun l => (rlayL l).length ≤ l.length) (by simp [rlayL]) (fun l x h => ?_) l
  rw [rlayL_snoc]
  have := rput_len (rlayL l) x.1 ⟨x.2, x.2⟩
  simp
  omega
theorem rlay_mem (l : List (List UInt8 × List UInt8)) : ∀ p ∈ rlayL l, p.1 ∈ nms l := by
  refine rev_ind (P := fun l => ∀ p ∈ rlayL l, p.1 ∈ nms l) (by simp [rlayL]) (fun l x h p hp => ?_) l
  rw [rlayL_snoc] at hp
  simp only [nms, List.map_append, List.mem_append]
  rcases rput_mem hp with hp | rfl
  · exact .inl (h p hp)
  · exact .inr (by simp)
theorem fput_none {L : List (List UInt8 × FV)} (ho : Ord L) {s : List UInt8} (h : s ∉ L.map (·.1)) : fput L s fz = L := by
  induction L with
  | nil => rfl
  | cons q r ih =>
    obtain ⟨t, g⟩ := q
    simp only [List.map_cons, List.mem_cons, not_or] at h
    rw [fput, if_neg (fun e => h.1 e.symm)]
    split
    · rw [if_pos (show fz.gone = true from rfl)]
    · rw [ih (ord_tail ho) h.2]
theorem filt_rlay (l : List (List UInt8 × List UInt8)) : (nms l).Nodup → filt (rlayL l) = layL l ∧ tot (rlayL l) = byt l := by
  refine rev_ind (P := fun l => (nms l).Nodup → filt (rlayL l) = layL l ∧ tot (rlayL l) = byt l) (fun _ => ⟨rfl, rfl⟩) (fun l x ih hn => ?_) l
  have h1 : nms (l ++ [x]) = nms l ++ [x.1] := by simp [nms]
  rw [h1] at hn
  have h2 := List.nodup_append.1 hn
  obtain ⟨i1, i2⟩ := ih h2.1
  have hno : x.1 ∉ nms l := fun hm => h2.2.2 _ hm _ (List.mem_singleton.2 rfl) rfl
  have hno2 : x.1 ∉ (filt (rlayL l)).map (·.1) := fun hm => by
    obtain ⟨p, hp, e⟩ := List.mem_map.1 hm
    have := rlay_mem l p (filt_mem hp).1
    rw [e] at this
    exact hno this
  have hg : fget (rlayL l) x.1 = fz := by rw [← fget_filt (srt_rlay l)]; exact fget_none hno2
  refine ⟨?_, ?_⟩
  · rw [rlayL_snoc, filt_rput (srt_rlay l), layL_snoc]
    split
    · rename_i h0
      rw [h0]
      have := fput_none (ord_filt (srt_rlay l)) hno2
      rw [← i1]
      exact this
    · rw [i1]
  · rw [rlayL_snoc, byt_snoc]
    have e1 := tot_put (ord_filt (srt_rlay l)) x.1 ⟨x.2, x.2⟩
    rw [← filt_rput (srt_rlay l), tot_filt, tot_filt, fget_filt (srt_rlay l), hg] at e1
    simp only [fz, List.length_nil, Nat.add_zero] at e1
    rw [e1, i2]
def openR (room : Nat) (l : List (List UInt8 × List UInt8)) : RV := { newR room with L := rlayL l }
theorem sim_open (room : Nat) (l : List (List UInt8 × List UInt8)) (hn : (nms l).Nodup) (hb : byt l ≤ room) : Sim (openD room l) (openR room l) := by
  obtain ⟨h1, h2⟩ := filt_rlay l hn
  exact ⟨h1.symm, srt_rlay l, rfl, rfl, fun _ => by show room - byt l + tot (rlayL l) = room; rw [h2]; omega, fun q => (by cases q), .inl ⟨rfl, rfl⟩⟩
theorem sim_new (room : Nat) : Sim (newD room) (newR room) := ⟨rfl, by simp [newR, srt], rfl, rfl, fun _ => by show room + 0 = room; rfl, fun q => (by cases q), .inl ⟨rfl, rfl⟩⟩
def RoQ (w : World) (n : Nat) (l : List (List UInt8 × List UInt8)) (e : Ending) (w' : World) : Prop :=
  (¬ canL l ∧ e = .returned (.tuple #[.pointer none, .int .i64 173]) ∧ Below w.heap.size w w') ∨
  (canL l ∧ n < byt l ∧ e = .returned (.tuple #[.pointer none, .int .i64 172]) ∧ Below w.heap.size w w') ∨
  (canL l ∧ byt l ≤ n ∧ Below w.heap.size w w' ∧ ∃ p S, e = .returned (.tuple #[.pointer (some ⟨p, 0, none⟩), .int .i64 0]) ∧ Rsk w' p S (openR n l) ∧ ∀ x, S x → w.heap.size ≤ x)
end Go.Proofs.YthfnpagangjpbabGreat
namespace Go.Proofs.YthfnpagangjpbabGreat
open Go.RowKit
set_option maxRecDepth 100000 in
set_option maxHeartbeats 8000000 in
theorem ropen_any (w : World) (room : Int) (n : Nat) (hn : n = room.toNat) (h2 : room ≤ 9223372036854775807) (ao : Option Addr) (b off c : Nat) (l : List (List UInt8 × List UInt8)) (hr : RdF w ao b off l) (hs : ∀ x ∈ l, x.1.length ≤ maxLen) (hl : l.length < 1073741824) (hby : byt l ≤ 4611686018427387904) :
    Calls Tryz.prog 6 #[.int .i64 room, .slice ao l.length c] w (RoQ w n l) := by
  have HN := hide (rnew_any w room n hn h2)
  obtain ⟨m, hm⟩ : ∃ m, l.length = m := ⟨_, rfl⟩
  have HH : Hid (RdF w ao b off l ∧ (∀ x ∈ l, x.1.length ≤ maxLen) ∧ l.length = m ∧ m < 1073741824 ∧ byt l ≤ 4611686018427387904 ∧ n ≤ 9223372036854775807) := ⟨hr, hs, hm, by omega, hby, by omega⟩
  rw [hm]
  clear hr hs hl hm hn h2 hby
  go_enter Tryz.func6, Tryz.ntmps6
  go_upto_region 2 with (go_at_call 17; (with_reducible refine HN.out.mono ?_); rintro e w1 ⟨p, S, rfl, ds1, hs1, u1⟩)
  obtain ⟨lv1, ka, kb, ko, kc, r1, hq1⟩ := ds1
  have hpw : w.heap.size ≤ p := hs1 p ((hq1 p).1 (.inl rfl))
  have HS0 : Hid (Rk w1 p lv1 ka kb ko kc { newR n with L := rlayL (l.take 0) } ∧ (∀ g, lv1.ownBlock = some g → w.heap.size ≤ g) ∧ Below w.heap.size w w1 ∧ canL (l.take 0)) := by
    exact ⟨r1, fun g hg => hs1 g ((hq1 g).1 (.inr (.inl hg))), u1, by simp [canL, nms]⟩
  have HP : Hid (w.heap.size ≤ p) := hpw
  clear r1 hpw u1 HN hs1 hq1
  go_wp2
  go_loopg [7, 8, 9] m (fun g x y z wr => ∃ (j : Nat) (lv : Value), j ≤ m ∧ g = m - j ∧ y = .int .i64 (j : Int) ∧ x = .int .i64 (byt (l.take j) : Int) ∧ Hid (Rk wr p lv ka kb ko kc { newR n with L := rlayL (l.take j) } ∧ (∀ g, lv.ownBlock = some g → w.heap.size ≤ g) ∧ Below w.heap.size w wr ∧ canL (l.take j)))
  case atStart => exact ⟨0, lv1, Nat.zero_le _, rfl, rfl, rfl, HS0⟩
  case round =>
    clear HS0
    obtain ⟨j, lv, hj, rfl, rfl, rfl, HO⟩ := hrel
    obtain ⟨q1, q2, q3, q4, q5, q6⟩ := HH.out
    by_cases hlt : j < m
    · obtain ⟨⟨t, x⟩, hx⟩ : ∃ x, l.getD j ([], []) = x := ⟨_, rfl⟩
      have hxm : (t, x) ∈ l := by
        rw [← hx, List.getD_eq_getElem?_getD, List.getElem?_eq_getElem (by omega)]
        exact List.getElem_mem _
      have rr := q1.next HO.out.2.2.1
      have e0 := rr.c0 j (by omega)
      have e1 := rr.c1 j (by omega)
      rw [hx] at e0 e1
      simp only at e0 e1
      have ea := q1.ptr (by omega)
      subst ea
      obtain ⟨tb, htb⟩ : ∃ a : ByteArray, ⟨t.toArray⟩ = a := ⟨_, rfl⟩
      obtain ⟨xb, hxb⟩ : ∃ a : ByteArray, ⟨x.toArray⟩ = a := ⟨_, rfl⟩
      rw [htb] at e0
      rw [hxb] at e1
      have htl : tb.data.toList = t := by rw [← htb]
      have hxl : xb.data.toList = x := by rw [← hxb]
      have hxz : xb.size = x.length := by rw [← size_list, hxl]
      have htz : tb.size ≤ maxLen := by rw [← size_list, htl]; exact q2 _ hxm
      have hi1 : (0 : Int) ≤ (j : Int) := by omega
      have hi2 : (j : Int) < (m : Int) := by omega
      have hw : IntKind.i64.wrap ((j : Int) + 1) = (j : Int) + 1 := by rw [IntKind.wrap_i64]; omega
      have htk : l.take (j + 1) = l.take j ++ [(t, x)] := by rw [← hx]; exact take_snoc _ _ _ (by omega)
      have hbt := byt_snoc (l.take j) (t, x)
      rw [← htk] at hbt
      simp only at hbt
      have hbl := byt_take l (j + 1)
      by_cases hbig : 268435456 < x.length
      · have hb' : (xb.size : Int) > 268435456 := by omega
        have HZ : Hid (RoQ w n l (.returned (.tuple #[.pointer none, .int .i64 173])) wr) := .inl ⟨fun hc => by have := hc.2 _ hxm; simp only at this; omega, rfl, HO.out.2.2.1⟩
        clear q1 q2 q3 q4 q5 q6 hx hxm rr htb hxb htl hxl hxz htz htk hbt hbl hbig HO hj hlt
        go_wp2
        go_ret2
        exact HZ.out
      · have hb' : ¬ ((xb.size : Int) > 268435456) := by omega
        obtain ⟨sm, hsm⟩ : ∃ k, byt (l.take j) = k := ⟨_, rfl⟩
        obtain ⟨sm2, hsm2⟩ : ∃ k, byt (l.take (j + 1)) = k := ⟨_, rfl⟩
        have hws : IntKind.i64.wrap ((sm : Int) + (xb.size : Int)) = (sm2 : Int) := by rw [IntKind.wrap_i64]; omega
        have HE : Hid (∀ W, Below w.heap.size w W → ∀ i, i < m → W.cell? ⟨b, off + i * 2, none⟩ = some (.string ⟨(l.getD i ([], [])).1.toArray⟩) ∧ W.cell? ⟨b, off + i * 2 + 1, none⟩ = some (.string ⟨(l.getD i ([], [])).2.toArray⟩)) := fun W hW i hi => by
          have := HH.out.1.next hW
          exact ⟨this.c0 i (by have := HH.out.2.2.1; omega), this.c1 i (by have := HH.out.2.2.1; omega)⟩
        have HX : Hid (l.getD j ([], []) = (t, x) ∧ (t, x) ∈ l ∧ tb.data.toList = t ∧ xb.data.toList = x ∧ tb.size ≤ maxLen ∧ xb.size ≤ 268435456 ∧ l.take (j + 1) = l.take j ++ [(t, x)] ∧ byt (l.take (j + 1)) = sm2 ∧ j < m ∧ x.length ≤ 268435456 ∧ m < 1073741824 ∧ l.length = m) := ⟨hx, hxm, htl, hxl, htz, by omega, htk, hsm2, hlt, by omega, q4, q3⟩
        rw [hsm]
        clear q1 q2 q3 q4 q5 q6 hx hxm rr htb hxb htl hxl hxz htz htk hbt hbl hbig hj hlt hsm hsm2
        go_wp2
        go_loopg [9] j (fun g z wx => ∃ k : Nat, k ≤ j ∧ g = j - k ∧ z = .int .i64 (k : Int) ∧ Hid (Rk wx p lv ka kb ko kc { newR n with L := rlayL (l.take j) } ∧ Below w.heap.size w wx ∧ ∀ i, i < k → (l.getD i ([], [])).1 ≠ t))
        case atStart =>
          go_light
          exact ⟨0, Nat.zero_le _, rfl, rfl, HO.out.1, HO.out.2.2.1, fun i hi => absurd hi (Nat.not_lt_zero i)⟩
        case round =>
          obtain ⟨k, hk, rfl, rfl, HQ⟩ := hrel
          clear e0 e1
          obtain ⟨e0, e1⟩ := HE.out wr HQ.out.2.1 j HX.out.2.2.2.2.2.2.2.2.1
          rw [HX.out.1] at e0 e1
          simp only at e0 e1
          have htb : (⟨t.toArray⟩ : ByteArray) = tb := by rw [← HX.out.2.2.1]
          have hxb : (⟨x.toArray⟩ : ByteArray) = xb := by rw [← HX.out.2.2.2.1]
          rw [htb] at e0
          rw [hxb] at e1
          by_cases hkj : k < j
          · have hk1 : (k : Int) < (j : Int) := by omega
            have hk2 : (0 : Int) ≤ (k : Int) := by omega
            have hk3 : (k : Int) < (m : Int) := by omega
            have hwk : IntKind.i64.wrap ((k : Int) + 1) = (k : Int) + 1 := by have := HX.out; rw [IntKind.wrap_i64]; omega
            have f0 := (HE.out wr HQ.out.2.1 k (by omega)).1
            obtain ⟨yb, hyb⟩ : ∃ a : ByteArray, ⟨(l.getD k ([], [])).1.toArray⟩ = a := ⟨_, rfl⟩
            rw [hyb] at f0
            have hyl : yb.data.toList = (l.getD k ([], [])).1 := by rw [← hyb]
            by_cases hty : yb = tb
            · have HZ : Hid (∀ W, Below wr.heap.size wr W → RoQ w n l (.returned (.tuple #[.pointer none, .int .i64 173])) W) := fun W hW => .inl ⟨fun hc => by
                obtain ⟨g1, g2, g3, g4, g5, g6, g7, g8, g9, g10, g11, g12⟩ := HX.out
                have hkl : k < (nms l).length := by rw [nms, List.length_map]; omega
                have hjl : j < (nms l).length := by rw [nms, List.length_map]; omega
                have e1 : (nms l)[k] = (nms l)[j] := by
                  simp only [nms, List.getElem_map]
                  have a1 : l.getD k ([], []) = l[k]'(by omega) := by rw [List.getD_eq_getElem?_getD, List.getElem?_eq_getElem (by omega)]; rfl
                  have a2 : l.getD j ([], []) = l[j]'(by omega) := by rw [List.getD_eq_getElem?_getD, List.getElem?_eq_getElem (by omega)]; rfl
                  rw [← a1, ← a2, ← hyl, g1, hty, g3]
                exact List.pairwise_iff_getElem.1 hc.1 k j hkl hjl hkj e1, rfl, bnext HQ.out.2.1 hW⟩
              subst hty
              clear HQ hyb hyl HX HE htb hxb hk hkj
              go_upto_region 11 with (fail)
              go_quiet (fail)
              go_wp2
              go_ret2
              exact HZ.out _ (below_drewN (Below.refl _ _) _)
            · have hbe := beq_ne hty
              have HZ : Hid (∀ W, Below wr.heap.size wr W → Rk W p lv ka kb ko kc { newR n with L := rlayL (l.take j) } ∧ Below w.heap.size w W ∧ ∀ i, i < k + 1 → (l.getD i ([], [])).1 ≠ t) := fun W hW => ⟨HQ.out.1.next hW, bnext HQ.out.2.1 hW, fun i hi => by
                rcases Nat.lt_or_ge i k with q | q
                · exact HQ.out.2.2 i q
                · obtain rfl : i = k := by omega
                  intro e
                  exact hty (ba_ext (by rw [hyl, e, HX.out.2.2.1]))⟩
              clear HQ hyb hyl htb hxb hty
              go_upto_region 11 with (fail)
              go_quiet (fail)
              go_wp2
              go_roundg (j - (k + 1))
              case rel =>
                go_light
                exact ⟨k + 1, by omega, rfl, by go_num, HZ.out _ (below_drewN (Below.refl _ _) _)⟩
              case measure => go_light; omega
          · obtain rfl : k = j := by omega
            have hk1 : ¬ ((k : Int) < (k : Int)) := by omega
            obtain ⟨g1, g2, g3, g4, g5, g6, g7, g8, g9, g10, g11, g12⟩ := HX.out
            have hcan : canL (l.take (k + 1)) := by
              obtain ⟨c1, c2⟩ := HO.out.2.2.2
              refine ⟨?_, fun y hy => ?_⟩
              · rw [g7]
                simp only [nms, List.map_append, List.map_cons, List.map_nil]
                refine List.nodup_append.2 ⟨c1, by simp, fun a ha b' hb' e => ?_⟩
                have hb2 : b' = t := by simpa using hb'
                subst hb2
                subst e
                obtain ⟨y, hy, rfl⟩ := List.mem_map.1 ha
                obtain ⟨i, hi, hyi⟩ := List.getElem_of_mem hy
                rw [List.length_take] at hi
                have := HQ.out.2.2 i (by omega)
                apply this
                rw [List.getD_eq_getElem?_getD, List.getElem?_eq_getElem (by omega)]
                rw [List.getElem_take] at hyi
                show (l[i]).1 = y.1
                rw [hyi]
              · rw [g7] at hy
                rcases List.mem_append.1 hy with hy | hy
                · exact c2 y hy
                · simp at hy
                  subst hy
                  exact g10
            have HPu : Hid (∀ W, Below wr.heap.size wr W → Calls Tryz.prog 23 #[.pointer (some ⟨p, 0, none⟩), .agg #[.string tb, .string xb, .string xb]] W fun e w' => e = .returned (.tuple #[]) ∧ ∃ lv', Hid (Rk w' p lv' ka kb ko kc { newR n with L := rlayL (l.take (k + 1)) } ∧ (∀ g, lv'.ownBlock = some g → w.heap.size ≤ g) ∧ Below w.heap.size w w' ∧ canL (l.take (k + 1)))) := fun W hW => by
              have hW2 := bnext HQ.out.2.1 hW
              have := rput_any W (HQ.out.1.next hW) tb xb xb g5 g6 g6 (by show (rlayL (l.take k)).length < _; have := rlay_len (l.take k); rw [List.length_take] at this; omega)
              refine this.mono fun e w' z => ⟨z.1, ?_⟩
              obtain ⟨_, lv', r', n', up'⟩ := z
              refine ⟨lv', ?_, fun g hg => Nat.le_trans hW2.size (n' g hg), upo_below hW2 (fun y hy => by rw [hy]; exact HP.out) up', hcan⟩
              rw [g7, rlayL_snoc]
              rw [g3, g4] at r'
              exact r'
            have HCs : Hid (∀ W, Below wr.heap.size wr W → W.cell? ⟨b, off + k * 2, none⟩ = some (.string tb) ∧ W.cell? ⟨b, off + k * 2 + 1, none⟩ = some (.string xb)) := fun W hW => by
              obtain ⟨e0, e1⟩ := HE.out W (bnext HQ.out.2.1 hW) k g9
              rw [g1] at e0 e1
              simp only at e0 e1
              rw [htb] at e0
              rw [hxb] at e1
              exact ⟨e0, e1⟩
            have HCf : Hid (∀ W, Below w.heap.size w W → W.cell? ⟨b, off + k * 2, none⟩ = some (.string tb) ∧ W.cell? ⟨b, off + k * 2 + 1, none⟩ = some (.string xb)) := fun W hW => by
              obtain ⟨e0, e1⟩ := HE.out W hW k g9
              rw [g1] at e0 e1
              simp only at e0 e1
              rw [htb] at e0
              rw [hxb] at e1
              exact ⟨e0, e1⟩
            have HB : Hid (Below w.heap.size w wr ∧ byt (l.take (k + 1)) = sm2 ∧ k + 1 ≤ m) := ⟨HQ.out.2.1, g8, g9⟩
            clear g1 g2 g3 g4 g5 g6 g7 g8 g9 g10 g11 g12 HX HQ HE HO htb hxb hcan hk hkj
            go_upto_region 14 with (fail)
            have tw := bdq wr
            go_region_held3 (fun Z => Z.cell? ⟨b, off + k * 2, none⟩ = some (.string tb) ∧ Z.cell? ⟨b, off + k * 2 + 1, none⟩ = some (.string xb)) (first | assumption | (exact HCs.out _ tw) | (exact ⟨e0, e1⟩) | (exact h5s)) (first
              | (go_at_call 23; (with_reducible refine (HPu.out _ tw).mono ?_); rintro e w5 ⟨rfl, lv5, HR5⟩; have h5s := HCf.out w5 HR5.out.2.2.1))
            all_goals
              go_wp2
              go_roundg (m - (k + 1))
              case rel =>
                go_light
                exact ⟨k + 1, lv5, HB.out.2.2, rfl, by go_num, by rw [HB.out.2.1], HR5⟩
              case measure => go_light; have := HB.out.2.2; omega
    · obtain rfl : j = m := by omega
      have hz : ¬ ((j : Int) < (j : Int)) := by omega
      have htk : l.take j = l := List.take_of_length_le (by omega)
      have hO := HO.out
      rw [htk] at hO
      obtain ⟨o1, o2, o3, o4⟩ := hO
      obtain ⟨y0, _⟩ := o1.cells
      have y0' : wr.cell? ⟨p, 0, none⟩ = some (.int .i64 (n : Int)) := y0
      rw [htk]
      obtain ⟨sm, hsm⟩ : ∃ k, byt l = k := ⟨_, rfl⟩
      rw [hsm]
      by_cases hfit : sm ≤ n
      · have hf' : ¬ ((sm : Int) > (n : Int)) := by omega
        have HZ : Hid (RoQ w n l (.returned (.tuple #[.pointer (some ⟨p, 0, none⟩), .int .i64 0])) wr) := .inr (.inr ⟨o4, by omega, o3, p, RFoot p lv kb { newR n with L := rlayL l }, rfl, ⟨lv, ka, kb, ko, kc, o1, fun _ => Iff.rfl⟩, fun x hx => by
          rcases hx with rfl | hx | ⟨h0, _⟩
          · exact HP.out
          · exact o2 x hx
          · simp [newR] at h0⟩)
        clear q1 q2 q3 q4 q5 q6 htk o1 o2 o3 o4 y0 hsm hfit HO hj hlt
        go_wp2
        go_ret2
        exact HZ.out
      · have hf' : (n : Int) < (sm : Int) := by omega
        have HZ : Hid (RoQ w n l (.returned (.tuple #[.pointer none, .int .i64 172])) wr) := .inr (.inl ⟨o4, by omega, rfl, o3⟩)
        clear q1 q2 q3 q4 q5 q6 htk o1 o2 o3 o4 y0 hsm hfit HO hj hlt
        go_wp2
        go_ret2
        exact HZ.out
end Go.Proofs.YthfnpagangjpbabGreat
