/-
  Lay of the document's disk. Own work.
-/
import Derived.Test.YtmhedhhbdpdafabGQo
import Derived.Test.YtmhedhhbdpdafabGKd
import Derived.BigRegion
namespace Go.Proofs.Ytmhedhhbdpdafab
open Go.RowKit
attribute [local go_sem ↓] exec_appR
section
variable {p : Nat} {lv : Value} {ka : Option Addr} {kb ko kc : Nat} {V : RV}
/-- Its block, any fate. -/
def cE (V : RV) (lv : Value) (k : Int) (kv : Value) (l : Int) : Obj := .cells #[.int .i64 (V.room : Int), lv, .int .i64 (V.cnt : Int), .int .i64 0, .int .i64 k, kv, .int .i64 l, .bool V.out] 65 (0, 0)
theorem cE_cells {w : World} {lv : Value} {k : Int} {kv : Value} {l : Int} (h : w.heap[p]? = some (cE V lv k kv l)) : w.cell? ⟨p, 3, none⟩ = some (.int .i64 0) ∧ w.cell? ⟨p, 4, none⟩ = some (.int .i64 k) ∧ w.cell? ⟨p, 5, none⟩ = some kv ∧ w.cell? ⟨p, 6, none⟩ = some (.int .i64 l) ∧ ∀ i, w.frozen? ⟨p, i, none⟩ = false :=
  ⟨by rw [cell_of_row w p 3 _ _ (0, 0) h]; rfl, by rw [cell_of_row w p 4 _ _ (0, 0) h]; rfl, by rw [cell_of_row w p 5 _ _ (0, 0) h]; rfl, by rw [cell_of_row w p 6 _ _ (0, 0) h]; rfl, fun i => frozen_of_row w p i _ _ h⟩
theorem cE_set345 {w : World} {lv : Value} {k : Int} {kv : Value} {l : Int} (h : w.heap[p]? = some (cE V lv k kv l)) (k2 : Int) (kv2 : Value) : (((w.setCell ⟨p, 3, none⟩ (.int .i64 0)).setCell ⟨p, 4, none⟩ (.int .i64 k2)).setCell ⟨p, 5, none⟩ kv2).heap[p]? = some (cE V lv k2 kv2 l) := by
  have h1 := heap_setCell_same w p 3 _ _ (.int .i64 0) h
  have h2 := heap_setCell_same _ p 4 _ _ (.int .i64 k2) h1
  have h3 := heap_setCell_same _ p 5 _ _ kv2 h2
  exact h3
theorem cE_set6 {w : World} {lv : Value} {k : Int} {kv : Value} {l : Int} (h : w.heap[p]? = some (cE V lv k kv l)) (l2 : Int) : (w.setCell ⟨p, 6, none⟩ (.int .i64 l2)).heap[p]? = some (cE V lv k kv l2) := heap_setCell_same w p 6 _ _ (.int .i64 l2) h
/-- Another fate in it. -/
theorem Rk.fated {w W : World} (h : Rk w p lv ka kb ko kc V) (hu : Upo (fun x => x = p) w W) {k : Int} {ks : List Bool} {l : Nat} {qa : Option Addr} {qb qo qc : Nat} (hb : W.heap[p]? = some (cE V lv k (.slice qa ks.length qc) (l : Int))) (hk : RdL W qa qb qo ks) (ht : 0 < ks.length → Ty W qb 4) (hkl : ks.length ≤ 140737488355328) (hl : l ≤ 9223372036854775807) (hn : 0 < ks.length → w.heap.size ≤ qb) : RLeft w W p lv kb V { V with fk := k, ks := ks, left := l } := by
  refine ⟨lv, qa, qb, qo, qc, ⟨hb, row_keep h.own (fun g hg => hu.block g (h.own.lt g hg).2 (h.pl hg)), hk, ht, hkl, h.rm, h.ct, hl, h.srt, h.nm, h.sz, h.cn⟩, fun x hx => ?_, hu.mono (fun x _ q => .inl q)⟩
  rcases hx with rfl | hx | ⟨h0, rfl⟩
  · exact .inl (.inl rfl)
  · exact .inl (.inr (.inl hx))
  · exact .inr (hn h0)
theorem upo345q {w W : World} (h : Upo (fun x => x = p) w W) (a b c : Value) : Upo (fun x => x = p) w (((W.setCell ⟨p, 3, none⟩ a).setCell ⟨p, 4, none⟩ b).setCell ⟨p, 5, none⟩ c) := ((h.set _ _ _ (.inl rfl)).set _ _ _ (.inl rfl)).set _ _ _ (.inl rfl)
set_option maxRecDepth 100000 in
set_option maxHeartbeats 8000000 in
theorem rlay_any (w : World) (h : Rk w p lv ka kb ko kc V) (a k : Int) (ha : a ≤ 9223372036854775807) (qa : Option Addr) (qb qo qc : Nat) (ks : List Bool) (hk : RdL w qa qb qo ks) (hkl : ks.length ≤ 140737488355328) (hqn : qa = none → qc = 0) (hne : 0 < ks.length → qb ≠ p) :
    Calls Try.prog 25 #[.pointer (some ⟨p, 0, none⟩), .agg #[.int .i64 a, .int .i64 k, .slice qa ks.length qc]] w fun e w' => e = .returned (.tuple #[]) ∧ RLeft w w' p lv kb V (rlay V a k ks) := by
  obtain ⟨kl, hkl2⟩ : ∃ n, ks.length = n := ⟨_, rfl⟩
  obtain ⟨w1, hw1⟩ : ∃ W, w.alloc (.cells #[.int .i64 a, .int .i64 k, .slice qa kl qc] 60) = W := ⟨_, rfl⟩
  have HW1 := hide hw1
  have u1 : Below w.heap.size w w1 := by rw [← hw1]; exact bal (Below.refl _ _) _
  obtain ⟨bx, hbx⟩ : ∃ b, w.heap.size = b := ⟨_, rfl⟩
  have HBx := hide hbx
  have k1 : w1.heap[bx]? = some (.cells #[.int .i64 a, .int .i64 k, .slice qa kl qc] 60 (0, 0)) := by rw [← hw1, ← hbx]; exact new1 _ _
  have hpl : p < w.heap.size := h.lt (.inl rfl)
  have h1 := h.next u1
  have hp1 : w1.heap[p]? = some (cE V lv V.fk (.slice ka V.ks.length kc) (V.left : Int)) := h1.blk
  obtain ⟨_, _, _, _, _, _, _, c7⟩ := h1.cells
  obtain ⟨c3, c4, c5, c6, cf⟩ := cE_cells hp1
  obtain ⟨x0, x1, x2⟩ := three_at k1
  rw [hkl2]
  unfold rlay
  cases ho : V.out
  · rw [ho] at c7
    rw [if_neg (by decide)]
    obtain ⟨w2, hw2⟩ : ∃ W, ((w1.setCell ⟨p, 3, none⟩ (.int .i64 0)).setCell ⟨p, 4, none⟩ (.int .i64 0)).setCell ⟨p, 5, none⟩ (.slice none 0 0) = W := ⟨_, rfl⟩
    have HW2 := hide hw2
    have hp2 : w2.heap[p]? = some (cE V lv 0 (.slice none 0 0) (V.left : Int)) := by rw [← hw2]; exact cE_set345 hp1 0 _
    have up2 : Upo (fun x => x = p) w1 w2 := by rw [← hw2]; exact upo345q (Upo.refl _ _) _ _ _
    obtain ⟨w3, hw3⟩ : ∃ W, w2.setCell ⟨p, 6, none⟩ (.int .i64 0) = W := ⟨_, rfl⟩
    have HW3 := hide hw3
    have hp3 : w3.heap[p]? = some (cE V lv 0 (.slice none 0 0) 0) := by rw [← hw3]; exact cE_set6 hp2 0
    have up3 : Upo (fun x => x = p) w1 w3 := by rw [← hw3]; exact up2.set _ _ _ (.inl rfl)
    have hbxp : bx ≠ p := by omega
    have k3 : w3.heap[bx]? = some (.cells #[.int .i64 a, .int .i64 k, .slice qa kl qc] 60 (0, 0)) := (up3.block bx (Array.getElem?_eq_some_iff.1 k1).1 hbxp).trans k1
    have up3w : Upo (fun x => x = p) w w3 := (Upo.of u1).trans up3 (fun _ _ q => q)
    obtain ⟨d3, d4, d5, d6, df⟩ := cE_cells hp2
    obtain ⟨e3, e4, e5, e6, ef⟩ := cE_cells hp3
    obtain ⟨y0, y1, y2⟩ := three_at k3
    have cf3 := cf 3
    have cf4 := cf 4
    have cf5 := cf 5
    have df6 := df 6
    by_cases hgo : 1 ≤ k ∧ k ≤ 5 ∧ 1 ≤ a
    · rw [if_pos hgo]
      obtain ⟨hg1, hg2, hg3⟩ := hgo
      obtain ⟨l, hl⟩ : ∃ l : Nat, a = (l : Int) := ⟨a.toNat, by omega⟩
      have hla : a.toNat = l := by omega
      rw [hla]
      -- the copy of keep
      have hb3 : Below w3.heap.size w3 (w3.alloc (.cells #[] 4)).drew := (bal (Below.refl _ _) _).drew
      have rk3 : RdL w3 qa qb qo ks := hk.same (fun h0 => up3w.block qb (hk.lt h0) (hne h0))
      obtain ⟨v4, w4, hrn, o4, g4⟩ := run_all_L (w3.alloc (.cells #[] 4)).drew 36 w3.heap.size _ [] (ownL_next (ownL_made w3) (bdq _)) qa qb qo qc ks (rk3.next hb3) hqn (by simpa using hkl) hb3.size
      rw [List.nil_append] at o4
      obtain ⟨a4, b4, cc4, hv4, r4, ht4⟩ := ownL_rd o4
      have hb4 : Below w3.heap.size w3 w4 := hb3.grown g4 hb3.size (fun k hk => by cases hk; exact Nat.le_refl _)
      have hsz3 : p < w3.heap.size := Nat.lt_of_lt_of_le hpl up3w.size
      have hp4 : w4.heap[p]? = some (cE V lv 0 (.slice none 0 0) 0) := (hb4.block p hsz3).trans hp3
      obtain ⟨f3, f4, f5, f6, ff⟩ := cE_cells hp4
      have ff3 := ff 3
      have ff4 := ff 4
      have ff5 := ff 5
      obtain ⟨w5, hw5⟩ : ∃ W, ((w4.setCell ⟨p, 3, none⟩ (.int .i64 0)).setCell ⟨p, 4, none⟩ (.int .i64 k)).setCell ⟨p, 5, none⟩ (.slice a4 kl cc4) = W := ⟨_, rfl⟩
      have HW5 := hide hw5
      have hp5 : w5.heap[p]? = some (cE V lv k (.slice a4 kl cc4) 0) := by rw [← hw5]; exact cE_set345 hp4 k _
      have up5 : Upo (fun x => x = p) w3 w5 := by rw [← hw5]; exact upo345q (Upo.of hb4) _ _ _
      obtain ⟨m3, m4, m5, m6, mf⟩ := cE_cells hp5
      have mf6 := mf 6
      have hbx3 : bx < w3.heap.size := (Array.getElem?_eq_some_iff.1 k3).1
      obtain ⟨n0, n1, n2⟩ := three_at (show w5.heap[bx]? = some (.cells #[.int .i64 a, .int .i64 k, .slice qa kl qc] 60 (0, 0)) from (up5.block bx hbx3 hbxp).trans k3)
      have hal3 := bal (Below.refl w3.heap.size w3) (.cells #[] 4)
      obtain ⟨s0, s1, s2⟩ := three_at (show (w3.alloc (.cells #[] 4)).heap[bx]? = some (.cells #[.int .i64 a, .int .i64 k, .slice qa kl qc] 60 (0, 0)) from (hal3.block bx hbx3).trans k3)
      obtain ⟨t0, t1, t2⟩ := three_at (show w4.heap[bx]? = some (.cells #[.int .i64 a, .int .i64 k, .slice qa kl qc] 60 (0, 0)) from (hb4.block bx hbx3).trans k3)
      have HZ : Hid (RLeft w (w5.setCell ⟨p, 6, none⟩ (.int .i64 a)) p lv kb V { V with fk := k, ks := ks, left := l, out := false }) := by
        have hp6 := cE_set6 hp5 a
        rw [← hkl2] at hp6
        have up6 : Upo (fun x => x = p) w (w5.setCell ⟨p, 6, none⟩ (.int .i64 a)) := (up3w.trans up5 (fun _ _ q => q)).set _ _ _ (.inl rfl)
        have hsame : 0 < ks.length → (w5.setCell ⟨p, 6, none⟩ (.int .i64 a)).heap[b4]? = w4.heap[b4]? := fun h0 => by
          have := (ht4 h0).2
          have hbp : b4 ≠ p := by omega
          rw [Below.heap_setCell _ _ _ _ hbp, ← hw5, Below.heap_setCell _ _ _ _ hbp, Below.heap_setCell _ _ _ _ hbp, Below.heap_setCell _ _ _ _ hbp]
        have hz := h.fated up6 (by rw [← hl]; exact hp6) (r4.same hsame) (fun h0 => (ht4 h0).1.same (hsame h0)) hkl (by omega) (fun h0 => by have := (ht4 h0).2; have := up3w.size; omega)
        rw [ho] at hz
        exact hz
      rw [hkl2] at hrn hv4
      rw [hv4] at hrn
      have hap := appR_of hrn
      clear h h1 hk hkl hqn hne ho hw1 u1 k1 hp1 hkl2 hw2 hp2 up2 hw3 hp3 up3 k3 up3w cf df ef hbx hbxp hpl hrn hv4 o4 g4 r4 ht4 hb4 hsz3 hp4 ff hw5 hp5 up5 mf hbx3 hal3 hb3 rk3 hl hla
      go_enter Try.func25, Try.ntmps25
      go_upto_region 1 with (fail)
      rw [HW1.out, HBx.out]
      go_upto_region 3 with (fail)
      rw [HW2.out]
      clear c3 c4 c5 c6 cf3 cf4 cf5 x0 x1 x2
      go_upto_region 4 with (fail)
      rw [HW3.out]
      clear d3 d4 d5 d6 df6
      go_upto_region 5 with (fail)
      go_region
      all_goals
        try rw [HW5.out]
        clear hap f3 f4 f5 f6 ff3 ff4 ff5 e3 e4 e5 e6 s0 s1 s2 t0 t1 t2
        go_wp2
        go_end0
        exact ⟨rfl, HZ.out⟩
    · rw [if_neg hgo]
      have HZ : Hid (RLeft w w3 p lv kb V { V with fk := 0, ks := [], left := 0, out := false }) := by
        have hz := h.fated (ks := []) (l := 0) up3w hp3 (rdl_nil _ none 0 0) (fun h0 => by simp at h0) (by simp) (by simp) (fun h0 => by simp at h0)
        rw [ho] at hz
        exact hz
      have hgo2 : ¬ (1 ≤ k) ∨ (1 ≤ k ∧ ¬ (k ≤ 5)) ∨ (1 ≤ k ∧ k ≤ 5 ∧ ¬ (1 ≤ a)) := by omega
      clear h h1 hk hkl hqn ho hw1 u1 k1 hp1 hkl2 hw2 hp2 up2 hw3 hp3 up3 k3 up3w hgo cf df ef e3 e4 e5 e6 hbx hbxp hpl
      go_enter Try.func25, Try.ntmps25
      go_upto_region 1 with (fail)
      rw [HW1.out, HBx.out]
      go_upto_region 3 with (fail)
      rw [HW2.out]
      clear c3 c4 c5 c6 cf3 cf4 cf5 x0 x1 x2
      go_upto_region 4 with (fail)
      rw [HW3.out]
      clear d3 d4 d5 d6 df6
      rcases hgo2 with q | ⟨q1, q2⟩ | ⟨q1, q2, q3⟩
      all_goals
        go_wp2
        go_end0
        exact ⟨rfl, HZ.out⟩
  · rw [ho] at c7
    rw [if_pos rfl]
    have HR := hide (RLeft.same h u1)
    clear h h1 hk hkl hqn ho hw1 u1 k1 hp1 c3 c4 c5 c6 cf x0 x1 x2 hkl2
    go_enter Try.func25, Try.ntmps25
    go_upto_region 1 with (fail)
    rw [HW1.out]
    go_wp2
    first | (refine bodyPost_ret (v := .tuple #[]) (by simp [results, Try.results25, go_sem]) rfl ⟨rfl, HR.out⟩) | (exact ⟨rfl, HR.out⟩)
end
end Go.Proofs.Ytmhedhhbdpdafab
