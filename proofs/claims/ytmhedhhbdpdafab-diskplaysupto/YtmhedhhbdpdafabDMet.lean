/-
  The looks, the fate that is met, New, Lay. Own work.
-/
import Derived.Test.YtmhedhhbdpdafabDPut
import Derived.Deep.RegionWith
namespace Go.Proofs.Ytmhedhhbdpdafab
open Go.RowKit
theorem hide {p : Prop} (h : p) : Hid p := h
section
variable {w W : World} {p m : Nat} {R : List UInt8 → FR} {ka : Option Addr} {kb ko kc : Nat} {D : DV}
theorem acts_any (w : World) (h : Dk w p m R ka kb ko kc D none) : Calls Try.prog 15 #[.pointer (some ⟨p, 0, none⟩)] w fun e w' => e = .returned (.int .i64 (D.acts : Int)) ∧ w' = w := by
  obtain ⟨c0, c1, c2, c3, c4, c5, c6⟩ := h.cells
  clear h
  go_enter Try.func15, Try.ntmps15
  go_wp2
  go_ret
  exact ⟨rfl, rfl⟩
theorem down_any (w : World) (h : Dk w p m R ka kb ko kc D none) : Calls Try.prog 19 #[.pointer (some ⟨p, 0, none⟩)] w fun e w' => e = .returned (.bool D.down) ∧ w' = w := by
  obtain ⟨c0, c1, c2, c3, c4, c5, c6⟩ := h.cells
  clear h
  go_enter Try.func19, Try.ntmps19
  go_wp2
  go_ret
  exact ⟨rfl, rfl⟩
theorem size_any (w : World) (h : Dk w p m R ka kb ko kc D none) (s : ByteArray) (hs : s.size ≤ maxLen) (n : Nat) (hn : Hid ((if D.down then 0 else (fget D.L s.data.toList).now.length) = n)) :
    Calls Try.prog 12 #[.pointer (some ⟨p, 0, none⟩), .string s] w fun e w' => e = .returned (.int .i64 (n : Int)) ∧ w' = w := by
  obtain ⟨c0, c1, c2, c3, c4, c5, c6⟩ := h.cells
  obtain ⟨r, hl, _⟩ := h.look s hs
  have hl1 := hl w rfl
  have hfld := field_F
  cases hd : D.down
  · have hn2 : (fget D.L s.data.toList).now.length = n := by have := hn.out; simpa [hd] using this
    simp only [fval, fv, hn2] at hl1
    rw [hd] at c6
    clear h hd hl hn hn2
    go_enter Try.func12, Try.ntmps12
    go_wp2
    go_ret
    exact ⟨rfl, rfl⟩
  · have hn2 : 0 = n := by have := hn.out; simpa [hd] using this
    subst hn2
    rw [hd] at c6
    clear h hd hl hn hl1
    go_enter Try.func12, Try.ntmps12
    go_wp2
    go_ret
    exact ⟨rfl, rfl⟩
/-- The disk's own cells have changed. -/
theorem Dk.re {ex : Option (List UInt8)} (h : Dk w p m R ka kb ko kc D ex) (hu : Upo (fun x => x = p) w W) {D' : DV} (hL : D'.L = D.L) {ka' : Option Addr} {kc' : Nat}
    (hblk : W.heap[p]? = some (.cells #[.int .i64 (D'.free : Int), .map (some m), .int .i64 (D'.acts : Int), .int .i64 D'.fa, .int .i64 D'.fk, .slice ka' D'.ks.length kc', .bool D'.down] 62 (0, 0)))
    (hk : (D'.ks = D.ks ∧ ka' = ka) ∨ D'.ks = []) (fr : D'.free ≤ 9223372036854775807) (ac : D'.acts ≤ 4611686018427387904) (ft : D'.fk = 0 ∨ (1 ≤ D'.fk ∧ D'.fk ≤ 5 ∧ 1 ≤ D'.fa ∧ D'.fa ≤ 9223372036854775807)) : Dk W p m R ka' kb ko kc' D' ex := by
  have ky : ∀ x, Ty w x 5 → W.heap[x]? = w.heap[x]? := fun x hx => hu.block x hx.lt (h.other hx).1
  have kk : 0 < D.ks.length → W.heap[kb]? = w.heap[kb]? := fun h0 => hu.block kb (h.kt h0).lt (h.kbp h0).1
  refine ⟨hblk, by rw [hL]; exact h.mp.same (hu.block m h.mp.lt fun e => h.pm e.symm), by rw [hL]; exact h.ord, by rw [hL]; exact fun s hs he => (h.fil s hs he).same fun x hx => ky x (h.low s hs x hx), by rw [hL]; exact fun s hs x hx => (h.low s hs x hx).same (ky x (h.low s hs x hx)), by rw [hL]; exact h.apart, by rw [hL]; exact h.nm, by rw [hL]; exact h.cnt, ?_, ?_, ?_, fr, ac, ft⟩
  · rcases hk with ⟨e1, e2⟩ | e1
    · rw [e1, e2]; exact h.kp.same kk
    · rw [e1]; exact rdl_nil _ _ _ _
  · rcases hk with ⟨e1, e2⟩ | e1
    · rw [e1]; exact fun h0 => (h.kt h0).same (kk h0)
    · rw [e1]; intro h0; simp at h0
  · rcases hk with ⟨e1, e2⟩ | e1
    · rw [e1]; exact h.kl
    · rw [e1]; simp
/-- The disk, the kind and the choices of the fate that is met. -/
def metD (D : DV) : DV × Int × List Bool := if D.fk = 0 then (D, 0, []) else if 1 < D.fa then ({ D with fa := D.fa - 1 }, 0, []) else ({ D with fa := 0, fk := 0, ks := [] }, D.fk, D.ks)
/-- A fate's value. -/
def fateV (a k : Int) (ka : Option Addr) (n kc : Nat) : Value := .agg #[.int .i64 a, .int .i64 k, .slice ka n kc]
set_option maxRecDepth 100000 in
set_option maxHeartbeats 1000000 in
theorem met_any (w : World) (h : Dk w p m R ka kb ko kc D none) : Calls Try.prog 56 #[.pointer (some ⟨p, 0, none⟩)] w fun e w' => ∃ ka' kc' qa qc x, e = .returned (fateV x (metD D).2.1 qa (metD D).2.2.length qc) ∧ Dk w' p m R ka' kb ko kc' (metD D).1 none ∧ RdL w' qa kb ko (metD D).2.2 ∧ Upo (fun x => x = p) w w' := by
  have hpl := h.lt (.inl rfl)
  have HH : Hid (Dk w p m R ka kb ko kc D none) := h
  obtain ⟨w1, hw1⟩ : ∃ W, w.alloc (.cells #[.int .i64 0, .int .i64 0, .slice none 0 0] 60) = W := ⟨_, rfl⟩
  have HW : Hid (w.alloc (.cells #[.int .i64 0, .int .i64 0, .slice none 0 0] 60) = w1) := hw1
  have hb : Below w.heap.size w w1 := by rw [← hw1]; exact bal (Below.refl _ _) _
  have k1 : w1.heap[w.heap.size]? = some (.cells #[.int .i64 0, .int .i64 0, .slice none 0 0] 60 (0, 0)) := by rw [← hw1]; exact new1 _ _
  have h1 := h.next hb
  obtain ⟨c0, c1, c2, c3, c4, c5, c6⟩ := h1.cells
  have fz := fun j => h1.frz j
  have fy := fun j => frozen_of_row w1 w.heap.size j _ _ k1
  obtain ⟨b0, b1, b2⟩ := three_at k1
  have HB : Hid (Below w.heap.size w w1 ∧ Dk w1 p m R ka kb ko kc D none ∧ p < w.heap.size ∧ w1.heap[w.heap.size]? = some (.cells #[.int .i64 0, .int .i64 0, .slice none 0 0] 60 (0, 0))) := ⟨hb, h1, hpl, k1⟩
  have ft := h.ft
  clear h hb h1 k1 hw1 hpl
  by_cases hk : D.fk = 0
  · have e1 : metD D = (D, 0, []) := by rw [metD, if_pos hk]
    rw [e1]
    rw [hk] at c4
    clear hk e1 ft
    go_enter Try.func56, Try.ntmps56
    go_upto_region 1 with (fail)
    rw [HW.out]
    go_wp2
    obtain ⟨w5, hw5⟩ : ∃ W, ((w1.setCell ⟨w.heap.size, 0, none⟩ (.int .i64 0)).setCell ⟨w.heap.size, 1, none⟩ (.int .i64 0)).setCell ⟨w.heap.size, 2, none⟩ (.slice none 0 0) = W := ⟨_, rfl⟩
    have q := three_at (set3_at HB.out.2.2.2 (.int .i64 0) (.int .i64 0) (.slice none 0 0))
    rw [hw5] at q
    rw [hw5]
    obtain ⟨s0, s1, s2⟩ := q
    have hb5 : Below w.heap.size w w5 := by
      rw [← hw5]
      exact ((HB.out.1.setCell (p := ⟨w.heap.size, 0, none⟩) (Nat.le_refl _) _).setCell (p := ⟨w.heap.size, 1, none⟩) (Nat.le_refl _) _).setCell (p := ⟨w.heap.size, 2, none⟩) (Nat.le_refl _) _
    refine bodyPost_ret (v := fateV 0 0 none 0 0) (by simp [results, Try.results56, go_sem, fateV, s0, s1, s2]) rfl ⟨ka, kc, none, 0, 0, rfl, HH.out.next hb5, rdl_nil _ _ _ _, Upo.of hb5⟩
  · have hk1 : (D.fk == 0) = false := by simpa using hk
    obtain ⟨f1, f2, f3, f4⟩ := ft.resolve_left hk
    have e0 : IntKind.i64.wrap (D.fa - 1) = D.fa - 1 := by rw [IntKind.wrap_i64]; omega
    obtain ⟨y, hy⟩ : ∃ y, D.fa - 1 = y := ⟨_, rfl⟩
    rw [show (IntKind.i64.wrap (D.fa - 1) = D.fa - 1) ↔ (IntKind.i64.wrap (D.fa - 1) = y) by rw [hy]] at e0
    obtain ⟨w2, hw2⟩ : ∃ W, w1.setCell ⟨p, 3, none⟩ (.int .i64 y) = W := ⟨_, rfl⟩
    have HW2 : Hid (w1.setCell ⟨p, 3, none⟩ (.int .i64 y) = w2) := hw2
    have j2 : w2.heap[p]? = some (.cells #[.int .i64 (D.free : Int), .map (some m), .int .i64 (D.acts : Int), .int .i64 y, .int .i64 D.fk, .slice ka D.ks.length kc, .bool D.down] 62 (0, 0)) := by
      rw [← hw2]
      exact heap_setCell_same w1 p 3 _ _ _ HB.out.2.1.blk
    have hu2 : Upo (fun x => x = p) w w2 := by rw [← hw2]; exact (Upo.of HB.out.1).set p 3 _ (.inl rfl)
    have k2 : w2.heap[w.heap.size]? = some (.cells #[.int .i64 0, .int .i64 0, .slice none 0 0] 60 (0, 0)) := by
      rw [← hw2]
      exact (Below.heap_setCell _ _ _ _ (by have := HB.out.2.2.1; show w.heap.size ≠ p; omega)).trans HB.out.2.2.2
    obtain ⟨b0, b1, b2⟩ := three_at k2
    have fy2 := fun j => frozen_of_row w2 w.heap.size j _ _ k2
    have fz2 := fun j => frozen_of_row w2 p j _ _ j2
    have d3 : w2.cell? ⟨p, 3, none⟩ = some (.int .i64 y) := by rw [cell_of_row w2 p 3 _ _ (0, 0) j2]; rfl
    have d4 : w2.cell? ⟨p, 4, none⟩ = some (.int .i64 D.fk) := by rw [cell_of_row w2 p 4 _ _ (0, 0) j2]; rfl
    have d5 : w2.cell? ⟨p, 5, none⟩ = some (.slice ka D.ks.length kc) := by rw [cell_of_row w2 p 5 _ _ (0, 0) j2]; rfl
    have HJ : Hid (w2.heap[p]? = some (.cells #[.int .i64 (D.free : Int), .map (some m), .int .i64 (D.acts : Int), .int .i64 y, .int .i64 D.fk, .slice ka D.ks.length kc, .bool D.down] 62 (0, 0)) ∧ Upo (fun x => x = p) w w2 ∧ w2.heap[w.heap.size]? = some (.cells #[.int .i64 0, .int .i64 0, .slice none 0 0] 60 (0, 0)) ∧ p < w.heap.size ∧ w2.heap.size = w.heap.size + 1) := ⟨j2, hu2, k2, HB.out.2.2.1, by rw [← hw2, ← HW.out]; simp⟩
    clear hw2 j2 hu2 k2
    by_cases hy0 : 0 < y
    · have e1 : metD D = ({ D with fa := y }, 0, []) := by rw [metD, if_neg hk, if_pos (by omega), hy]
      rw [e1]
      have HD : Hid (∀ W, Below w2.heap.size w2 W ∨ (Upo (fun x => x = w.heap.size) w2 W) → Dk W p m R ka kb ko kc { D with fa := y } none ∧ Upo (fun x => x = p) w W) := fun W hW => by
        have hu : Upo (fun x => x = p) w W := HJ.out.2.1.trans (T := fun x => x = w.heap.size) (hW.elim (fun q => Upo.of q) id) (fun b hb e => by omega)
        refine ⟨HH.out.re (D' := { D with fa := y }) hu rfl ?_ (.inl ⟨rfl, rfl⟩) HH.out.fr HH.out.ac (.inr ⟨f1, f2, by show 1 ≤ y; omega, by show y ≤ _; omega⟩), hu⟩
        refine Eq.trans ?_ HJ.out.1
        rcases hW with q | q
        · exact q.block p (by have := HJ.out.2.2.2; omega)
        · exact q.block p (by have := HJ.out.2.2.2; omega) (fun e => by have := HJ.out.2.2.2.1; omega)
      have hk2 : ¬ D.fk = 0 := hk
      clear e1 f1 f2 f3 f4 hy ft hk HB
      go_enter Try.func56, Try.ntmps56
      go_upto_region 1 with (fail)
      rw [HW.out]
      go_upto_region 4 with (fail)
      rw [HW2.out]
      go_wp2
      obtain ⟨w5, hw5⟩ : ∃ W, ((w2.setCell ⟨w.heap.size, 0, none⟩ (.int .i64 0)).setCell ⟨w.heap.size, 1, none⟩ (.int .i64 0)).setCell ⟨w.heap.size, 2, none⟩ (.slice none 0 0) = W := ⟨_, rfl⟩
      have q := three_at (set3_at HJ.out.2.2.1 (.int .i64 0) (.int .i64 0) (.slice none 0 0))
      rw [hw5] at q
      rw [hw5]
      obtain ⟨s0, s1, s2⟩ := q
      obtain ⟨hD, hU⟩ := HD.out w5 (.inr (by rw [← hw5]; exact (((Upo.refl (fun x => x = w.heap.size) w2).set _ _ _ (.inl rfl)).set _ _ _ (.inl rfl)).set _ _ _ (.inl rfl)))
      refine bodyPost_ret (v := fateV 0 0 none 0 0) (by simp [results, Try.results56, go_sem, fateV, s0, s1, s2]) rfl ⟨ka, kc, none, 0, 0, rfl, hD, rdl_nil _ _ _ _, hU⟩
    · have e1 : metD D = ({ D with fa := 0, fk := 0, ks := [] }, D.fk, D.ks) := by rw [metD, if_neg hk, if_neg (by omega)]
      rw [e1]
      have hk2 : ¬ D.fk = 0 := hk
      obtain rfl : y = 0 := by omega
      clear e1 f1 f2 f3 f4 hy ft hk HB hy0
      go_enter Try.func56, Try.ntmps56
      go_upto_region 1 with (fail)
      rw [HW.out]
      go_upto_region 4 with (fail)
      rw [HW2.out]
      go_upto_region 7 with (fail)
      obtain ⟨w3, hw3⟩ : ∃ W, w2.alloc (.cells #[.int .i64 0, .int .i64 D.fk, .slice ka D.ks.length kc] 60) = W := ⟨_, rfl⟩
      rw [hw3]
      obtain ⟨j2, hu2, k2, hpl, hz2⟩ := HJ.out
      have hb3 : Below w2.heap.size w2 w3 := by rw [← hw3]; exact bal (Below.refl _ _) _
      have j3 := (hb3.block p (by omega)).trans j2
      have k3 := (hb3.block w.heap.size (by omega)).trans k2
      have n3 : w3.heap[w2.heap.size]? = some (.cells #[.int .i64 0, .int .i64 D.fk, .slice ka D.ks.length kc] 60 (0, 0)) := by rw [← hw3]; exact new1 _ _
      have a3 : w3.cell? ⟨p, 3, none⟩ = some (.int .i64 0) := by rw [cell_of_row w3 p 3 _ _ (0, 0) j3]; rfl
      have a4 : w3.cell? ⟨p, 4, none⟩ = some (.int .i64 D.fk) := by rw [cell_of_row w3 p 4 _ _ (0, 0) j3]; rfl
      have a5 : w3.cell? ⟨p, 5, none⟩ = some (.slice ka D.ks.length kc) := by rw [cell_of_row w3 p 5 _ _ (0, 0) j3]; rfl
      have g3 := fun j => frozen_of_row w3 p j _ _ j3
      obtain ⟨w4, hw4⟩ : ∃ W, ((w3.setCell ⟨p, 3, none⟩ (.int .i64 0)).setCell ⟨p, 4, none⟩ (.int .i64 0)).setCell ⟨p, 5, none⟩ (.slice none 0 0) = W := ⟨_, rfl⟩
      have HW4 : Hid (((w3.setCell ⟨p, 3, none⟩ (.int .i64 0)).setCell ⟨p, 4, none⟩ (.int .i64 0)).setCell ⟨p, 5, none⟩ (.slice none 0 0) = w4) := hw4
      have hu4 : Upo (fun x => x = p) w3 w4 := by rw [← hw4]; exact (((Upo.refl (fun x => x = p) w3).set _ _ _ (.inl rfl)).set _ _ _ (.inl rfl)).set _ _ _ (.inl rfl)
      have j4 : w4.heap[p]? = some (.cells #[.int .i64 (D.free : Int), .map (some m), .int .i64 (D.acts : Int), .int .i64 0, .int .i64 0, .slice none 0 0, .bool D.down] 62 (0, 0)) := by
        rw [← hw4]
        have q1 : (w3.setCell ⟨p, 3, none⟩ (.int .i64 0)).heap[p]? = some (.cells #[.int .i64 (D.free : Int), .map (some m), .int .i64 (D.acts : Int), .int .i64 0, .int .i64 D.fk, .slice ka D.ks.length kc, .bool D.down] 62 (0, 0)) := heap_setCell_same w3 p 3 _ _ _ j3
        have q2 : ((w3.setCell ⟨p, 3, none⟩ (.int .i64 0)).setCell ⟨p, 4, none⟩ (.int .i64 0)).heap[p]? = some (.cells #[.int .i64 (D.free : Int), .map (some m), .int .i64 (D.acts : Int), .int .i64 0, .int .i64 0, .slice ka D.ks.length kc, .bool D.down] 62 (0, 0)) := heap_setCell_same _ p 4 _ _ _ q1
        exact heap_setCell_same _ p 5 _ _ _ q2
      have hz3 : w3.heap.size = w2.heap.size + 1 := by rw [← hw3]; simp
      have n4 := (hu4.block w2.heap.size (by omega) (fun e => by omega)).trans n3
      have k4 := (hu4.block w.heap.size (by omega) (fun e => by omega)).trans k3
      obtain ⟨x0, x1, x2⟩ := three_at n4
      obtain ⟨z0, z1, z2⟩ := three_at k4
      have gz := fun j => frozen_of_row w4 w.heap.size j _ _ k4
      have HF : Hid (w4.heap[p]? = some (.cells #[.int .i64 (D.free : Int), .map (some m), .int .i64 (D.acts : Int), .int .i64 0, .int .i64 0, .slice none 0 0, .bool D.down] 62 (0, 0)) ∧ Upo (fun x => x = p) w w4 ∧ w4.heap[w.heap.size]? = some (.cells #[.int .i64 0, .int .i64 0, .slice none 0 0] 60 (0, 0)) ∧ p < w.heap.size) := ⟨j4, (hu2.next hb3).trans hu4 (fun _ _ q => q), k4, hpl⟩
      clear hw3 hw4 j2 hu2 k2 hz2 hb3 j3 k3 n3 hu4 j4 hz3 n4 k4 HJ
      go_upto_region 8 with (fail)
      rw [HW4.out]
      go_wp2
      obtain ⟨w5, hw5⟩ : ∃ W, ((w4.setCell ⟨w.heap.size, 0, none⟩ (.int .i64 0)).setCell ⟨w.heap.size, 1, none⟩ (.int .i64 D.fk)).setCell ⟨w.heap.size, 2, none⟩ (.slice ka D.ks.length kc) = W := ⟨_, rfl⟩
      have q := three_at (set3_at HF.out.2.2.1 (.int .i64 0) (.int .i64 D.fk) (.slice ka D.ks.length kc))
      rw [hw5] at q
      rw [hw5]
      obtain ⟨s0, s1, s2⟩ := q
      have hu5 : Upo (fun x => x = w.heap.size) w4 w5 := by rw [← hw5]; exact (((Upo.refl (fun x => x = w.heap.size) w4).set _ _ _ (.inl rfl)).set _ _ _ (.inl rfl)).set _ _ _ (.inl rfl)
      have hU : Upo (fun x => x = p) w w5 := HF.out.2.1.trans hu5 (fun b hb e => by omega)
      have hD : Dk w5 p m R none kb ko 0 { D with fa := 0, fk := 0, ks := [] } none := HH.out.re (D' := { D with fa := 0, fk := 0, ks := [] }) hU rfl ((hu5.block p (by have := HF.out.2.2.2; have := HF.out.2.1.size; omega) (fun e => by have := HF.out.2.2.2; omega)).trans HF.out.1) (.inr rfl) HH.out.fr HH.out.ac (.inl rfl)
      refine bodyPost_ret (v := fateV 0 D.fk ka D.ks.length kc) (by simp [results, Try.results56, go_sem, fateV, s0, s1, s2]) rfl ⟨none, 0, ka, kc, 0, rfl, hD, HH.out.kp.same fun h0 => hU.block kb (HH.out.kt h0).lt (HH.out.kbp h0).1, hU⟩
end
end Go.Proofs.Ytmhedhhbdpdafab
