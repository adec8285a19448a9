/-
  plays: Write, Cut, Sync, and what looks. Own work.
-/
import Derived.Test.YtmhedhhbdpdafabQLks
namespace Go.Proofs.Ytmhedhhbdpdafab
open Go.RowKit
section
variable {F : Nat → Prop} {pa p r k : Nat} {D : DV} {V : RV}
theorem Pq.start {w w1 : World} (h : Pq w w F pa p r D V) (hb : Below w.heap.size w w1) : Pq w1 w1 F pa p r D V := by
  have hl := h.lt
  obtain ⟨S, T, h1, h2, h3, h4, h5, h6, h7, h8, h9, hA⟩ := h
  exact ⟨S, T, (hb.block pa hl).trans h1, h2.next hb, h3.next hb, h4, h5, h6, fun x hx => (h7 x hx).imp id (fun q => absurd (h2.lt hx) (Nat.not_lt.2 q)), fun x hx => (h8 x hx).imp id (fun q => absurd (h3.lt hx) (Nat.not_lt.2 q)), h9.imp id (fun q => absurd hl (Nat.not_lt.2 q)), Upo.refl _ _⟩
theorem Pq.back {w w1 W : World} (h : Pq w1 W F pa p r D V) (hb : Below w.heap.size w w1) : Pq w W F pa p r D V := by
  obtain ⟨S, T, h1, h2, h3, h4, h5, h6, h7, h8, h9, hA⟩ := h
  exact ⟨S, T, h1, h2, h3, h4, h5, h6, fun x hx => (h7 x hx).imp id (fun q => Nat.le_trans hb.size q), fun x hx => (h8 x hx).imp id (fun q => Nat.le_trans hb.size q), h9.imp id (fun q => Nat.le_trans hb.size q), (Upo.of hb).trans hA (fun _ _ q => q)⟩
theorem PL.of {w W : World} (h : Pq w W F pa p r D V) (hb : Bd D V (k + 1)) : PL w W F pa k := ⟨p, r, D, V, hb, h⟩
set_option maxRecDepth 100000 in
set_option maxHeartbeats 8000000 in
theorem plays_act (w : World) (h : Pq w w F pa p r D V) (hF : ∀ x, F x → x < w.heap.size) (hb : Bd D V k) (hk1 : k + 1 ≤ 2097152) (kind which x n : Int) (hkd : kind = 1 ∨ kind = 2 ∨ kind = 3) (nm dt : ByteArray) (ka : Option Addr) (kn kc : Nat) (hs : nm.size ≤ maxLen) (ht : dt.size ≤ 140737488355328) (ho1 : -9223372036854775808 ≤ x) (ho2 : x ≤ 9223372036854775807) :
    Calls Try.prog 8 #[.pointer (some ⟨pa, 0, none⟩), .agg #[.int .i64 kind, .int .i64 which, .string nm, .string dt, .int .i64 x, .int .i64 n, .slice ka kn kc]] w fun e w' => e = .returned (.bool true) ∧ PL w w' F pa k := by
  obtain ⟨w1, hw1⟩ : ∃ W, w.alloc (.cells #[.int .i64 kind, .int .i64 which, .string nm, .string dt, .int .i64 x, .int .i64 n, .slice ka kn kc] 38) = W := ⟨_, rfl⟩
  have HW := hide hw1
  obtain ⟨bo, hbo⟩ : ∃ b, w.heap.size = b := ⟨_, rfl⟩
  have HBo := hide hbo
  have u1 : Below w.heap.size w w1 := by rw [← hw1]; exact bal (Below.refl _ _) _
  have k1 : w1.heap[bo]? = some (.cells #[.int .i64 kind, .int .i64 which, .string nm, .string dt, .int .i64 x, .int .i64 n, .slice ka kn kc] 38 (0, 0)) := by rw [← hw1, ← hbo]; exact new1 _ _
  have t1 := h.start u1
  have HC : Hid (∀ W D V, Pq w1 W F pa p r D V → W.cell? ⟨pa, 0, none⟩ = some (.pointer (some ⟨p, 0, none⟩)) ∧ W.cell? ⟨pa, 1, none⟩ = some (.pointer (some ⟨r, 0, none⟩)) ∧ W.cell? ⟨bo, 2, none⟩ = some (.string nm) ∧ W.cell? ⟨bo, 3, none⟩ = some (.string dt) ∧ W.cell? ⟨bo, 4, none⟩ = some (.int .i64 x)) := fun W D V hW => by
    have kk := (hW.upo.block bo (Array.getElem?_eq_some_iff.1 k1).1 (fun q => by have := hF bo q; omega)).trans k1
    obtain ⟨q0, q1⟩ := hW.cells
    refine ⟨q0, q1, ?_, ?_, ?_⟩
    · rw [cell_of_row W _ 2 _ _ (0, 0) kk]; rfl
    · rw [cell_of_row W _ 3 _ _ (0, 0) kk]; rfl
    · rw [cell_of_row W _ 4 _ _ (0, 0) kk]; rfl
  have d0 : w1.cell? ⟨bo, 0, none⟩ = some (.int .i64 kind) := by rw [cell_of_row w1 _ 0 _ _ (0, 0) k1]; rfl
  have hdl := Pq.dlen hb
  have hda : D.acts + 1 ≤ 4611686018427387904 := by rw [hb.sim.acts]; exact hb.fit.ct
  have hdr := h.room hb nm.data.toList
  have htt : tot V.L ≤ 4611686018427387904 := by have := h.tot hb; omega
  rcases hkd with rfl | rfl | rfl
  · obtain ⟨D', hD'⟩ : ∃ a, (wrD D nm.data.toList x dt.data.toList).1 = a := ⟨_, rfl⟩
    obtain ⟨V', hV'⟩ : ∃ a, (rwr V nm.data.toList x dt.data.toList).1 = a := ⟨_, rfl⟩
    obtain ⟨re, hre⟩ : ∃ a, (rwr V nm.data.toList x dt.data.toList).2 = a := ⟨_, rfl⟩
    have HD : Hid (∀ W, Pq w1 W F pa p r D V → Calls Try.prog 10 #[.pointer (some ⟨p, 0, none⟩), .string nm, .int .i64 x, .string dt] W fun e w' => e = .returned (.int .i64 re) ∧ Pq w1 w' F pa p r D' V) := fun W hW => by
      have := hW.dwrite nm hs x ho1 ho2 dt ht hda hdl hdr
      rw [(hb.sim.write nm.data.toList x dt.data.toList).1, hre, hD'] at this
      exact this
    have HR : Hid (∀ W, Pq w1 W F pa p r D' V → Calls Try.prog 22 #[.pointer (some ⟨r, 0, none⟩), .string nm, .int .i64 x, .string dt] W fun e w' => e = .returned (.int .i64 re) ∧ Pq w1 w' F pa p r D' V') := fun W hW => by
      have := hW.rwrite hb.fit nm hs x dt ht htt
      rw [hre, hV'] at this
      exact this
    have HZ : Hid (∀ W, Pq w1 W F pa p r D' V' → PL w W F pa k) := fun W hW => PL.of (hW.back u1) (by rw [← hD', ← hV']; exact hb.write hk1 _ _ _)
    clear h hF hb hk1 hs ht ho1 ho2 hw1 hbo u1 k1 hdl hda hdr htt hD' hV' hre
    go_enter Try.func8, Try.ntmps8
    go_upto_region 1 with (fail)
    rw [HW.out, HBo.out]
    go_upto_region 3 with (fail)
    have tw := t1.next (bdq _)
    go_region_held3 (fun Z => Z.cell? ⟨pa, 0, none⟩ = some (.pointer (some ⟨p, 0, none⟩)) ∧ Z.cell? ⟨pa, 1, none⟩ = some (.pointer (some ⟨r, 0, none⟩)) ∧ Z.cell? ⟨bo, 2, none⟩ = some (.string nm) ∧ Z.cell? ⟨bo, 3, none⟩ = some (.string dt) ∧ Z.cell? ⟨bo, 4, none⟩ = some (.int .i64 x)) (first | assumption | (exact HC.out _ _ _ tw) | (exact HC.out _ _ _ t1)) (first
      | (go_at_call 10; (with_reducible refine (HD.out _ tw).mono ?_); rintro e w2 ⟨rfl, tw⟩)
      | (go_at_call 22; (with_reducible refine (HR.out _ tw).mono ?_); rintro e w3 ⟨rfl, tw⟩))
    all_goals
      go_wp2
      go_ret
      exact ⟨rfl, HZ.out _ tw⟩
  · obtain ⟨D', hD'⟩ : ∃ a, (cutD D nm.data.toList x).1 = a := ⟨_, rfl⟩
    obtain ⟨V', hV'⟩ : ∃ a, (rcut V nm.data.toList x).1 = a := ⟨_, rfl⟩
    obtain ⟨re, hre⟩ : ∃ a, (rcut V nm.data.toList x).2 = a := ⟨_, rfl⟩
    have HD : Hid (∀ W, Pq w1 W F pa p r D V → Calls Try.prog 16 #[.pointer (some ⟨p, 0, none⟩), .string nm, .int .i64 x] W fun e w' => e = .returned (.int .i64 re) ∧ Pq w1 w' F pa p r D' V) := fun W hW => by
      have := hW.dcut nm hs x ho1 ho2 hda hdl hdr
      rw [(hb.sim.cut nm.data.toList x).1, hre, hD'] at this
      exact this
    have HR : Hid (∀ W, Pq w1 W F pa p r D' V → Calls Try.prog 23 #[.pointer (some ⟨r, 0, none⟩), .string nm, .int .i64 x] W fun e w' => e = .returned (.int .i64 re) ∧ Pq w1 w' F pa p r D' V') := fun W hW => by
      have := hW.rcut hb.fit nm hs x
      rw [hre, hV'] at this
      exact this
    have HZ : Hid (∀ W, Pq w1 W F pa p r D' V' → PL w W F pa k) := fun W hW => PL.of (hW.back u1) (by rw [← hD', ← hV']; exact hb.cut hk1 _ _)
    clear h hF hb hk1 hs ht ho1 ho2 hw1 hbo u1 k1 hdl hda hdr htt hD' hV' hre
    go_enter Try.func8, Try.ntmps8
    go_upto_region 1 with (fail)
    rw [HW.out, HBo.out]
    go_upto_region 5 with (fail)
    have tw := t1.next (bdq _)
    go_region_held3 (fun Z => Z.cell? ⟨pa, 0, none⟩ = some (.pointer (some ⟨p, 0, none⟩)) ∧ Z.cell? ⟨pa, 1, none⟩ = some (.pointer (some ⟨r, 0, none⟩)) ∧ Z.cell? ⟨bo, 2, none⟩ = some (.string nm) ∧ Z.cell? ⟨bo, 3, none⟩ = some (.string dt) ∧ Z.cell? ⟨bo, 4, none⟩ = some (.int .i64 x)) (first | assumption | (exact HC.out _ _ _ tw) | (exact HC.out _ _ _ t1)) (first
      | (go_at_call 16; (with_reducible refine (HD.out _ tw).mono ?_); rintro e w2 ⟨rfl, tw⟩)
      | (go_at_call 23; (with_reducible refine (HR.out _ tw).mono ?_); rintro e w3 ⟨rfl, tw⟩))
    all_goals
      go_wp2
      go_ret
      exact ⟨rfl, HZ.out _ tw⟩
  · obtain ⟨D', hD'⟩ : ∃ a, (synD D nm.data.toList).1 = a := ⟨_, rfl⟩
    obtain ⟨V', hV'⟩ : ∃ a, (rsyn V nm.data.toList).1 = a := ⟨_, rfl⟩
    obtain ⟨re, hre⟩ : ∃ a, (rsyn V nm.data.toList).2 = a := ⟨_, rfl⟩
    have HD : Hid (∀ W, Pq w1 W F pa p r D V → Calls Try.prog 14 #[.pointer (some ⟨p, 0, none⟩), .string nm] W fun e w' => e = .returned (.int .i64 re) ∧ Pq w1 w' F pa p r D' V) := fun W hW => by
      have := hW.dsync nm hs hda hdl hdr
      rw [(hb.sim.sync nm.data.toList).1, hre, hD'] at this
      exact this
    have HR : Hid (∀ W, Pq w1 W F pa p r D' V → Calls Try.prog 24 #[.pointer (some ⟨r, 0, none⟩), .string nm] W fun e w' => e = .returned (.int .i64 re) ∧ Pq w1 w' F pa p r D' V') := fun W hW => by
      have := hW.rsync hb.fit nm hs
      rw [hre, hV'] at this
      exact this
    have HZ : Hid (∀ W, Pq w1 W F pa p r D' V' → PL w W F pa k) := fun W hW => PL.of (hW.back u1) (by rw [← hD', ← hV']; exact hb.sync hk1 _)
    clear h hF hb hk1 hs ht ho1 ho2 hw1 hbo u1 k1 hdl hda hdr htt hD' hV' hre
    go_enter Try.func8, Try.ntmps8
    go_upto_region 1 with (fail)
    rw [HW.out, HBo.out]
    go_upto_region 7 with (fail)
    have tw := t1.next (bdq _)
    go_region_held3 (fun Z => Z.cell? ⟨pa, 0, none⟩ = some (.pointer (some ⟨p, 0, none⟩)) ∧ Z.cell? ⟨pa, 1, none⟩ = some (.pointer (some ⟨r, 0, none⟩)) ∧ Z.cell? ⟨bo, 2, none⟩ = some (.string nm) ∧ Z.cell? ⟨bo, 3, none⟩ = some (.string dt) ∧ Z.cell? ⟨bo, 4, none⟩ = some (.int .i64 x)) (first | assumption | (exact HC.out _ _ _ tw) | (exact HC.out _ _ _ t1)) (first
      | (go_at_call 14; (with_reducible refine (HD.out _ tw).mono ?_); rintro e w2 ⟨rfl, tw⟩)
      | (go_at_call 24; (with_reducible refine (HR.out _ tw).mono ?_); rintro e w3 ⟨rfl, tw⟩))
    all_goals
      go_wp2
      go_ret
      exact ⟨rfl, HZ.out _ tw⟩
set_option maxRecDepth 100000 in
set_option maxHeartbeats 8000000 in
theorem plays_look (w : World) (h : Pq w w F pa p r D V) (hb : Bd D V k) (hk1 : k + 1 ≤ 2097152) (kind which x n : Int) (k1n : kind ≠ 1) (k2n : kind ≠ 2) (k3n : kind ≠ 3) (k6n : kind ≠ 6) (k9n : kind ≠ 9) (nm dt : ByteArray) (ka : Option Addr) (kb ko kc : Nat) (ks : List Bool) (hs : nm.size ≤ maxLen) (ho1 : -9223372036854775808 ≤ x) (ho2 : x ≤ 9223372036854775807) (hn1 : -9223372036854775808 ≤ n) (hn2 : n ≤ 9223372036854775807) (hk : RdL w ka kb ko ks) (hkl : ks.length ≤ 140737488355328) :
    Calls Try.prog 8 #[.pointer (some ⟨pa, 0, none⟩), .agg #[.int .i64 kind, .int .i64 which, .string nm, .string dt, .int .i64 x, .int .i64 n, .slice ka ks.length kc]] w fun e w' => e = .returned (.bool true) ∧ PL w w' F pa k := by
  obtain ⟨kn, hkn⟩ : ∃ n, ks.length = n := ⟨_, rfl⟩
  obtain ⟨w1, hw1⟩ : ∃ W, w.alloc (.cells #[.int .i64 kind, .int .i64 which, .string nm, .string dt, .int .i64 x, .int .i64 n, .slice ka kn kc] 38) = W := ⟨_, rfl⟩
  have HW := hide hw1
  obtain ⟨bo, hbo⟩ : ∃ b, w.heap.size = b := ⟨_, rfl⟩
  have HBo := hide hbo
  have u1 : Below w.heap.size w w1 := by rw [← hw1]; exact bal (Below.refl _ _) _
  have k1 : w1.heap[bo]? = some (.cells #[.int .i64 kind, .int .i64 which, .string nm, .string dt, .int .i64 x, .int .i64 n, .slice ka kn kc] 38 (0, 0)) := by rw [← hw1, ← hbo]; exact new1 _ _
  have HL : Hid (Calls Try.prog 28 #[.pointer (some ⟨pa, 0, none⟩), .agg #[.int .i64 kind, .int .i64 which, .string nm, .string dt, .int .i64 x, .int .i64 n, .slice ka kn kc]] w1 fun e w' => e = .returned (.bool true) ∧ PL w w' F pa k) := by
    have := looks_any w1 (h.start u1) hb kind which x n nm dt ka kb ko kc ks hs ho1 ho2 hn1 hn2 (hk.next u1) hkl
    rw [hkn] at this
    exact this.mono fun e w' q => ⟨q.1, PL.of (h.next (bnext u1 q.2)) (hb.up hk1)⟩
  have d0 : w1.cell? ⟨bo, 0, none⟩ = some (.int .i64 kind) := by rw [cell_of_row w1 _ 0 _ _ (0, 0) k1]; rfl
  have d1 : w1.cell? ⟨bo, 1, none⟩ = some (.int .i64 which) := by rw [cell_of_row w1 _ 1 _ _ (0, 0) k1]; rfl
  have d2 : w1.cell? ⟨bo, 2, none⟩ = some (.string nm) := by rw [cell_of_row w1 _ 2 _ _ (0, 0) k1]; rfl
  have d3 : w1.cell? ⟨bo, 3, none⟩ = some (.string dt) := by rw [cell_of_row w1 _ 3 _ _ (0, 0) k1]; rfl
  have d4 : w1.cell? ⟨bo, 4, none⟩ = some (.int .i64 x) := by rw [cell_of_row w1 _ 4 _ _ (0, 0) k1]; rfl
  have d5 : w1.cell? ⟨bo, 5, none⟩ = some (.int .i64 n) := by rw [cell_of_row w1 _ 5 _ _ (0, 0) k1]; rfl
  have d6 : w1.cell? ⟨bo, 6, none⟩ = some (.slice ka kn kc) := by rw [cell_of_row w1 _ 6 _ _ (0, 0) k1]; rfl
  rw [hkn]
  clear h hb hk1 hs ho1 ho2 hn1 hn2 hk hkl hkn hw1 hbo u1
  go_enter Try.func8, Try.ntmps8
  go_upto_region 1 with (fail)
  rw [HW.out, HBo.out]
  go_wp2_with (go_at_call 28; (with_reducible refine HL.out.mono ?_); rintro e w2 ⟨rfl, hz⟩)
  all_goals
    go_ret
    exact ⟨rfl, hz⟩
end
end Go.Proofs.Ytmhedhhbdpdafab
